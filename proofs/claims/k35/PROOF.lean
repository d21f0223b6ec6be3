import PyProof.Rows.All
import Wide.All
import OpenK.AllK
import Wide.FinOn
import HandS.ForMost
import HandS.IsInst
import HandS.Wide
import HandS.Conv
import HandS.AnyAll
import HandS.EndTab
import HandS.Flow
import HandS.SetFor
import HandS.Zip
import PyProof.TupleOfGen
import HandS.TupAny
import HandS.Style
import HandS.ExcInit
import HandS.ExcIs
import HandS.ExcField
import HandS.ExcOwn
import HandS.ExcValue
import HandS.FStr
import KE.KExcSuper
import KE.KSuper
import KE.KExcIs
import KE.KDictZip
import KE.GoesEnum
import KE.GoesMore
import HandS.Walk
import HandS.More
import HandS.FStrTup
import PyProof.Rows.ReprOcc
import HandS.TupSets
import HandS.SetIn
import KE.GoesSet
import HandS.Strs
import HandS.TupLen
import KE.KDictWalk
import HandS.GenList
import HandS.SortInts
import HandS.DictComp
import HandS.Iter
import HandS.Star
import KE.SortKeyHeap
import HandS.Lambda
import HandS.Deep
import KE.DataMinMax
import PyProof.Rows.BitMore
import KE.KDictCopyH
import KE.KDictList
import HandS.SetKeys
import KE.DataCmp
import PyProof.DictMoreH
import KE.KDictPairs
import HandS.SetBool
import PyProof.SumAny
import HandS.RevRange
import PySem.Challenge.RW_heldmarks_k35_pieces_and_holders
set_option Elab.async false
set_option linter.all false
set_option maxRecDepth 100000
set_option maxHeartbeats 8000000
namespace HM
open PySem PySem.Spec PyProof.Rows L2
abbrev Grows (h h' : Heap) : Prop := ∀ b o, h.get? b = some o → h'.get? b = some o
theorem mod_up {K : PySem.W.Frag} {mg : Str → Option Value} {h h' : Heap} (m : L2.Mod K mg h) (k : Grows h h') : L2.Mod K mg h' :=
  ⟨m.kin.keeps k, m.glob.keeps k, let ⟨mb, h1, h2⟩ := m.blt; ⟨mb, h1.keeps k, h2⟩, m.nolimit.keeps k⟩
inductive RTy (h : Heap) : Value → String → Prop
  | non : RTy h .none "NoneType"
  | bl (b : Bool) : RTy h (.bool b) "bool"
  | int (i : Int) (t : Tok) : RTy h (.int i t) "int"
  | str (x : Str) (t : Tok) : RTy h (.str x t) "str"
  | lst {a : Addr} {o : Obj} (e : h.get? a = some o) (c : o.cls = .type "list") : RTy h (.ref a) "list"
  | tup {a : Addr} {o : Obj} (e : h.get? a = some o) (c : o.cls = .type "tuple") : RTy h (.ref a) "tuple"
  | dct {a : Addr} {o : Obj} (e : h.get? a = some o) (c : o.cls = .type "dict") : RTy h (.ref a) "dict"
theorem RTy.up {h h' : Heap} {u : Value} {T : String} (r : RTy h u T) (k : Grows h h') : RTy h' u T := by
  cases r with
  | non => exact .non
  | bl b => exact .bl b
  | int i t => exact .int i t
  | str x t => exact .str x t
  | lst e c => exact .lst (k _ _ e) c
  | tup e c => exact .tup (k _ _ e) c
  | dct e c => exact .dct (k _ _ e) c
end HM
namespace HM
open PySem PySem.Spec PyProof.Rows L2
end HM
namespace HM
open PySem PySem.Spec PyProof.Rows L2
end HM
namespace HM
open PySem PySem.Spec PyProof.Rows L2
inductive VTy (K : PySem.W.Frag) (H : Hp) : V → String → Prop
  | non : VTy K H .non "NoneType"
  | bl (b : Bool) : VTy K H (.bl b) "bool"
  | int (i : Int) : VTy K H (.int i) "int"
  | str (x : Str) : VTy K H (.str x) "str"
  | lst {a : Addr} {xs : List V} (e : SqL K H a xs) : VTy K H (.ref a) "list"
  | tup {a : Addr} {xs : List V} (e : SqT K H a xs) : VTy K H (.ref a) "tuple"
  | dct {a : Addr} {kvs : List (Key × V)} (e : H a = some (.dK kvs)) : VTy K H (.ref a) "dict"
end HM
namespace HM
open PySem PySem.Spec PyProof.Rows L2
def noRepr (A : Around) : Prop := A.guards = some []
def anyA (_ : Around) : Prop := True
structure PFn (gd : Around → Prop) (P : Program) (w : World) (K : PySem.W.Frag) (mg : Str → Option Value) (base : Heap) (CX : CXT) (k : Nat) (f : Addr) (fd : FuncData) (ps : List Str) (sp : Sp) : Prop where
  len : ∀ vs H Q E, sp vs H Q E → vs.length = ps.length
  go : ∀ (A : Around) (out : List Env) (s : Shared) (H : Hp) (args : Args) (us : List Value) (vs : List V) (Q : VK) (E : XK), gd A → Room k A → Env0 P w K mg base A out s H → BindsTo s fd args (ps.zip us) → Vals vs us → sp vs H Q E →
    codeAny (model P w) A (.call (.ref f) args) (CR CX out P w H s Q E) s
section
variable {P : Program} {w : World} {K : PySem.W.Frag} {mg : Str → Option Value} {base : Heap}
theorem PFn.ok {CX : CXT} {k : Nat} {f : Addr} {fd : FuncData} {ps : List Str} {sp : Sp} (G : PFn anyA P w K mg base CX k f fd ps sp) : FnOk P w K mg base CX k f fd ps sp := ⟨G.len, fun A out s H args us vs Q E => G.go A out s H args us vs Q E trivial⟩
/-- by the body; fd.code is the running code object -/
theorem pfn_of {gd : Around → Prop} {x qual : Str} {st : Stmt} {f : Addr} {fd : FuncData} {N ps : List Str} {k : Nat} {sp : Sp} (F : Fun K x qual st f fd) (S : FnScope N ps (defScope st)) (len : ∀ vs H Q E, sp vs H Q E → vs.length = ps.length)
    (body : ∀ (cdv : Value) (A : Around) (out : List Env) (s : Shared) (H : Hp) (vs : List V) (Q : VK) (E : XK), fd.code = cdv → gd A → Room k (A.deeper (envOfC qual (defScope st) s.heap.objs.size f cdv)) → sp vs H Q E →
      ∃ t, PSs (cxOf CX0 P w K mg base N qual (defScope st) f cdv A out s H E).nox (defBody st) t ∧ t { nx := fun _ H' => Q .non H', rt := Q } (start N vs) H) : PFn gd P w K mg base CX0 (k + 1) f fd ps sp := by
  obtain ⟨oc, od, kV, doc, pm, an, cdv, ct, osl, rfl, lk, hcd⟩ := F.ex
  refine ⟨len, fun A out s H args us vs Q E hgd hr e0 hb r hsp => ?_⟩
  have M := mod_up e0.mod (fun b o e => (e0.bs b o e).1 : Grows base s.heap)
  have kinds : ∀ y ∈ ps.zip us, (defScope st).names.lookup y.1 = some .local ∨ ((defScope st).names.lookup y.1 = some .cell ∧ ((cellsFrom (s.heap.objs.size + 1) (defScope st).names []).lookup y.1).isSome = true) := by
    intro y hy
    rcases S.par y.1 (List.of_mem_zip (show (y.1, y.2) ∈ ps.zip us from hy)).1 with q | q
    · exact .inl q
    · exact .inr ⟨q, PySem.W.cellsFrom_some _ _ _ (.inl q)⟩
  refine codeAny_call_function hr.depth (M.kin _ _ lk) rfl S.co S.gen rfl (PySem.W.codeRec_of M.kin hcd) (hb _ _ _ _ ?_)
  refine wpAny_newFunctionEnv_cells S.kind kinds fun env he s1 x => ?_
  subst he
  obtain ⟨t, ht, hq⟩ := body cdv A out s H vs Q E rfl hgd (hr.deeper _) hsp
  refine ⟨M.nolimit.keeps x.toInCall.keep, codeAny_func (wpAny_mono (ht.nox.run [] s1 (start N vs) H _ (inv_start S hr.hd e0 (len _ _ _ _ hsp) r x) hq) (fun fl s' hs => ?_) fun e s' hs => hs)⟩
  cases fl with
  | ret u =>
    obtain ⟨v, σ', H', J, rv, q⟩ := hs
    exact ⟨v, H', J.os, J.bare, J.base, J.hok, rv, q⟩
  | next =>
    obtain ⟨σ', H', J, q⟩ := hs
    exact ⟨.non, H', J.os, J.bare, J.base, J.hok, rfl, q⟩
  | brk =>
    obtain ⟨_, _, _, q⟩ := hs
    exact q.elim
  | cont =>
    obtain ⟨_, _, _, q⟩ := hs
    exact q.elim
end
/-- f(e, ..) by such a promise -/
theorem pe_callP {X : Cx} {gd : Around → Prop} {CX : CXT} {k : Nat} {f : Addr} {fd : FuncData} {ps : List Str} {sp : Sp} {E : XK} {x : Str} {p pos : Pos} {e : Expr} {es : List Expr} {t : TA} (G : PFn gd X.prog X.w X.K X.mg X.base CX k f fd ps sp) (hgd : gd X.A) (hr : Room k X.A) (hg : Gl X x) (hm : X.mg x = some (.ref f))
    (hk : PySem.W.keepIn X.K (.ref f) = true) (hb : Binds X.K fd ps []) (hx : Passes CX X E) (ha : PA X (e :: es) t) (hdb : (x == ("__debug__" : Str)) = false := by decide)
    (he : starEach (e :: es) X.env = (false, eval e X.env) :: starEach es X.env := by rfl) (hpl : (backTo pos (starEach es X.env)).any (·.1) = false := by rfl) : PE X (.Call (.Name x p) (e :: es) [] pos) (tCall sp [] E t) := by
  refine ⟨fun pins s σ H Q I h => ?_⟩
  refine wpAny_Call_Name_kw (ld_glob I hg hm ?_ hdb)
  refine PySem.W.callWith_K (h₀ := X.base) I.ok.mod.kin hk (thn (ha.run pos pins s σ H _ I h) fun us s1 hus => ?_) he hpl
  obtain ⟨vs, H1, I1, r, q⟩ := hus
  refine ⟨I1.kIn, ?_⟩
  rw [List.append_nil] at q
  have hl : us.length = ps.length := by rw [← r.length]; exact G.len _ _ _ _ q
  have hbs := hb s1 us I1.kIn (by rw [List.append_nil]; exact hl)
  rw [List.append_nil] at hbs
  refine wpAny_call (codeAny_mono (G.go X.A X.stack s1 H1 ⟨us, []⟩ us vs Q E hgd hr I1.env0 hbs r q) fun r s' hq => ?_)
  match r, hq with
  | .error e, hq => exact hx pins σ H1 s1 e s' I1 hq
  | .ok (.ret u), hq => exact I1.after hq
  | .ok .next, hq => exact hq.elim
  | .ok .brk, hq => exact hq.elim
  | .ok .cont, hq => exact hq.elim
theorem reads_ints {P : Program} {w : World} {h : Heap} : ∀ (ps : List (Int × Int)) (vs : List (Key × Value)) (es : List DictEntry), KV (ps.map fun p => ((Sum.inl p.1 : Key), V.int p.2)) vs → Pairs (mixKind P w) es vs →
    ReadsAll h (es.map (·.key)) (ps.map fun p => .int p.1) [] ∧ ReadsAll h (es.map (·.val)) (ps.map fun p => .int p.2) []
  | [], _, _, .nil, .nil => ⟨.nil, .nil⟩
  | p :: ps, _, _, .cons a r, .cons k v t => by
    obtain ⟨h1, h2⟩ := reads_ints ps _ _ r t
    obtain ⟨e1, e2⟩ := a
    obtain ⟨t2, e3⟩ := (show ∃ t, _ = Value.int p.2 t from e2)
    rw [← e1] at k
    obtain ⟨t1, e4⟩ := Value.isInt_shape (show Value.isInt p.1 _ = true from k)
    rw [List.map_cons, List.map_cons, List.map_cons, List.map_cons, e4, v, e3]
    exact ⟨.cons (as := []) (bs := []) (.int _ _) h1, .cons (as := []) (bs := []) (.int _ _) h2⟩
/-- what repr may be asked of -/
inductive RP (K : PySem.W.Frag) (H : Hp) : V → PyData → Prop
  | flat {x : V} {d : PyData} (h : Dp K H x d) (n : d.hasDict = false) : RP K H x d
  | dict {a : Addr} (ps : List (Int × Int)) (h : H a = some (.dK (ps.map fun p => ((Sum.inl p.1 : Key), V.int p.2)))) : RP K H (.ref a) (.dict (ps.map fun p => (.int p.1, .int p.2)))
section
variable {X : Cx} {pins : List (Addr × Obj)} {σ : L2.St} {H : Hp} {s : Shared}
theorem RP.reads {x : V} {u : Value} {d : PyData} (h : RP X.K H x d) (I : Inv X pins σ H s) (r : RelV x u) : ∃ as, Reads s.heap u d as ∧ (d.hasDict = true → sysModules ∉ as) := by
  cases h with
  | flat h n =>
    obtain ⟨as, q⟩ := Dp.reads I d x u h r
    exact ⟨as, q, PyData.noDict_hsm n⟩
  | @dict a ps h =>
    cases (show u = Value.ref a from r)
    obtain ⟨_, hne, vs, hkv, o, es, ep, h1, h2, h3, _, hp, _⟩ := (show ObjOk X.prog X.w H s.heap a (.dK _) from I.hok a _ h)
    obtain ⟨q1, q2⟩ := reads_ints (h := s.heap) ps vs es.toList hkv hp
    refine ⟨_, Reads.dict h1 h2.1 h3 (kvs := ps.map fun p => (.int p.1, .int p.2)) (by rw [List.map_map]; exact q1) (by rw [List.map_map]; exact q2), fun _ hm => ?_⟩
    have z : sysModules = a := by simpa using hm
    rw [z] at hne
    simp at hne
def rRepr (K : PySem.W.Frag) : List V → Hp → VK → Prop := fun xs H Q => ∃ (x : V) (d : PyData), xs = [x] ∧ RP K H x d ∧ d.showable = true ∧ d.depth ≤ 40 ∧ d.shown.length ≤ sizeLine ∧ Q (.str d.shown) H
theorem call_reprD {k : Nat} (hg : X.A.guards = some []) (hr : Room k X.A) : CallR X (.builtin "repr") (rRepr X.K) := by
  intro pins s σ H xs us Q I r h
  obtain ⟨x, d, rfl, hp, hs, hd, hz, q⟩ := h
  cases r with
  | cons r1 r2 =>
    cases r2
    rename_i u
    obtain ⟨as, hrd, hsm⟩ := hp.reads I r1
    have hu := hr.units
    cases hrd with
    | none => exact PySem.P.repr_of_none ⟨.str _, H, I.tok _, ⟨_, rfl⟩, q⟩
    | bool b => exact PySem.P.repr_of_bool ⟨.str _, H, I.tok _, ⟨_, rfl⟩, q⟩
    | int i t => exact PySem.P.repr_of_int (by simpa [PyData.showable] using hs) ⟨.str _, H, I.tok _, ⟨_, rfl⟩, q⟩
    | str y t => exact PySem.P.repr_of_str ⟨.str _, H, I.tok _, ⟨_, rfl⟩, q⟩ hz
    | list h1 h2 h3 h4 => exact repr_of_reads' (Reads.list h1 h2 h3 h4) hs hsm hg (by omega) (fun _ _ e => e) (fun h' u tk hk => ⟨.str _, H, I.kept hk, ⟨_, rfl⟩, q⟩) hz
    | tuple h1 h2 h3 h4 => exact repr_of_reads' (Reads.tuple h1 h2 h3 h4) hs hsm hg (by omega) (fun _ _ e => e) (fun h' u tk hk => ⟨.str _, H, I.kept hk, ⟨_, rfl⟩, q⟩) hz
    | dict h1 h2 h3 h4 h5 => exact repr_of_reads' (Reads.dict h1 h2 h3 h4 h5) hs hsm hg (by omega) (fun _ _ e => e) (fun h' u tk hk => ⟨.str _, H, I.kept hk, ⟨_, rfl⟩, q⟩) hz
end
end HM
namespace HM
open PySem PySem.Spec PyProof.Rows L2
abbrev tabObj : Obj := { cls := .none, data := .fields #[] }
abbrev scrObj (vs : List Value) : Obj := { cls := .type "list", data := .seq vs.toArray }
/-- the tables ts; the script, where it is none of the written part -/
def H0 (K : PySem.W.Frag) (ts : List Addr) (a : Addr) (vs : List Value) (ns : List Int) : Hp := fun b =>
  if b ∈ ts then some (.tbl #[]) else if b = a ∧ K.lookup a = none then some (.frz (scrObj vs) (.lst (ns.map V.int))) else none
theorem H0_tab {K : PySem.W.Frag} {ts : List Addr} {a b : Addr} {vs : List Value} {ns : List Int} (h : b ∈ ts) : H0 K ts a vs ns b = some (.tbl #[]) := if_pos h
theorem H0_scr {K : PySem.W.Frag} {ts : List Addr} {a : Addr} {vs : List Value} {ns : List Int} (h : a ∉ ts) (k : K.lookup a = none) : H0 K ts a vs ns a = some (.frz (scrObj vs) (.lst (ns.map V.int))) := (if_neg h).trans (if_pos ⟨rfl, k⟩)
theorem H0_cases {K : PySem.W.Frag} {ts : List Addr} {a b : Addr} {vs : List Value} {ns : List Int} {u : HO} (h : H0 K ts a vs ns b = some u) : (b ∈ ts ∧ u = .tbl #[]) ∨ (b = a ∧ K.lookup a = none ∧ u = .frz (scrObj vs) (.lst (ns.map V.int))) := by
  unfold H0 at h
  by_cases h1 : b ∈ ts
  · rw [if_pos h1] at h
    exact .inl ⟨h1, (Option.some.inj h).symm⟩
  · rw [if_neg h1] at h
    by_cases h2 : b = a ∧ K.lookup a = none
    · rw [if_pos h2] at h
      exact .inr ⟨h2.1, h2.2, (Option.some.inj h).symm⟩
    · rw [if_neg h2] at h
      cases h
theorem H0_none {K : PySem.W.Frag} {ts : List Addr} {a b : Addr} {vs : List Value} {ns : List Int} (h1 : b ∉ ts) (h2 : b = a → K.lookup a ≠ none) : H0 K ts a vs ns b = none := by
  unfold H0
  rw [if_neg h1, if_neg fun z => h2 z.1 z.2]
/-- the script: locked, or of the written part -/
def Scr (K : PySem.W.Frag) (H : Hp) (a : Addr) (ns : List Int) : Prop := (∃ ob, H a = some (.frz ob (.lst (ns.map V.int)))) ∨
  ∃ (o : Obj) (its : Array Value) (n : Nat), K.lookup a = some o ∧ o.cls = .type "list" ∧ o.dict = none ∧ o.data = .seq its n ∧ its.size ≤ sizeLine ∧ Vals (ns.map V.int) its.toList
theorem Scr.sq {K : PySem.W.Frag} {H : Hp} {a : Addr} {ns : List Int} (h : Scr K H a ns) : SqL K H a (ns.map V.int) := by
  rcases h with h | h
  · exact .inl (.inr h)
  · exact .inr h
/-- it stays while nothing locked is lost -/
theorem Scr.up {K : PySem.W.Frag} {H H' : Hp} {a : Addr} {ns : List Int} (h : Scr K H a ns) (k : ∀ b ob u, H b = some (.frz ob u) → H' b = some (.frz ob u)) : Scr K H' a ns := by
  rcases h with ⟨ob, h⟩ | h
  · exact .inl ⟨ob, k _ _ _ h⟩
  · exact .inr h
theorem end_go {P : Program} {w : World} {K : PySem.W.Frag} {mg mb : Str → Option Value} {k : Nat} {fa a : Addr} {cs : List (Addr × Addr)} {fd : FuncData} {x : Str} {sp : Sp} {s₁ : Shared} {vs : List Value} {ns : List Int}
    (KX : K.In s₁.heap) (hns : s₁.heap.Ns mainGlobals mg) (hb : s₁.heap.Ns builtinsNs mb) (hbb : ∀ y : Str, y ≠ "__name__" → mb y = bootBuiltins y) (hlim : s₁.heap.NoLimit) (hg : s₁.gens = #[])
    (hT : ∀ p ∈ cs, s₁.heap.get? p.2 = some tabObj) (nT : ∀ p ∈ cs, K.lookup p.2 = none) (hC : ∀ p ∈ cs, PySem.W.CodeHd s₁.heap p.1 p.2)
    (hbm : ∃ (bm : Addr) (ob : Obj), mg "__builtins__" = some (.ref bm) ∧ bm ≠ builtinsNs ∧ s₁.heap.get? bm = some ob ∧ ob.cls = .type "module" ∧ ob.dict = some builtinsNs ∧ ob.data = .plain)
    (ha : s₁.heap.get? a = some (scrObj vs)) (hi : IntsAre vs ns) (hl : ns.length ≤ sizeLine) (hr : Room k callerA)
    (F : ∀ base : Heap, K.In base → base.Ns mainGlobals mg → (∀ p ∈ cs, GxR.TabB base mg p.1 p.2) → PFn noRepr P w K mg base CX0 k fa fd [x] sp) (hbind : ∀ (s : Shared) (u : Value), BindsTo s fd ⟨[u], []⟩ [(x, u)])
    (hsp : ∀ H : Hp, (∀ p ∈ cs, H p.2 = some (.tbl #[])) → Scr K H a ns → sp [.ref a] H (fun v _ => v = .bl true) fun _ _ _ => False) :
    codeAny (model P w) callerA (.call (.ref fa) ⟨[.ref a], []⟩) (fun r s' => r = .ok (.ret (.bool true)) ∧ OldK s₁.heap s'.heap ∧ s'.os = s₁.os ∧ AllBare s'.gens) s₁ := by
  have isT : ∀ b ∈ cs.map (·.2), s₁.heap.get? b = some tabObj := fun b hb => by
    obtain ⟨p, hp, e⟩ := List.mem_map.mp hb
    exact e ▸ hT p hp
  have kT : ∀ b ∈ cs.map (·.2), K.lookup b = none := fun b hb => by
    obtain ⟨p, hp, e⟩ := List.mem_map.mp hb
    exact e ▸ nT p hp
  have inT : ∀ p ∈ cs, p.2 ∈ cs.map (·.2) := fun p hp => List.mem_map.mpr ⟨p, hp, rfl⟩
  have aT : a ∉ cs.map (·.2) := fun z => by
    have q := (isT a z).symm.trans ha
    cases q
  obtain ⟨H, eH⟩ : ∃ H : Hp, H = H0 K (cs.map (·.2)) a vs ns := ⟨_, rfl⟩
  -- what is neither a table nor the script is not tracked
  have free : ∀ (b : Addr) (o : Obj), s₁.heap.get? b = some o → o ≠ tabObj → o ≠ scrObj vs → H b = none := fun b o e n1 n2 => by
    rw [eH]
    refine H0_none (fun z => n1 ?_) fun z => absurd ?_ n2
    · exact Option.some.inj (e.symm.trans (isT b z))
    · rw [z] at e
      exact Option.some.inj (e.symm.trans ha)
  have freeK : ∀ (b : Addr) (o : Obj), K.lookup b = some o → H b = none := fun b o e => by
    rw [eH]
    refine H0_none (fun z => ?_) fun z h => ?_
    · rw [kT b z] at e
      cases e
    · rw [z, h] at e
      cases e
  have hok : HOk P w H s₁.heap := fun b u e => by
    rw [eH] at e
    rcases H0_cases e with ⟨h1, rfl⟩ | ⟨rfl, h2, rfl⟩
    · exact isT b h1
    · exact ⟨ha, by rw [List.length_map]; exact hl, vs, _, vals_ints hi, ha⟩
  have hS : Scr K H a ns := by
    cases hk : K.lookup a with
    | none =>
      rw [eH]
      exact .inl ⟨_, H0_scr aT hk⟩
    | some o =>
      have e := (KX a o hk).symm.trans ha
      cases e
      exact .inr ⟨_, vs.toArray, _, hk, rfl, rfl, rfl, by rw [List.size_toArray, hi.length]; exact hl, by simpa using vals_ints hi⟩
  have nsB : ∀ {b : Addr} {m : Str → Option Value}, s₁.heap.Ns b m → (hidT s₁.heap H).Ns b m := fun {b m} h => by
    obtain ⟨o, es, ep, e, d, r⟩ := h
    refine ⟨o, es, ep, hidT_get e (free b o e (fun z => ?_) fun z => ?_), d, r⟩
    · rw [z] at d
      cases d
    · rw [z] at d
      cases d
  have kB : K.In (hidT s₁.heap H) := fun b o e => hidT_get (KX b o e) (freeK b o e)
  have modB : L2.Mod K mg (hidT s₁.heap H) := ⟨kB, nsB hns, ⟨mb, nsB hb, hbb⟩, let ⟨mc, h1, h2⟩ := hlim; ⟨mc, nsB h1, h2⟩⟩
  have tabB : ∀ p ∈ cs, GxR.TabB (hidT s₁.heap H) mg p.1 p.2 := fun p hp => by
    refine ⟨?_, ?_, fun z => ?_⟩
    · obtain ⟨o, us, file, tf, flags, tg, inF, text, tt, e1, c1, d1, r3, r⟩ := hC p hp
      refine ⟨o, us, file, tf, flags, tg, inF, text, tt, hidT_get e1 (free _ o e1 (fun z => ?_) fun z => ?_), c1, d1, r3, r⟩
      · rw [z] at c1
        cases c1
      · rw [z] at c1
        injection (show Value.type "list" = Value.type "code" from c1) with c2
        exact absurd c2 (by decide)
    · obtain ⟨bm, ob, b1, b2, b3, b4, b5, b6⟩ := hbm
      refine ⟨bm, ob, b1, b2, fun q => ?_, fun q => ?_, hidT_get b3 (free bm ob b3 (fun z => ?_) fun z => ?_), b4, b5, b6⟩
      · obtain ⟨o, es, ep, e, d, _⟩ := hns
        rw [q, e] at b3
        cases b3
        rw [d] at b6
        cases b6
      · rw [q, hT p hp] at b3
        cases b3
        cases b6
      · rw [z] at b6
        cases b6
      · rw [z] at b6
        cases b6
    · obtain ⟨o, es, ep, e, d, _⟩ := hns
      rw [z, hT p hp] at e
      cases e
      cases d
  have e0 : Env0 P w K mg (hidT s₁.heap H) callerA [] s₁ H := ⟨rfl, modB, fun b o e => of_hidT e, Nat.le_of_eq (hidT_size _ _), trivial, fun b hb => absurd (show b ∈ ([] : List Addr) from hb) (by simp), hok, .of_eq hg⟩
  have tH : ∀ p ∈ cs, H p.2 = some (.tbl #[]) := fun p hp => by
    rw [eH]
    exact H0_tab (inT p hp)
  refine codeAny_mono ((F _ kB (nsB hns) tabB).go callerA [] s₁ H ⟨[.ref a], []⟩ [.ref a] [.ref a] _ _ rfl hr e0 (hbind s₁ (.ref a)) (.cons rfl .nil) (hsp H tH hS)) fun r s' h => ?_
  match r, h with
  | .error e, h => exact False.elim h
  | .ok .next, h => exact False.elim h
  | .ok .brk, h => exact False.elim h
  | .ok .cont, h => exact False.elim h
  | .ok (.ret u), h =>
    obtain ⟨v, H', os, bare, un, hok', r', q⟩ := h
    obtain rfl : v = .bl true := q
    obtain rfl : u = Value.bool true := r'
    have same : ∀ b o, b ∉ cs.map (·.2) → s₁.heap.get? b = some o → s'.heap.get? b = some o := fun b o nb e => by
      cases q : H b with
      | none => exact un.keep b o e q (fun z => absurd (show b ∈ ([] : List Addr) from z) (by simp)) (by simp)
      | some u =>
        have q2 := q
        rw [eH] at q2
        rcases H0_cases q2 with ⟨h1, _⟩ | ⟨_, _, rfl⟩
        · exact absurd h1 nb
        · have e1 := (hok b _ q).1
          have e2 := (hok' b _ (un.frzs b _ _ q)).1
          exact e2.trans (e1.symm.trans e)
    have grew : ∀ p ∈ cs, ∃ more : Array Value, s'.heap.get? p.2 = some { cls := .none, data := .fields more } := fun p hp => by
      obtain ⟨more, z⟩ := un.tbls p.2 #[] (tH p hp)
      exact ⟨_, hok' p.2 _ z⟩
    refine ⟨rfl, ⟨fun b o e => ?_, fun b o e => ?_⟩, os, bare⟩
    · by_cases hb : b ∈ cs.map (·.2)
      · obtain ⟨p, hp, rfl⟩ := List.mem_map.mp hb
        obtain ⟨more, hm⟩ := grew p hp
        obtain rfl : o = tabObj := Option.some.inj (e.symm.trans (hT p hp))
        exact .inr (.inl ⟨((hC p hp).tab (hT p hp)).isCodeTable, rfl, #[], more, rfl, by rw [Array.empty_append]; exact hm⟩)
      · exact .inl (same b o hb e)
    · by_cases hb : b ∈ cs.map (·.2)
      · obtain ⟨p, hp, rfl⟩ := List.mem_map.mp hb
        obtain ⟨more, hm⟩ := grew p hp
        exact ⟨_, hm⟩
      · exact ⟨o, same b o hb e⟩
/-- the table of the def called n: its code object's, empty as yet -/
def TabOf (mg : Str → Option Value) (h : Heap) (n : Str) (c Pt : Addr) : Prop := ∃ (f : Addr) (o : Obj) (fd : FuncData), mg n = some (.ref f) ∧ h.get? f = some o ∧ o.data = .func fd ∧ fd.code = .ref c ∧ PySem.W.CodeHd h c Pt ∧ h.get? Pt = some tabObj
theorem walk_G {l : PySem.W.OpenLaw} {n k : Nat} {q : Program} {loose : List Str} {XP : (Str → Option Value) → Heap → Prop} {YP : World → Heap → Prop} {d : DefRec} {K : Params → PySem.W.Frag} {x : Str} (gs : List Str)
    (hn : l.most = some n) (hn2 : n ≤ sizeLine) (hdf : d.params.defaults = []) (hr : Room k callerA) (hrec : ∀ g ∈ gs, ((recsOf q).any fun e => e.name == g) = true) (hY : ∀ (w : World) (h : Heap), YP w h → (K w.params).In h)
    (F : ∀ (w : World) (mg : Str → Option Value) (fa : Addr) (h : Heap), YP w h → (K w.params).In h → h.Ns mainGlobals mg → mg d.name = some (.ref fa) → (∀ g ∈ gs, ∃ c Pt, TabOf mg h g c Pt) →
      ∃ (fd : FuncData) (cs : List (Addr × Addr)) (sp : Sp), (∀ p ∈ cs, h.get? p.2 = some tabObj) ∧ (∀ p ∈ cs, (K w.params).lookup p.2 = none) ∧ (∀ p ∈ cs, PySem.W.CodeHd h p.1 p.2) ∧ (∀ (s : Shared) (u : Value), BindsTo s fd ⟨[u], []⟩ [(x, u)]) ∧
        (∀ (H : Hp) (a : Addr) (ns : List Int), ns.length ≤ n → (∀ z ∈ ns, Builtin.Int.intBits z ≤ 1048576) → (∀ p ∈ cs, H p.2 = some (.tbl #[])) → Scr (K w.params) H a ns → sp [.ref a] H (fun v _ => v = .bl true) fun _ _ _ => False) ∧
        ∀ base : Heap, (K w.params).In base → base.Ns mainGlobals mg → (∀ p ∈ cs, GxR.TabB base mg p.1 p.2) → PFn noRepr l.prog w (K w.params) mg base CX0 k fa fd [x] sp) :
    PySem.W.WalkO q loose XP YP l.row.toRowW d [] (fun f vs => PySem.call f vs) := by
  refine Att.attach_callB hn hdf fun w s₀ s₁ mg mb fa o pm cd doc a vs ns G Y ho hd hcd hmg hobj hints hlen hbits hg => ?_
  have KX := hY w _ Y
  have tabs : ∀ g ∈ gs, ∃ c Pt, TabOf mg s₁.heap g c Pt := fun g hgm => by
    obtain ⟨dL, hm, hn1⟩ := List.any_eq_true.mp (hrec g hgm)
    obtain ⟨f, o', fd', c, Pt, h1, h2, h3, h4, h5, h6⟩ := G.T.tab dL hm
    rw [beq_iff_eq.mp hn1] at h1
    exact ⟨c, Pt, f, o', fd', h1, h2, h3, h4, PySem.W.CodeHd.of h5 h6, h6.2⟩
  obtain ⟨fd, cs, sp, hT, nT, hC, hb, hsp, hF⟩ := F w mg fa _ Y KX G.T.g hmg tabs
  exact end_go KX G.T.g G.T.b G.T.builtins G.T.nolimit hg hT nT hC G.T.bmain hobj hints (Nat.le_trans hlen hn2) hr hF hb fun H hH hS => hsp H a ns hlen hbits hH hS
end HM
namespace HM
open PySem PySem.Spec PyProof.Rows L2
def TF (H : Hp) (a : Addr) (xs : List V) : Prop := ∃ o : Obj, o.dict = none ∧ H a = some (.frz o (.tup xs))
theorem TF.sq {K : PySem.W.Frag} {H : Hp} {a : Addr} {xs : List V} (h : TF H a xs) : SqT K H a xs := let ⟨o, _, e⟩ := h; .inl (.inr ⟨o, e⟩)
end HM
namespace HM
open PySem PySem.Spec PyProof.Rows L2
end HM
namespace HM
open PySem PySem.Spec PyProof.Rows L2
end HM
namespace HM
open PySem PySem.Spec PyProof.Rows L2
end HM
namespace HM
open PySem PySem.Spec PyProof.Rows L2
end HM
namespace HM
open PySem PySem.Spec PyProof.Rows L2
end HM
namespace HM
open PySem PySem.Spec PyProof.Rows L2
end HM
namespace HM
open PySem PySem.Spec PyProof.Rows L2
end HM
namespace HM
open PySem PySem.Spec PyProof.Rows L2
def pk (a : Addr) (t l : Int) : List (Key × V) := [(.inr "script", .ref a), (.inr "at", .int t), (.inr "left", .int l)]
def isPen (K : PySem.W.Frag) (H : Hp) (p : Addr) (t : Int) : Prop := ∃ (a : Addr) (ns : List Int) (l : Int), H p = some (.dK (pk a t l)) ∧ Scr K H a ns ∧ ns.length ≤ 63 ∧ 0 ≤ t ∧ 0 ≤ l
/-- only what stands at p has changed -/
def But (p : Addr) (H H' : Hp) : Prop := ∀ b, b ≠ p → H' b = H b
end HM
namespace HM
open PySem PySem.Spec PyProof.Rows L2
/-- all that was tracked but for p is as it was -/
def Kept (p : Addr) (H H' : Hp) : Prop := ∀ b o, H b = some o → b ≠ p → H' b = some o
theorem Kept.trans {p : Addr} {H H1 H2 : Hp} (a : Kept p H H1) (b : Kept p H1 H2) : Kept p H H2 := fun c o e n => b c o (a c o e n) n
theorem Kept.refl (p : Addr) (H : Hp) : Kept p H H := fun _ _ e _ => e
theorem But.kept {p : Addr} {H H' : Hp} (h : But p H H') : Kept p H H' := fun b o e n => by rw [h b n]; exact e
def noX : XK := fun _ _ _ => False
theorem isPen.up {K : PySem.W.Frag} {H H' : Hp} {p : Addr} {t : Int} (h : isPen K H p t) (k : ∀ b o, H b = some o → b = p ∨ (∃ ob u, o = .frz ob u) → H' b = some o) : isPen K H' p t := by
  obtain ⟨a, ns, l, h1, h2, r⟩ := h
  exact ⟨a, ns, l, k _ _ h1 (.inl rfl), h2.up fun b ob u e => k _ _ e (.inr ⟨ob, u, rfl⟩), r⟩
theorem isPen.lay {K : PySem.W.Frag} {H : Hp} {p q : Addr} {t : Int} {o : HO} (h : isPen K H p t) (n : H q = none) : isPen K (upd H q o) p t :=
  h.up fun b u e _ => by rw [upd_ne (ne_of_none e n)]; exact e
theorem isPen.put {K : PySem.W.Frag} {H : Hp} {p q : Addr} {t : Int} {xs ys : List V} (h : isPen K H p t) (n : H q = some (.lst xs)) : isPen K (upd H q (.lst ys)) p t := by
  obtain ⟨a, ns, l, h1, _⟩ := _root_.id h
  refine h.up fun b u e c => ?_
  rw [upd_ne fun z => ?_]
  · exact e
  · subst z
    rw [n] at e
    cases e
    rcases c with c | ⟨ob, u, c⟩
    · rw [c, h1] at n
      cases n
    · cases c
end HM
namespace HM
open PySem PySem.Spec PyProof.Rows L2
def numD (n : Int) : PyData → Bool
  | .int i => decide (0 ≤ i) && decide (i < n)
  | _ => false
def itD : PyData → Int
  | .int i => i
  | _ => 0
def eachOnce (ds : List PyData) (n : Int) : Bool := decide ((ds.length : Int) = n) && (ds.all (numD n) && decide (ds.map itD).Nodup)
def turnD : PyData → Bool
  | .tuple ds => (decide (1 ≤ ds.length) && decide (ds.length ≤ 7)) && eachOnce ds ds.length
  | _ => false
end HM
namespace HM
open PySem PySem.Spec PyProof.Rows L2
/-- what a thing is, for who asks whether it is a turn -/
def TC (K : PySem.W.Frag) (H : Hp) (x : V) (d : PyData) : Prop := (∃ (a : Addr) (xs : List V) (ds : List PyData), x = .ref a ∧ d = .tuple ds ∧ TF H a xs ∧ DpAll K H xs ds) ∨ (∃ T, VTy K H x T ∧ kitB T "tuple" = some false ∧ turnD d = false)
end HM
namespace HM
open PySem PySem.Spec PyProof.Rows L2
mutual
def cost : PyData → Nat
  | .none => 4
  | .bool _ => 5
  | .int _ => 1921
  | .str x => (reprText x).length
  | .list xs => costs xs + 2
  | .tuple xs => costs xs + 2
  | .dict kvs => costKv kvs + 2
def costs : List PyData → Nat
  | [] => 0
  | x :: xs => cost x + 2 + costs xs
def costKv : List (PyData × PyData) → Nat
  | [] => 0
  | (k, v) :: r => cost k + 2 + cost v + 2 + costKv r
end
theorem textFrom_up : ∀ (ts : List Str) (k : Nat) (acc : Str), (textFrom k acc ts).length ≤ acc.length + piled ts
  | [], k, acc => by
    rw [piled_nil]
    exact Nat.le_refl _
  | t :: r, k, acc => by
    rw [piled_cons]
    unfold textFrom
    refine Nat.le_trans (textFrom_up r _ _) ?_
    split
    · rw [strLen_append, strLen_append, show ((", " : Str)).length = 2 by decide +kernel]
      omega
    · rw [strLen_append, strLen_append, show (("" : Str)).length = 0 by decide +kernel]
      omega
theorem listText_up (ts : List Str) : (listText ts).length ≤ piled ts + 2 := by
  unfold listText
  rw [strLen_append, show (("]" : Str)).length = 1 by decide +kernel]
  have h := textFrom_up ts 0 "["
  rw [show (("[" : Str)).length = 1 by decide +kernel] at h
  omega
def UpN (H H' : Hp) : Prop := ∀ b o, H b = some o → (∀ q, o ≠ .tbl q) → H' b = some o
theorem UpN.refl (H : Hp) : UpN H H := fun _ _ e _ => e
theorem UpN.trans {H H1 H2 : Hp} (a : UpN H H1) (b : UpN H1 H2) : UpN H H2 := fun c o e n => b c o (a c o e n) n
theorem UpN.of_same {H H' : Hp} (h : Same H H') : UpN H H' := fun b o e _ => h b o e
theorem TF.up {H H' : Hp} {a : Addr} {xs : List V} (h : TF H a xs) (k : UpN H H') : TF H' a xs := let ⟨o, h1, h2⟩ := h; ⟨o, h1, k _ _ h2 fun q z => by cases z⟩
theorem sqL_up {K : PySem.W.Frag} {H H' : Hp} {a : Addr} {xs : List V} (h : SqL K H a xs) (k : UpN H H') : SqL K H' a xs := by
  rcases h with (h | ⟨o, h⟩) | h
  · exact .inl (.inl (k _ _ h fun q z => by cases z))
  · exact .inl (.inr ⟨o, k _ _ h fun q z => by cases z⟩)
  · exact .inr h
theorem sqT_up {K : PySem.W.Frag} {H H' : Hp} {a : Addr} {xs : List V} (h : SqT K H a xs) (k : UpN H H') : SqT K H' a xs := by
  rcases h with (h | ⟨o, h⟩) | h
  · exact .inl (.inl (k _ _ h fun q z => by cases z))
  · exact .inl (.inr ⟨o, k _ _ h fun q z => by cases z⟩)
  · exact .inr h
mutual
theorem dp_up {K : PySem.W.Frag} {H H' : Hp} (k : UpN H H') : ∀ {v : V} {d : PyData}, Dp K H v d → Dp K H' v d
  | _, _, .non => .non
  | _, _, .bl b => .bl b
  | _, _, .int i => .int i
  | _, _, .str x => .str x
  | _, _, .lst h t => .lst (sqL_up h k) (dps_up k t)
  | _, _, .tup h t => .tup (sqT_up h k) (dps_up k t)
theorem dps_up {K : PySem.W.Frag} {H H' : Hp} (k : UpN H H') : ∀ {vs : List V} {ds : List PyData}, DpAll K H vs ds → DpAll K H' vs ds
  | _, _, .nil => .nil
  | _, _, .cons h t => .cons (dp_up k h) (dps_up k t)
end
end HM
namespace HM
open PySem PySem.Spec PyProof.Rows L2
/-- data that are small -/
def smI (i : Int) : Bool := decide (i.natAbs ≤ 10 ^ 29)
def smD : PyData → Bool
  | .int i => smI i
  | .bool _ => true
  | .none => true
  | .str x => decide (x = "0")
  | .tuple [.int i] => smI i
  | .list [.int i] => smI i
  | _ => false
/-- a tuple of few small things -/
def NearT (K : PySem.W.Frag) (H : Hp) (x : V) : Prop := ∃ (a : Addr) (ys : List V) (ds : List PyData), x = .ref a ∧ TF H a ys ∧ DpAll K H ys ds ∧ ds.length ≤ 16 ∧ ds.all smD = true
theorem NearT.up {K : PySem.W.Frag} {H H' : Hp} {x : V} (h : NearT K H x) (k : UpN H H') : NearT K H' x := by
  obtain ⟨a, ys, ds, h1, h2, h3, r⟩ := h
  exact ⟨a, ys, ds, h1, h2.up k, dps_up k h3, r⟩
end HM
namespace HM
open PySem PySem.Spec PyProof.Rows L2
def It (k c : Nat) (d : PyData) : Prop := d.showable = true ∧ d.hasDict = false ∧ d.depth ≤ k ∧ cost d ≤ c
def Th (K : PySem.W.Frag) (H : Hp) (x : V) : Prop := ∃ d, RP K H x d ∧ TC K H x d ∧ d.showable = true ∧ d.depth ≤ 40 ∧ d.shown.length ≤ sizeLine ∧ ∀ ds, d = .tuple ds → ds.length ≤ 4000
theorem vty_up {K : PySem.W.Frag} {H H' : Hp} {x : V} {T : String} (t : VTy K H x T) (k : UpN H H') : VTy K H' x T := by
  cases t with
  | non => exact .non
  | bl b => exact .bl b
  | int i => exact .int i
  | str y => exact .str y
  | lst e => exact .lst (sqL_up e k)
  | tup e => exact .tup (sqT_up e k)
  | dct e => exact .dct (k _ _ e fun q z => by cases z)
theorem rp_up {K : PySem.W.Frag} {H H' : Hp} {x : V} {d : PyData} (h : RP K H x d) (k : UpN H H') : RP K H' x d := by
  cases h with
  | flat h n => exact .flat (dp_up k h) n
  | dict ps h => exact .dict ps (k _ _ h fun q z => by cases z)
theorem tc_up {K : PySem.W.Frag} {H H' : Hp} {x : V} {d : PyData} (h : TC K H x d) (k : UpN H H') : TC K H' x d := by
  rcases h with ⟨a, xs, ds, h1, h2, h3, h4⟩ | ⟨T, h1, h2⟩
  · exact .inl ⟨a, xs, ds, h1, h2, h3.up k, dps_up k h4⟩
  · exact .inr ⟨T, vty_up h1 k, h2⟩
theorem Th.up {K : PySem.W.Frag} {H H' : Hp} {x : V} (h : Th K H x) (k : UpN H H') : Th K H' x := by
  obtain ⟨d, h1, h2, r⟩ := h
  exact ⟨d, rp_up h1 k, tc_up h2 k, r⟩
def okS (x : Str) : Prop := ∀ c ∈ x.cps.toList, c < 16 ^ 8
end HM
namespace HM
open PySem PySem.Spec PyProof.Rows L2
end HM
namespace HM
open PySem PySem.Spec PyProof.Rows L2
theorem same_lay {H : Hp} {q : Addr} {o : HO} (n : H q = none) : Same H (upd H q o) := fun b u e => by rw [upd_ne (ne_of_none e n)]; exact e
theorem UpN.lay {H J : Hp} {q : Addr} {o : HO} (u : UpN H J) (n : J q = none) : UpN H (upd J q o) := u.trans (.of_same (same_lay n))
theorem UpN.set {H J : Hp} {q : Addr} {o : HO} (u : UpN H J) (n : H q = none) : UpN H (upd J q o) := fun b p e z => by rw [upd_ne (ne_of_none e n)]; exact u b p e z
theorem isPen.kept {K : PySem.W.Frag} {H H' : Hp} {p : Addr} {t : Int} {b : Addr} {o : HO} (hp : isPen K H p t) (k : Kept p H H') (e : H b = some o) (hd : ∀ kv, o ≠ .dK kv) : H' b = some o := by
  refine k _ _ e fun z => ?_
  obtain ⟨_, _, _, e2, _⟩ := hp
  rw [z, e2] at e
  exact hd _ (Option.some.inj e).symm
/-- all that was tracked is as it was, but for the pen and the tables -/
def UpP (p : Addr) (H H' : Hp) : Prop := ∀ b o, H b = some o → b ≠ p → (∀ q, o ≠ .tbl q) → H' b = some o
theorem UpP.refl (p : Addr) (H : Hp) : UpP p H H := fun _ _ e _ _ => e
theorem UpP.trans {p : Addr} {H H1 H2 : Hp} (a : UpP p H H1) (b : UpP p H1 H2) : UpP p H H2 := fun c o e n z => b c o (a c o e n z) n z
theorem UpP.set {p : Addr} {H J : Hp} {q : Addr} {o : HO} (u : UpP p H J) (n : H q = none) : UpP p H (upd J q o) := fun b r e h z => by rw [upd_ne (ne_of_none e n)]; exact u b r e h z
/-- data, read through a heap that has lost nothing of it but the pen -/
def noPen (p : Addr) (H : Hp) : Prop := ∀ l, H p ≠ some (.lst l) ∧ H p ≠ some (.tup l) ∧ ∀ o u, H p ≠ some (.frz o u)
theorem TF.p {H H' : Hp} {p a : Addr} {xs : List V} (hp : HM.noPen p H) (u : UpP p H H') (h : TF H a xs) : TF H' a xs := let ⟨o, h1, h2⟩ := h; ⟨o, h1, u _ _ h2 (fun z => by rw [z] at h2; exact (hp xs).2.2 _ _ h2) fun q z => by cases z⟩
end HM
namespace HM
open PySem PySem.Spec PyProof.Rows L2
end HM
namespace HM
open PySem PySem.Spec PyProof.Rows L2
/-- a def of the text as the top has left it -/
structure DefAt (K : PySem.W.Frag) (x : Str) (st : Stmt) (f : Addr) (oc : Value) (od : Option Addr) (kV doc pm : Value) (an : Option Addr) (cdv ct : Value) (sl : Array (Option Value)) : Prop where
  a : PySem.W.nsIn K mainGlobals x = some (some (.ref f))
  l : K.lookup f = some ⟨oc, od, .func (PySem.W.fnOf x x (defArgs st) (defBody st) (defScope st) .none kV doc pm an cdv ct), sl⟩
  c : PySem.W.codeIn K cdv x = true
  k : PySem.W.keepIn K (.ref f) = true
theorem DefAt.fn {K : PySem.W.Frag} {x : Str} {st : Stmt} {f : Addr} {oc : Value} {od : Option Addr} {kV doc pm : Value} {an : Option Addr} {cdv ct : Value} {sl : Array (Option Value)} (D : DefAt K x st f oc od kV doc pm an cdv ct sl) : Fun K x x st f (PySem.W.fnOf x x (defArgs st) (defBody st) (defScope st) .none kV doc pm an cdv ct) := fun_mk D.l D.c D.k
/-- what is asked of a class of refusals whose objects are kept and asked -/
structure ExAt (K : PySem.W.Frag) (C Mk : Addr) : Prop where
  te : PySem.W.exmOne K (.ref C) (.ref Mk) = some true
  kC : PySem.W.kitOne K (.ref C) (.ref C) = some true
  kV : PySem.W.kitOne K (.ref C) (.type "ValueError") = some true
  xg : PySem.W.findIn K (.ref C) "__getattribute__" = some (some (.builtin "BaseException.__getattribute__"))
  xk : PySem.W.findIn K (.ref C) "__getattr__" = some none
  xs : PySem.W.subIn K (.ref C) (.type "BaseException") = some true
  xd : PySem.W.hasDictIn K C = true
  xa : PySem.W.findIn K (.ref C) "__class__" = some (some (.builtin "object.__class__"))
  xn : PySem.W.specialIn K (.builtin "object.__class__") "__get__" = some (some (.builtin "getset_descriptor.__get__"))
  xt : PySem.W.takesIn K (.builtin "object.__class__") = some true
  xm : PySem.W.mroIn K C (.type "object") = some true
theorem ExAt.F {K : PySem.W.Frag} {C Mk : Addr} (R : ExAt K C Mk) : XfC K C := ⟨R.xg, R.xk, R.xs, R.xd⟩
/-- the table of a def's generator expressions, by the written part -/
structure TbAt (K : PySem.W.Frag) (c Pt : Addr) (e : Value) (dd : Option Addr) (vs : Array Value) (sl : Array (Option Value)) : Prop where
  l : K.lookup c = some ⟨e, dd, .fields vs, sl⟩
  p : vs[11]? = some (.ref Pt)
  n : K.lookup Pt = none
theorem tab_got {K : PySem.W.Frag} {h : Heap} {mg : Str → Option Value} {gs : List Str} {x : Str} {st : Stmt} {f c Pt : Addr} {oc : Value} {od : Option Addr} {kV doc pm : Value} {an : Option Addr} {ct : Value} {sl : Array (Option Value)} {e : Value} {dd : Option Addr} {vs : Array Value} {sl2 : Array (Option Value)}
    (X : K.In h) (G : h.Ns mainGlobals mg) (tabs : ∀ g ∈ gs, ∃ c Pt, TabOf mg h g c Pt) (hx : x ∈ gs) (D : DefAt K x st f oc od kV doc pm an (.ref c) ct sl) (T : TbAt K c Pt e dd vs sl2) : h.get? Pt = some tabObj ∧ PySem.W.CodeHd h c Pt := by
  obtain ⟨c0, P2, f0, o, fd, h1, h2, h3, h4, h5, h6⟩ := tabs x hx
  have e1 := h1.symm.trans (PySem.W.mg_of X G D.a)
  cases e1
  rw [X _ _ D.l] at h2
  cases h2
  cases h3
  have e2 : Value.ref c = .ref c0 := h4
  cases e2
  have e3 : Pt = P2 := by
    obtain ⟨o2, us, _, _, _, _, _, _, _, g1, _, g2, g3, _⟩ := h5
    rw [X _ _ T.l] at g1
    cases g1
    cases g2
    rw [T.p] at g3
    cases g3
    rfl
  subst e3
  exact ⟨h6, h5⟩
end HM
namespace HM
open PySem PySem.Spec PyProof.Rows L2
/-- all that was tracked is as it was, but for the one table at P -/
def UpK (P : Addr) (H H' : Hp) : Prop := ∀ b o, H b = some o → b ≠ P → H' b = some o
theorem UpK.refl (P : Addr) (H : Hp) : UpK P H H := fun _ _ e _ => e
theorem UpK.of_same {P : Addr} {H H' : Hp} (s : Same H H') : UpK P H H' := fun b o e _ => s b o e
theorem UpK.trans {P : Addr} {H H1 H2 : Hp} (a : UpK P H H1) (b : UpK P H1 H2) : UpK P H H2 := fun c o e n => b c o (a c o e n) n
theorem UpK.lay {P : Addr} {H J : Hp} {q : Addr} {o : HO} (u : UpK P H J) (n : J q = none) : UpK P H (upd J q o) := u.trans (.of_same (same_lay n))
theorem UpK.set {P : Addr} {H J : Hp} {q : Addr} {o : HO} (u : UpK P H J) (n : H q = none) : UpK P H (upd J q o) := fun b p e z => by rw [upd_ne (ne_of_none e n)]; exact u b p e z
theorem UpK.n {P : Addr} {H H' : Hp} (u : UpK P H H') (t : GxR.TabG H P) : UpN H H' := fun b o e z => u b o e fun q => by
  obtain ⟨ps, e2, _⟩ := t
  rw [q, e2] at e
  exact z ps (Option.some.inj e).symm
/-- another table -/
theorem UpK.tab {P Q : Addr} {H H' : Hp} (u : UpK P H H') (tP : GxR.TabG H' P) (tQ : GxR.TabG H Q) : GxR.TabG H' Q := by
  by_cases e : Q = P
  · rw [e]
    exact tP
  · obtain ⟨ps, e2, r⟩ := tQ
    exact ⟨ps, u _ _ e2 e, r⟩
end HM
namespace HM
open PySem PySem.Spec PyProof.Rows L2
section
variable {P : Program} {w : World} {A : Around} {E : Value → Shared → Prop} {s : Shared} {a : Addr} {L : List (Addr × List Int)} {es : Array (Int × Value)} {ep : Nat} {t : SetTable}
abbrev wk (m : Nat) (h : Int) (c : Nat) : SetTable.Probe := nth m (runAt m (SetTable.bits h % (m + 1)) (SetTable.bits h)) c
end
end HM
namespace HM
open PySem PySem.Spec PyProof.Rows L2
end HM
namespace TG
open PySem PySem.Spec PyProof.Rows L2
/-- the round, not yet cut -/
def su : Nat → Nat
  | 0 => 0
  | n + 1 => su n * 5 + 1
theorem su_add (a d : Nat) : su (a + d) = su a * 5 ^ d + su d := by
  induction d with
  | zero => simp [su]
  | succ d ih =>
    show su (a + d) * 5 + 1 = su a * 5 ^ (d + 1) + (su d * 5 + 1)
    rw [ih, Nat.pow_succ, Nat.add_mul, ← Nat.mul_assoc, Nat.add_assoc]
theorem su_odd (n : Nat) : su n % 2 = n % 2 := by
  induction n with
  | zero => rfl
  | succ n ih =>
    show (su n * 5 + 1) % 2 = (n + 1) % 2
    omega
theorem five_odd (n : Nat) : 5 ^ n % 4 = 1 := by
  induction n with
  | zero => rfl
  | succ n ih =>
    rw [Nat.pow_succ]
    omega
theorem su_two (e : Nat) : ∃ o, o % 2 = 1 ∧ su (e + e) = 2 * (o * su e) := by
  have h := five_odd e
  refine ⟨(5 ^ e + 1) / 2, by omega, ?_⟩
  rw [su_add]
  obtain ⟨q, hq⟩ : ∃ q, 5 ^ e = 4 * q + 1 := ⟨5 ^ e / 4, by omega⟩
  have e1 : (5 ^ e + 1) / 2 = 2 * q + 1 := by omega
  rw [e1, hq, Nat.mul_add, Nat.mul_one, Nat.add_mul, Nat.one_mul, Nat.mul_add, Nat.mul_comm (su e) (4 * q), show 2 * (2 * q * su e) = 4 * q * su e by rw [← Nat.mul_assoc, ← Nat.mul_assoc]]
  omega
theorem odd_dvd : ∀ (k : Nat) {o x : Nat}, o % 2 = 1 → 2 ^ k ∣ o * x → 2 ^ k ∣ x
  | 0, _, _, _, _ => by rw [Nat.pow_zero]; exact Nat.one_dvd _
  | k + 1, o, x, ho, h => by
    have he : x % 2 = 0 := by
      have h2 : 2 ∣ o * x := Nat.dvd_trans ⟨2 ^ k, by rw [Nat.pow_succ, Nat.mul_comm]⟩ h
      have h3 := Nat.mod_eq_zero_of_dvd h2
      rw [Nat.mul_mod, ho, Nat.one_mul, Nat.mod_mod] at h3
      exact h3
    obtain ⟨y, rfl⟩ : ∃ y, x = 2 * y := ⟨x / 2, by omega⟩
    rw [Nat.pow_succ, Nat.mul_comm (2 ^ k) 2] at h ⊢
    have h4 : 2 * 2 ^ k ∣ 2 * (o * y) := by
      rw [show 2 * (o * y) = o * (2 * y) by rw [← Nat.mul_assoc, ← Nat.mul_assoc, Nat.mul_comm 2 o]]
      exact h
    exact Nat.mul_dvd_mul_left 2 (odd_dvd k ho (Nat.dvd_of_mul_dvd_mul_left (by decide) h4))
theorem su_dvd : ∀ (k d : Nat), 2 ^ k ∣ su d → 2 ^ k ∣ d
  | 0, d, _ => by rw [Nat.pow_zero]; exact Nat.one_dvd _
  | k + 1, d, h => by
    have h2 : su d % 2 = 0 := Nat.mod_eq_zero_of_dvd (Nat.dvd_trans ⟨2 ^ k, by rw [Nat.pow_succ, Nat.mul_comm]⟩ h)
    rw [su_odd] at h2
    obtain ⟨e, rfl⟩ : ∃ e, d = e + e := ⟨d / 2, by omega⟩
    obtain ⟨o, ho, es⟩ := su_two e
    rw [es, Nat.pow_succ, Nat.mul_comm (2 ^ k) 2] at h
    have h3 := su_dvd k e (odd_dvd k ho (Nat.dvd_of_mul_dvd_mul_left (by decide) h))
    rw [← Nat.two_mul, Nat.pow_succ, Nat.mul_comm (2 ^ k) 2]
    exact Nat.mul_dvd_mul_left 2 h3
/-- the masks that come -/
def MG (m : Nat) : Prop := m = 7 ∨ m = 31 ∨ m = 127 ∨ m = 511 ∨ m = 2047 ∨ m = 8191
theorem MG.pow {m : Nat} (h : MG m) : ∃ k, 3 ≤ k ∧ k ≤ 13 ∧ m + 1 = 2 ^ k := by
  rcases h with rfl | rfl | rfl | rfl | rfl | rfl
  · exact ⟨3, by decide, by decide, by decide⟩
  · exact ⟨5, by decide, by decide, by decide⟩
  · exact ⟨7, by decide, by decide, by decide⟩
  · exact ⟨9, by decide, by decide, by decide⟩
  · exact ⟨11, by decide, by decide, by decide⟩
  · exact ⟨13, by decide, by decide, by decide⟩
theorem MG.le {m : Nat} (h : MG m) : m ≤ 8191 := by
  obtain ⟨k, _, h2, e⟩ := h.pow
  have : 2 ^ k ≤ 2 ^ 13 := Nat.pow_le_pow_right (by decide) h2
  have e2 : (2 : Nat) ^ 13 = 8192 := by decide
  omega
theorem lcgN_su (m : Nat) : ∀ n, lcgN m n = su n % (m + 1)
  | 0 => (Nat.zero_mod _).symm
  | n + 1 => by
    show (lcgN m n * 5 + 1) % (m + 1) = (su n * 5 + 1) % (m + 1)
    rw [lcgN_su m n, Nat.add_mod, Nat.mul_mod, Nat.mod_mod, ← Nat.mul_mod, ← Nat.add_mod]
theorem lcg_far {m : Nat} (h : MG m) {a d d2 : Nat} (h1 : d ≤ d2) (h2 : d2 ≤ m) (e : lcgN m (a + d) = lcgN m (a + d2)) : d = d2 := by
  obtain ⟨k, _, _, ek⟩ := h.pow
  rw [lcgN_su, lcgN_su, ek] at e
  obtain ⟨x, rfl⟩ : ∃ x, d2 = d + x := ⟨d2 - d, by omega⟩
  have e1 : su (a + (d + x)) = su (x + (a + d)) := by rw [Nat.add_comm x, Nat.add_assoc]
  rw [e1, su_add x (a + d)] at e
  have dv : 2 ^ k ∣ su x * 5 ^ (a + d) := by
    have z := Nat.sub_mod_eq_zero_of_mod_eq e.symm
    rw [Nat.add_sub_cancel] at z
    exact Nat.dvd_of_mod_eq_zero z
  have h5 : 5 ^ (a + d) % 2 = 1 := by
    have := five_odd (a + d)
    omega
  rw [Nat.mul_comm] at dv
  have := su_dvd k x (odd_dvd k h5 dv)
  rcases Nat.eq_zero_or_pos x with z | z
  · omega
  · have := Nat.le_of_dvd z this
    omega
/-- from anywhere each slot begins a run -/
theorem meets {m : Nat} (h : MG m) {i j : Nat} (hi : i ≤ m) (hj : j ≤ m) : ∃ k, k ≤ m ∧ lcgI m i k = j := by
  have onto : ∀ a j, j ≤ m → ∃ k, k ≤ m ∧ lcgN m (a + k) = j := fun a j hj => by
    have nd : ((List.range (m + 1)).map fun k => lcgN m (a + k)).Nodup := List.pairwise_map.mpr (List.Pairwise.imp_of_mem (fun {x y} hx hy hxy e => by
      have := lcg_far h (Nat.le_of_lt hxy) (Nat.le_of_lt_succ (List.mem_range.mp hy)) e
      omega) (List.pairwise_lt_range (n := m + 1)))
    have lt : ∀ b, lcgN m b ≤ m := fun b => by
      rw [lcgN_su]
      exact Nat.le_of_lt_succ (Nat.mod_lt _ (Nat.succ_pos m))
    refine Classical.byContradiction fun no => ?_
    have h1 := nat_nodup_len (j :: (List.range (m + 1)).map fun k => lcgN m (a + k)) (List.range (m + 1)) (List.nodup_cons.mpr ⟨fun hm => no ?_, nd⟩) fun x hx => ?_
    · rw [List.length_cons, List.length_map] at h1
      omega
    · obtain ⟨k, hk, e⟩ := List.mem_map.mp hm
      exact ⟨k, Nat.le_of_lt_succ (List.mem_range.mp hk), e⟩
    · rcases List.mem_cons.mp hx with rfl | hx
      · exact List.mem_range.mpr (Nat.lt_succ_of_le hj)
      · obtain ⟨k, _, rfl⟩ := List.mem_map.mp hx
        exact List.mem_range.mpr (Nat.lt_succ_of_le (lt _))
  obtain ⟨a, _, ea⟩ := onto 0 i hi
  rw [Nat.zero_add] at ea
  obtain ⟨k, hk, e⟩ := onto a j hj
  exact ⟨k, hk, by rw [← ea, lcgN_add]; exact e⟩
/-- the n-th run begins at slot j, for some n -/
theorem run_at {m : Nat} (hm : MG m) (h : Int) {j : Nat} (hj : j ≤ m) : ∃ n, n ≤ m + 12 ∧ runI m (SetTable.bits h) n = j := by
  obtain ⟨k, hk, e⟩ := meets hm (runI_le m (SetTable.bits h) 12) hj
  exact ⟨12 + k, by omega, (runI_tail (bits_lt h) k).trans e⟩
theorem way_in (m : Nat) (h : Int) (k : Nat) : way m h k ≤ m := by
  have r := runEnd_bd (m := m) (i := SetTable.bits h % (m + 1)) (Nat.le_of_lt_succ (Nat.mod_lt _ (Nat.succ_pos m)))
  have := nth_in (m := m) k (runAt m (SetTable.bits h % (m + 1)) (SetTable.bits h)) (show SetTable.bits h % (m + 1) + (SetTable.runEnd m (SetTable.bits h % (m + 1)) - SetTable.bits h % (m + 1)) ≤ m by omega)
  show (nth m _ k).j ≤ m
  omega
end TG
namespace TG
open PySem PySem.Spec PyProof.Rows L2
structure TabG (t : SetTable) (hs : List Int) : Prop where
  ris : Ris t.place.toList
  dm : t.dummies = #[]
  sz : t.place.size = hs.length
  mok : MG t.mask
  bd : ∀ x ∈ t.place.toList, x ≤ t.mask
  reach : ∀ (i : Nat) (h : Int) (j : Nat), hs[i]? = some h → t.place.toList[i]? = some j → ∃ k, way t.mask h k = j ∧ ∀ q, q < k → way t.mask h q ∈ t.place.toList
section
variable {t : SetTable} {hs : List Int} {h : Int}
theorem TabG.len (T : TabG t hs) : t.place.toList.length = hs.length := by rw [Array.length_toList]; exact T.sz
end
/-- who sits where: the numbers of the hashes laid so far -/
structure Lay (m : Nat) (done : List Int) (owner : Array (Option Nat)) : Prop where
  sz : owner.size = m + 1
  why : ∀ j k, j ≤ m → oAt owner j = some k → ∃ h K, done[k]? = some h ∧ way m h K = j ∧ ∀ q, q < K → oAt owner (way m h q) ≠ none
  all : ∀ k, k < done.length → ∃ j, j ≤ m ∧ oAt owner j = some k
  one : ∀ j j' k, j ≤ m → j' ≤ m → oAt owner j = some k → oAt owner j' = some k → j = j'
section
variable {m : Nat} {done : List Int} {owner : Array (Option Nat)}
theorem Lay.start (m : Nat) : Lay m [] (Array.replicate (m + 1) none) :=
  ⟨by simp, fun j k hj e => by rw [oAt_init hj] at e; (cases e), fun k hk => absurd hk (Nat.not_lt_zero k), fun j _ k hj _ e _ => by rw [oAt_init hj] at e; (cases e)⟩
theorem Lay.room (W : Lay m done owner) (hl : done.length ≤ m) : ∃ j, j ≤ m ∧ oAt owner j = none := by
  refine Classical.byContradiction fun no => ?_
  have occ : ∀ j, j ≤ m → ∃ k, oAt owner j = some k := fun j hj => by
    cases e : oAt owner j with
    | none => exact absurd ⟨j, hj, e⟩ no
    | some k => exact ⟨k, rfl⟩
  have h1 := nat_nodup_len ((List.range (m + 1)).map fun j => (oAt owner j).getD 0) (List.range done.length) (List.pairwise_map.mpr (List.Pairwise.imp_of_mem (fun {x y} hx hy hxy e => ?_) (List.pairwise_lt_range (n := m + 1)))) fun k hk => ?_
  · rw [List.length_map, List.length_range, List.length_range] at h1
    omega
  · have hx' := Nat.le_of_lt_succ (List.mem_range.mp hx)
    have hy' := Nat.le_of_lt_succ (List.mem_range.mp hy)
    obtain ⟨a, ea⟩ := occ x hx'
    obtain ⟨b, eb⟩ := occ y hy'
    rw [ea, eb] at e
    have e' : a = b := e
    subst e'
    have := W.one x y a hx' hy' ea eb
    omega
  · obtain ⟨j, hj, rfl⟩ := List.mem_map.mp hk
    have hj' := Nat.le_of_lt_succ (List.mem_range.mp hj)
    obtain ⟨a, ea⟩ := occ j hj'
    obtain ⟨h, K, q1, _⟩ := W.why j a hj' ea
    rw [ea]
    exact List.mem_range.mpr (List.getElem?_eq_some_iff.mp q1).1
/-- the search for a free slot ends at the first one of the way -/
theorem free_at (hm : MG m) (h : Int) {j : Nat} (hj : j ≤ m) (hf : oAt owner j = none) :
    ∃ K, SetTable.layClean.free m owner (SetTable.turns m) (SetTable.bits h % (m + 1)) (SetTable.bits h) = some (way m h K) ∧ oAt owner (way m h K) = none ∧ ∀ q, q < K → oAt owner (way m h q) ≠ none := by
  obtain ⟨n, hn, e⟩ := run_at hm h hj
  have ew : way m h (off m (SetTable.bits h % (m + 1)) (SetTable.bits h) n) = j := by
    show (nth m _ _).j = j
    rw [nth_off, itL_run]
    exact e
  obtain ⟨K, k1, k2, k3⟩ := st_least (p := fun k => oAt owner (way m h k) = none) (off m (SetTable.bits h % (m + 1)) (SetTable.bits h) n) (by rw [ew]; exact hf)
  refine ⟨K, free_spec m owner (SetTable.turns m) n _ _ K (by unfold SetTable.turns; omega) k1 (fun q hq => ?_) (by rw [show oAt owner (nth m _ K).j = none from k2]; rfl), k2, k3⟩
  cases z : oAt owner (nth m (runAt m (SetTable.bits h % (m + 1)) (SetTable.bits h)) q).j with
  | none => exact absurd z (k3 q hq)
  | some _ => rfl
theorem Lay.next (hm : MG m) (W : Lay m done owner) (hl : done.length ≤ m) (h : Int) :
    ∃ j, SetTable.layClean.free m owner (SetTable.turns m) (SetTable.bits h % (m + 1)) (SetTable.bits h) = some j ∧ Lay m (done ++ [h]) (owner.setIfInBounds j (some done.length)) := by
  obtain ⟨j0, hj0, e0⟩ := W.room hl
  obtain ⟨K, e1, e2, e3⟩ := free_at hm h hj0 e0
  obtain ⟨j, ej⟩ : ∃ j, way m h K = j := ⟨_, rfl⟩
  rw [ej] at e1 e2
  have hjm : j ≤ m := ej ▸ way_in m h K
  have self : oAt (owner.setIfInBounds j (some done.length)) j = some done.length := oAt_set_self _ (by rw [W.sz]; omega)
  have kept : ∀ {i : Nat}, oAt owner i ≠ none → oAt (owner.setIfInBounds j (some done.length)) i = oAt owner i := fun {i} hi => oAt_set_ne _ fun z => hi (by rw [z]; exact e2)
  have kept' : ∀ {i : Nat}, oAt owner i ≠ none → oAt (owner.setIfInBounds j (some done.length)) i ≠ none := fun {i} hi => by rw [kept hi]; exact hi
  have short : ∀ {i k : Nat}, i ≤ m → oAt owner i = some k → k < done.length := fun {i k} hi e => by
    obtain ⟨_, _, q, _⟩ := W.why i k hi e
    exact (List.getElem?_eq_some_iff.mp q).1
  have split : ∀ {i k : Nat}, oAt (owner.setIfInBounds j (some done.length)) i = some k → (i = j ∧ k = done.length) ∨ (i ≠ j ∧ oAt owner i = some k) := fun {i k} e => by
    by_cases c : i = j
    · rw [c, self] at e
      exact .inl ⟨c, (Option.some.inj e).symm⟩
    · rw [oAt_set_ne _ c] at e
      exact .inr ⟨c, e⟩
  refine ⟨j, e1, by rw [Array.size_setIfInBounds]; exact W.sz, fun i k hi e => ?_, fun k hk => ?_, fun i i' k hi hi' e e' => ?_⟩
  · rcases split e with ⟨rfl, rfl⟩ | ⟨_, e⟩
    · exact ⟨h, K, by rw [List.getElem?_append_right (Nat.le_refl _), Nat.sub_self]; rfl, ej, fun q hq => kept' (e3 q hq)⟩
    · obtain ⟨g, Q, a1, a2, a3⟩ := W.why i k hi e
      exact ⟨g, Q, by rw [List.getElem?_append_left (short hi e)]; exact a1, a2, fun q hq => kept' (a3 q hq)⟩
  · rw [List.length_append, List.length_singleton] at hk
    by_cases c : k = done.length
    · exact ⟨j, hjm, by rw [c]; exact self⟩
    · obtain ⟨i, hi, e⟩ := W.all k (by omega)
      exact ⟨i, hi, by rw [kept (by rw [e]; exact fun z => nomatch z)]; exact e⟩
  · rcases split e with ⟨rfl, rfl⟩ | ⟨_, e⟩
    · rcases split e' with ⟨rfl, _⟩ | ⟨_, e'⟩
      · rfl
      · exact absurd (short hi' e') (Nat.lt_irrefl _)
    · rcases split e' with ⟨_, rfl⟩ | ⟨_, e'⟩
      · exact absurd (short hi e) (Nat.lt_irrefl _)
      · exact W.one i i' k hi hi' e e'
end
end TG
namespace TG
open PySem PySem.Spec PyProof.Rows L2 HM
structure SetG (P : Program) (w : World) (h : Heap) (a : Addr) (L : List (Addr × List Int)) (es : Array (Int × Value)) (ep : Nat) (t : SetTable) : Prop where
  ob : ∃ o, h.get? a = some o ∧ o.ExactSet ∧ o.data = .set es ep t
  rows : es.toList = rowsOf P w L
  tab : TabG t (L.map fun p => thash P w p.2)
  nd : (L.map (·.2)).Nodup
  tup : ∀ p ∈ L, IsT P w h p.2 p.1
  plain : t.plain = true
  led : w.params.followText "set-order" = true ∨ t.led = true
  room : L.length * 5 < t.mask * 3
section
variable {P : Program} {w : World} {A : Around} {E : Value → Shared → Prop} {s : Shared} {a : Addr} {L : List (Addr × List Int)} {es : Array (Int × Value)} {ep : Nat} {t : SetTable}
/-- what the heap has of the set, its tuples left out -/
structure SetG0 (P : Program) (w : World) (h : Heap) (a : Addr) (L : List (Addr × List Int)) : Prop where
  ex : ∃ (es : Array (Int × Value)) (ep : Nat) (t : SetTable), (∃ o, h.get? a = some o ∧ o.ExactSet ∧ o.data = .set es ep t) ∧ es.toList = rowsOf P w L ∧ TabG t (L.map fun p => thash P w p.2) ∧ (L.map (·.2)).Nodup ∧ t.plain = true ∧
    (w.params.followText "set-order" = true ∨ t.led = true) ∧ L.length * 5 < t.mask * 3
theorem SetG.type (R : SetG P w s.heap a L es ep t) : s.TypeIs (.ref a) "set" := let ⟨o, g1, g2, _⟩ := R.ob; ⟨o, g1, g2.1⟩
end
/-- the set as a thing of the heap -/
def SetGO (P : Program) (w : World) (a : Addr) (L : List (Addr × List Int)) : HO := .ext fun h => SetG0 P w h a L
theorem SetG0.ok {P : Program} {w : World} {H : Hp} {h : Heap} {a : Addr} {L : List (Addr × List Int)} (R : SetG0 P w h a L) : ObjOk P w H h a (SetGO P w a L) := by
  have ⟨es, ep, t, ⟨o, ho, r⟩, q⟩ := R.ex
  refine ⟨R, ⟨o, ho⟩, fun h1 h2 p k => ?_⟩
  have ⟨es', ep', t', ⟨o', ho', r'⟩, q'⟩ := SetG0.ex p
  exact ⟨es', ep', t', ⟨o', k o' ho', r'⟩, q'⟩
end TG
namespace VL
open PySem PySem.Spec PyProof.Rows L2 HM
inductive Dt where
  | non | bl (b : Bool) | int (i : Int) | str (x : Str) | ty (n : String) | obj (a : Addr)
  | lst (ds : List Dt) | tup (ds : List Dt)
  | dic (ks : List (List Key)) (ds : List Dt) | dik (ks : List Key) (ds : List Dt)
  /-- a tuple whose object has no dict of its own -/
  | tuP (ds : List Dt)
mutual
inductive Rp (F : Hp) : V → Dt → Prop
  | non : Rp F .non .non
  | bl (b : Bool) : Rp F (.bl b) (.bl b)
  | int (i : Int) : Rp F (.int i) (.int i)
  | str (x : Str) : Rp F (.str x) (.str x)
  | ty (n : String) : Rp F (.ty n) (.ty n)
  | obj (a : Addr) : Rp F (.ref a) (.obj a)
  | lst {a : Addr} {xs : List V} {ds : List Dt} : F a = some (.lst xs) → Rps F xs ds → Rp F (.ref a) (.lst ds)
  | tup {a : Addr} {xs : List V} {ds : List Dt} : F a = some (.tup xs) → Rps F xs ds → Rp F (.ref a) (.tup ds)
  | dic {a : Addr} {od : Obj} {kvs : List (List Key × V)} {ks : List (List Key)} {ds : List Dt} : F a = some (.frz od (.dT kvs)) → kvs.map (·.1) = ks → Rps F (kvs.map (·.2)) ds → Rp F (.ref a) (.dic ks ds)
  | dik {a : Addr} {od : Obj} {kvs : List (Key × V)} {ks : List Key} {ds : List Dt} : F a = some (.frz od (.dK kvs)) → kvs.map (·.1) = ks → Rps F (kvs.map (·.2)) ds → Rp F (.ref a) (.dik ks ds)
  | tuP {a : Addr} {xs : List V} {ds : List Dt} : HM.TF F a xs → Rps F xs ds → Rp F (.ref a) (.tuP ds)
inductive Rps (F : Hp) : List V → List Dt → Prop
  | nil : Rps F [] []
  | cons {v : V} {vs : List V} {d : Dt} {ds : List Dt} : Rp F v d → Rps F vs ds → Rps F (v :: vs) (d :: ds)
end
/-- all of F is in F' -/
def Up (F F' : Hp) : Prop := ∀ a o, F a = some o → F' a = some o
theorem Up.refl (F : Hp) : Up F F := fun _ _ e => e
theorem Up.trans {a b c : Hp} (x : Up a b) (y : Up b c) : Up a c := fun q o e => y q o (x q o e)
theorem up_lay {H : Hp} {q : Addr} {o : HO} (n : H q = none) : Up H (upd H q o) := fun b u e => by rw [upd_ne (ne_of_none e n)]; exact e
theorem tf_up {F F' : Hp} {a : Addr} {xs : List V} (h : HM.TF F a xs) (u : Up F F') : HM.TF F' a xs := let ⟨o, hd, e⟩ := h; ⟨o, hd, u _ _ e⟩
mutual
theorem Rp.up {F F' : Hp} (u : Up F F') : ∀ {v : V} {d : Dt}, Rp F v d → Rp F' v d
  | _, _, .non => .non
  | _, _, .bl b => .bl b
  | _, _, .int i => .int i
  | _, _, .str x => .str x
  | _, _, .ty x => .ty x
  | _, _, .obj x => .obj x
  | _, _, .lst h t => .lst (u _ _ h) (Rps.up u t)
  | _, _, .tup h t => .tup (u _ _ h) (Rps.up u t)
  | _, _, .dic h e t => .dic (u _ _ h) e (Rps.up u t)
  | _, _, .dik h e t => .dik (u _ _ h) e (Rps.up u t)
  | _, _, .tuP h t => .tuP (tf_up h u) (Rps.up u t)
theorem Rps.up {F F' : Hp} (u : Up F F') : ∀ {v : List V} {d : List Dt}, Rps F v d → Rps F' v d
  | _, _, .nil => .nil
  | _, _, .cons h t => .cons (Rp.up u h) (Rps.up u t)
end
mutual
/-- no lists in it -/
def flat : Dt → Bool
  | .lst _ => false
  | .tup ds => flats ds
  | .dic _ _ => false
  | .dik _ _ => false
  | .tuP _ => false
  | _ => true
def flats : List Dt → Bool
  | [] => true
  | d :: ds => flat d && flats ds
end
mutual
theorem Rp.flat {F F' : Hp} (u : ∀ a xs, F a = some (.tup xs) → F' a = some (.tup xs)) : ∀ {v : V} {d : Dt}, Rp F v d → flat d = true → Rp F' v d
  | _, _, .non, _ => .non
  | _, _, .bl b, _ => .bl b
  | _, _, .int i, _ => .int i
  | _, _, .str x, _ => .str x
  | _, _, .ty x, _ => .ty x
  | _, _, .obj x, _ => .obj x
  | _, _, .lst h t, e => by simp [VL.flat] at e
  | _, _, .tup h t, e => .tup (u _ _ h) (Rps.flat u t (by simpa [VL.flat] using e))
  | _, _, .dic h _ t, e => by simp [VL.flat] at e
  | _, _, .dik h _ t, e => by simp [VL.flat] at e
  | _, _, .tuP h t, e => by simp [VL.flat] at e
theorem Rps.flat {F F' : Hp} (u : ∀ a xs, F a = some (.tup xs) → F' a = some (.tup xs)) : ∀ {v : List V} {d : List Dt}, Rps F v d → flats d = true → Rps F' v d
  | _, _, .nil, _ => .nil
  | _, d :: ds, .cons h t, e => by
    have e' : (VL.flat d && flats ds) = true := by simpa [flats] using e
    rw [Bool.and_eq_true] at e'
    exact .cons (Rp.flat u h e'.1) (Rps.flat u t e'.2)
end
theorem Rps.len {F : Hp} : ∀ {vs : List V} {ds : List Dt}, Rps F vs ds → vs.length = ds.length
  | _, _, .nil => rfl
  | _, _, .cons _ t => by rw [List.length_cons, List.length_cons, Rps.len t]
theorem Rps.get {F : Hp} : ∀ {vs : List V} {ds : List Dt} {i : Nat} {d : Dt}, Rps F vs ds → ds[i]? = some d → ∃ v, vs[i]? = some v ∧ Rp F v d
  | _, _, _, _, .nil, e => by simp at e
  | _, _, 0, _, .cons r _, e => by simp at e; subst e; exact ⟨_, rfl, r⟩
  | _, _, i + 1, d, .cons _ t, e => by
    obtain ⟨u, h1, h2⟩ := Rps.get (i := i) (d := d) t (by simpa using e)
    exact ⟨u, by simpa using h1, h2⟩
theorem Rps.append {F : Hp} : ∀ {vs ws : List V} {ds es : List Dt}, Rps F vs ds → Rps F ws es → Rps F (vs ++ ws) (ds ++ es)
  | _, _, _, _, .nil, s => s
  | _, _, _, _, .cons r t, s => .cons r (Rps.append t s)
theorem Rps.set {F : Hp} {v : V} {d : Dt} (r : Rp F v d) : ∀ {vs : List V} {ds : List Dt} (i : Nat), Rps F vs ds → Rps F (vs.set i v) (ds.set i d)
  | _, _, _, .nil => .nil
  | _, _, 0, .cons _ t => .cons r t
  | _, _, i + 1, .cons q t => .cons q (Rps.set r i t)
theorem Rps.dropLast {F : Hp} : ∀ {vs : List V} {ds : List Dt}, Rps F vs ds → Rps F vs.dropLast ds.dropLast
  | _, _, .nil => .nil
  | _, _, .cons _ .nil => .nil
  | _, _, .cons q (.cons r t) => .cons q (Rps.dropLast (.cons r t))
theorem Rps.take {F : Hp} : ∀ {vs : List V} {ds : List Dt} (i : Nat), Rps F vs ds → Rps F (vs.take i) (ds.take i)
  | _, _, 0, _ => .nil
  | _, _, _ + 1, .nil => .nil
  | _, _, i + 1, .cons q t => .cons q (Rps.take i t)
theorem Rps.drop {F : Hp} : ∀ {vs : List V} {ds : List Dt} (i : Nat), Rps F vs ds → Rps F (vs.drop i) (ds.drop i)
  | _, _, 0, r => r
  | _, _, _ + 1, .nil => .nil
  | _, _, i + 1, .cons q t => Rps.drop i t
theorem Rps.ints {F : Hp} : ∀ (ns : List Int), Rps F (ns.map V.int) (ns.map Dt.int)
  | [] => .nil
  | n :: ns => .cons (.int n) (Rps.ints ns)
theorem Rps.of_ints {F : Hp} : ∀ {vs : List V} {ns : List Int}, Rps F vs (ns.map Dt.int) → vs = ns.map V.int
  | _, [], .nil => rfl
  | _, n :: ns, .cons (.int _) t => by rw [List.map_cons, Rps.of_ints t]
/-- a thing that only its slot holds, and that may be written -/
inductive Con where
  | lst (ds : List Dt)
  | dK (kvs : List (Key × Dt))
  | dT (kvs : List (List Key × Dt))
  | set (w : World) (S : Int → Bool) (n : Nat)
  | setT (P : Program) (w : World) (ks : List (List Int))
inductive Sl where
  | no | fz (d : Dt) | ow (c : Con)
abbrev Ev := List Sl
def PrK {κ : Type} (F : Hp) : List (κ × V) → List (κ × Dt) → Prop := Paired fun (p : κ × V) (q : κ × Dt) => p.1 = q.1 ∧ Rp F p.2 q.2
def OwOk (F : Hp) (a : Addr) (o : HO) : Con → Prop
  | .lst ds => ∃ xs, o = .lst xs ∧ Rps F xs ds
  | .dK kvs => ∃ ks, o = .dK ks ∧ PrK F ks kvs
  | .dT kvs => ∃ ks, o = .dT ks ∧ PrK F ks kvs
  | .set w S n => o = SetO w a S n
  | .setT P w ks => ∃ L : List (Addr × List Int), o = TG.SetGO P w a L ∧ (L.map (·.2)).Perm ks ∧ ∀ p ∈ L, F p.1 = some (.tup (p.2.map V.int))
theorem PrK.up {κ : Type} {F F' : Hp} {a : List (κ × V)} {b : List (κ × Dt)} (u : Up F F') (h : PrK F a b) : PrK F' a b := Paired.mapP h fun _ _ z => ⟨z.1, z.2.up u⟩
theorem OwOk.up {F F' : Hp} {a : Addr} {o : HO} (u : Up F F') : ∀ {c : Con}, OwOk F a o c → OwOk F' a o c
  | .lst _, ⟨xs, e, r⟩ => ⟨xs, e, r.up u⟩
  | .dK _, ⟨ks, e, r⟩ => ⟨ks, e, PrK.up u r⟩
  | .dT _, ⟨ks, e, r⟩ => ⟨ks, e, PrK.up u r⟩
  | .set _ _ _, e => e
  | .setT _ _ _, ⟨L, e, h, r⟩ => ⟨L, e, h, fun p hp => u _ _ (r p hp)⟩
/-- no tuple -/
def NT (o : HO) : Prop := ∀ xs, o ≠ .tup xs
theorem OwOk.nt {F : Hp} {a : Addr} {o : HO} : ∀ {c : Con}, OwOk F a o c → NT o
  | .lst _, ⟨_, e, _⟩, _, z => by rw [e] at z; cases z
  | .dK _, ⟨_, e, _⟩, _, z => by rw [e] at z; cases z
  | .dT _, ⟨_, e, _⟩, _, z => by rw [e] at z; cases z
  | .set _ _ _, e, _, z => by
    have e' : o = SetO _ _ _ _ := e
    rw [e'] at z; cases z
  | .setT _ _ _, ⟨_, e, _⟩, _, z => by rw [e] at z; cases z
/-- code objects are kept -/
def CodeK (H H' : Hp) : Prop := ∀ b oc x, H b = some (.frz oc (.own x)) → H' b = H b
theorem codeK_upd {H : Hp} {p : Addr} {o : HO} (h : ∀ oc x, H p ≠ some (.frz oc (.own x))) : CodeK H (upd H p o) := fun b oc x e => upd_ne fun z => h oc x (z ▸ e)
theorem OwOk.nfrz {F : Hp} {a : Addr} {o : HO} : ∀ {c : Con}, OwOk F a o c → ∀ oc x, o ≠ .frz oc (.own x)
  | .lst _, ⟨_, e, _⟩, _, _, z => by rw [e] at z; cases z
  | .dK _, ⟨_, e, _⟩, _, _, z => by rw [e] at z; cases z
  | .dT _, ⟨_, e, _⟩, _, _, z => by rw [e] at z; cases z
  | .set _ _ _, e, _, _, z => by
    have e' : o = SetO _ _ _ _ := e
    rw [e'] at z; cases z
  | .setT _ _ _, ⟨_, e, _⟩, _, _, z => by rw [e] at z; cases z
/-- what runs along: the pen, the tables of generators -/
structure Am where
  sp : Addr → Prop
  ok : Nat → Hp → Hp → Prop
  trk : ∀ {n F H a}, ok n F H → sp a → H a ≠ none
  ntp : ∀ {n F H a xs}, ok n F H → sp a → H a ≠ some (.tup xs)
  mono : ∀ {n F F' H H'}, ok n F H → (∀ b, sp b → H' b = H b) → CodeK H H' → Up F F' → ok n F' H'
/-- what runs along asks nothing of what is still -/
class Plain (am : Am) : Prop where
  pl : ∀ {n F F' H}, am.ok n F H → am.ok n F' H
theorem CodeK.refl (H : Hp) : CodeK H H := fun _ _ _ _ => rfl
/-- where a def was entered: what was still, what stood -/
structure Fc where
  am : Am
  F0 : Hp
  H0 : Hp
def SlOk (c : Fc) (F H : Hp) (x : Option (Option V)) : Sl → Prop
  | .no => True
  | .fz d => ∃ v, x = some (some v) ∧ Rp F v d
  | .ow k => ∃ a o, x = some (some (.ref a)) ∧ F a = none ∧ c.H0 a = none ∧ ¬ c.am.sp a ∧ H a = some o ∧ OwOk F a o k
structure Rel (c : Fc) (F H : Hp) (σ : L2.St) (env : Ev) (n : Nat) : Prop where
  sub : Up F H
  spf : ∀ a, c.am.sp a → F a = none
  amb : c.am.ok n F H
  up0 : Up c.F0 F
  out0 : ∀ a o, c.H0 a = some o → NT o → c.F0 a = none → F a = none
  keep0 : ∀ a o, c.H0 a = some o → ¬ c.am.sp a → H a = some o
  len : σ.length = env.length
  sl : ∀ (i : Nat) (s : Sl), env[i]? = some s → SlOk c F H σ[i]? s
  apart : ∀ (i j : Nat) (a : Addr) (k k' : Con), i ≠ j → env[i]? = some (.ow k) → env[j]? = some (.ow k') → σ[i]? = some (some (.ref a)) → σ[j]? ≠ some (some (.ref a))
section
variable {c : Fc} {F H : Hp} {σ : L2.St} {env : Ev} {n : Nat} {p a : Addr} {o : HO}
theorem Rel.new0 (r : Rel c F H σ env n) (hp : H p = none) : c.H0 p = none ∧ ¬ c.am.sp p ∧ F p = none := by
  have h2 : ¬ c.am.sp p := fun z => c.am.trk r.amb z hp
  refine ⟨?_, h2, ?_⟩
  · cases e : c.H0 p with
    | none => rfl
    | some o => rw [r.keep0 p o e h2] at hp; cases hp
  · cases e : F p with
    | none => rfl
    | some o => rw [r.sub p o e] at hp; cases hp
theorem Rel.amb' (r : Rel c F H σ env n) {H' : Hp} (h : ∀ b, c.am.sp b → H' b = H b) (hc : CodeK H H') : c.am.ok n F H' := c.am.mono r.amb h hc (Up.refl F)
theorem Rel.ambU (r : Rel c F H σ env n) {F' : Hp} (u : Up F F') : c.am.ok n F' H := c.am.mono r.amb (fun _ _ => rfl) (CodeK.refl H) u
theorem SlOk.up {F' H' : Hp} {x : Option (Option V)} (u : Up F F') (k : ∀ a o, F a = none → H a = some o → c.H0 a = none → ¬ c.am.sp a → F' a = none ∧ H' a = some o) : ∀ {s : Sl}, SlOk c F H x s → SlOk c F' H' x s
  | .no, _ => trivial
  | .fz _, ⟨v, e, r⟩ => ⟨v, e, r.up u⟩
  | .ow _, ⟨a, o, e, f, h0, ns, h, w⟩ => ⟨a, o, e, (k a o f h h0 ns).1, h0, ns, (k a o f h h0 ns).2, w.up u⟩
/-- a new thing, not still -/
theorem Rel.lay (r : Rel c F H σ env n) (hp : H p = none) (o : HO) : Rel c F (upd H p o) σ env n := by
  obtain ⟨h0, ns, hf⟩ := r.new0 hp
  exact ⟨fun b u e => up_lay hp b u (r.sub b u e), r.spf, r.amb' (fun b hb => upd_ne fun z => ns (z ▸ hb)) (codeK_upd fun _ _ z => by rw [hp] at z; cases z), r.up0, r.out0, fun b u e nb => up_lay hp b u (r.keep0 b u e nb), r.len,
    fun i s e => (r.sl i s e).up (Up.refl F) fun b u fb hb _ _ => ⟨fb, up_lay hp b u hb⟩, r.apart⟩
/-- a new thing, still from now on -/
theorem Rel.layF (r : Rel c F H σ env n) (hp : H p = none) (o : HO) : Rel c (upd F p o) (upd H p o) σ env n := by
  obtain ⟨h0, ns, hf⟩ := r.new0 hp
  have r2 := r.lay hp o
  refine ⟨fun b u e => ?_, fun b hb => ?_, r2.ambU (up_lay hf), r.up0.trans (up_lay hf), fun b ob h1 nt h2 => ?_, r2.keep0, r.len, fun i s e => (r.sl i s e).up (up_lay hf) fun b u fb hb h0 nb => ?_, r.apart⟩
  · by_cases z : b = p
    · subst z; rw [upd_same] at e ⊢; exact e
    · rw [upd_ne z] at e ⊢; exact r.sub b u e
  · rw [upd_ne (fun (z : b = _) => ns (by rw [← z]; exact hb))]; exact r.spf b hb
  · rw [upd_ne (fun (z : b = _) => by rw [z, h0] at h1; cases h1)]; exact r.out0 b ob h1 nt h2
  · have z : b ≠ p := fun z => by rw [z, hp] at hb; cases hb
    rw [upd_ne z, upd_ne z]
    exact ⟨fb, hb⟩
/-- what is still may grow by what stands nowhere -/
theorem Rel.setF {v : V} {d : Dt} {i : Nat} (r : Rel c F H σ env n) (h : Rp F v d) : Rel c F H (σ.set i (some v)) (env.set i (.fz d)) n := by
  refine ⟨r.sub, r.spf, r.amb, r.up0, r.out0, r.keep0, by rw [List.length_set, List.length_set]; exact r.len, fun j s e => ?_, fun j l b k k' hjl e1 e2 e3 => ?_⟩
  · by_cases z : j = i
    · subst z
      have hl : j < env.length := by
        have := (List.getElem?_eq_some_iff.mp e).1
        rwa [List.length_set] at this
      rw [List.getElem?_set_self hl] at e
      cases e
      exact ⟨v, by rw [List.getElem?_set_self (by rw [r.len]; exact hl)], h⟩
    · rw [List.getElem?_set_ne (Ne.symm z)] at e ⊢
      exact r.sl j s e
  · have f : ∀ {j : Nat} {k : Con}, (env.set i (.fz d))[j]? = some (.ow k) → j ≠ i ∧ env[j]? = some (.ow k) := fun {j k} e => by
      by_cases z : j = i
      · subst z
        have hl : j < env.length := by
          have := (List.getElem?_eq_some_iff.mp e).1
          rwa [List.length_set] at this
        rw [List.getElem?_set_self hl] at e
        cases e
      · rw [List.getElem?_set_ne (Ne.symm z)] at e
        exact ⟨z, e⟩
    obtain ⟨n1, f1⟩ := f e1
    obtain ⟨n2, f2⟩ := f e2
    rw [List.getElem?_set_ne (Ne.symm n1)] at e3
    rw [List.getElem?_set_ne (Ne.symm n2)]
    exact r.apart j l b k k' hjl f1 f2 e3
/-- a new thing goes to its own slot -/
theorem Rel.setO {k : Con} {i : Nat} (r : Rel c F H σ env n) (hF : F a = none) (h0 : c.H0 a = none) (ns : ¬ c.am.sp a) (hH : H a = some o) (w : OwOk F a o k) (ha : ∀ (j : Nat) k', env[j]? = some (.ow k') → σ[j]? ≠ some (some (.ref a))) : Rel c F H (σ.set i (some (.ref a))) (env.set i (.ow k)) n := by
  refine ⟨r.sub, r.spf, r.amb, r.up0, r.out0, r.keep0, by rw [List.length_set, List.length_set]; exact r.len, fun j s e => ?_, fun j l b k1 k2 hjl e1 e2 e3 => ?_⟩
  · by_cases z : j = i
    · subst z
      have hl : j < env.length := by
        have := (List.getElem?_eq_some_iff.mp e).1
        rwa [List.length_set] at this
      rw [List.getElem?_set_self hl] at e
      cases e
      exact ⟨a, o, by rw [List.getElem?_set_self (by rw [r.len]; exact hl)], hF, h0, ns, hH, w⟩
    · rw [List.getElem?_set_ne (Ne.symm z)] at e ⊢
      exact r.sl j s e
  · by_cases zj : j = i
    · subst zj
      have hl : j < env.length := by
        have := (List.getElem?_eq_some_iff.mp e1).1
        rwa [List.length_set] at this
      rw [List.getElem?_set_self (by rw [r.len]; exact hl)] at e3
      cases e3
      rw [List.getElem?_set_ne hjl] at e2 ⊢
      exact ha l k2 e2
    · rw [List.getElem?_set_ne (Ne.symm zj)] at e1 e3
      by_cases zl : l = i
      · subst zl
        have hl : l < env.length := by
          have := (List.getElem?_eq_some_iff.mp e2).1
          rwa [List.length_set] at this
        rw [List.getElem?_set_self (by rw [r.len]; exact hl)]
        intro z
        cases z
        exact ha j k1 e1 e3
      · rw [List.getElem?_set_ne (Ne.symm zl)] at e2 ⊢
        exact r.apart j l b k1 k2 hjl e1 e2 e3
/-- the thing of a slot is written -/
theorem Rel.write {k k' : Con} {o' : HO} {i : Nat} (r : Rel c F H σ env n) (hi : env[i]? = some (.ow k)) (ha : σ[i]? = some (some (.ref a))) (w : OwOk F a o' k') : Rel c F (upd H a o') σ (env.set i (.ow k')) n := by
  obtain ⟨a', o, e1, hF, h0, ns, hH, wo⟩ := r.sl i _ hi
  rw [ha] at e1
  cases e1
  refine ⟨fun b u e => ?_, r.spf, r.amb' (fun b hb => upd_ne fun z => ns (z ▸ hb)) (codeK_upd fun oc x z => wo.nfrz oc x (by rw [hH] at z; exact Option.some.inj z)), r.up0, r.out0, fun b u e nb => ?_, by rw [List.length_set]; exact r.len, fun j s e => ?_, fun j l b k1 k2 hjl e1 e2 e3 => ?_⟩
  · rw [upd_ne fun z => by rw [z, hF] at e; cases e]; exact r.sub b u e
  · rw [upd_ne fun z => by rw [z, h0] at e; cases e]; exact r.keep0 b u e nb
  · by_cases z : j = i
    · subst z
      rw [List.getElem?_set_self (List.getElem?_eq_some_iff.mp hi).1] at e
      cases e
      exact ⟨a, o', ha, hF, h0, ns, upd_same, w⟩
    · rw [List.getElem?_set_ne (Ne.symm z)] at e
      have q := r.sl j s e
      cases s with
      | no => trivial
      | fz d => exact q
      | ow kk =>
        obtain ⟨a2, o2, g1, g2, g3, g4, g5, g6⟩ := q
        refine ⟨a2, o2, g1, g2, g3, g4, ?_, g6⟩
        rw [upd_ne fun z2 => r.apart i j a k kk (Ne.symm z) hi e ha (by rw [g1, z2])]
        exact g5
  · have f : ∀ {j : Nat} {k1 : Con}, (env.set i (.ow k'))[j]? = some (.ow k1) → ∃ k2, env[j]? = some (.ow k2) := fun {j k1} e => by
      by_cases z : j = i
      · exact ⟨k, z ▸ hi⟩
      · rw [List.getElem?_set_ne (Ne.symm z)] at e
        exact ⟨_, e⟩
    obtain ⟨_, f1⟩ := f e1
    obtain ⟨_, f2⟩ := f e2
    exact r.apart j l b _ _ hjl f1 f2 e3
/-- the thing of a slot is still from now on -/
theorem Rel.freeze {ds : List Dt} {i : Nat} (r : Rel c F H σ env n) (hi : env[i]? = some (.ow (.lst ds))) : ∃ a F', σ[i]? = some (some (.ref a)) ∧ Up F F' ∧ Rp F' (.ref a) (.lst ds) ∧ Rel c F' H σ (env.set i (.fz (.lst ds))) n := by
  obtain ⟨a, o, e1, hF, h0, ns, hH, xs, rfl, rx⟩ := r.sl i _ hi
  have hrp : Rp (upd F a (.lst xs)) (.ref a) (.lst ds) := .lst upd_same (rx.up (up_lay hF))
  refine ⟨a, upd F a (.lst xs), e1, up_lay hF, hrp, ?_⟩
  refine ⟨fun b u e => ?_, fun b hb => ?_, r.ambU (up_lay hF), r.up0.trans (up_lay hF), fun b ob h1 nt h2 => ?_, r.keep0, by rw [List.length_set]; exact r.len, fun j s e => ?_, fun j l b k1 k2 hjl e1 e2 e3 => ?_⟩
  · by_cases z : b = a
    · subst z; rw [upd_same] at e; cases e; exact hH
    · rw [upd_ne z] at e; exact r.sub b u e
  · rw [upd_ne (fun (z : b = _) => ns (by rw [← z]; exact hb))]; exact r.spf b hb
  · rw [upd_ne (fun (z : b = _) => by rw [z, h0] at h1; cases h1)]; exact r.out0 b ob h1 nt h2
  · by_cases z : j = i
    · subst z
      rw [List.getElem?_set_self (List.getElem?_eq_some_iff.mp hi).1] at e
      cases e
      exact ⟨_, e1, hrp⟩
    · rw [List.getElem?_set_ne (Ne.symm z)] at e
      have q := r.sl j s e
      cases s with
      | no => trivial
      | fz d => exact let ⟨v, g1, g2⟩ := q; ⟨v, g1, g2.up (up_lay hF)⟩
      | ow kk =>
        obtain ⟨a2, o2, g1, g2, g3, g4, g5, g6⟩ := q
        refine ⟨a2, o2, g1, ?_, g3, g4, g5, g6.up (up_lay hF)⟩
        rw [upd_ne fun z2 => r.apart i j a _ kk (Ne.symm z) hi e e1 (by rw [g1, z2])]
        exact g2
  · have f : ∀ {j : Nat} {k1 : Con}, (env.set i (.fz (.lst ds)))[j]? = some (.ow k1) → env[j]? = some (.ow k1) := fun {j k1} e => by
      by_cases z : j = i
      · subst z
        rw [List.getElem?_set_self (List.getElem?_eq_some_iff.mp hi).1] at e
        cases e
      · rw [List.getElem?_set_ne (Ne.symm z)] at e
        exact e
    exact r.apart j l b k1 k2 hjl (f e1) (f e2) e3
/-- slots may be forgotten -/
theorem Rel.weak {σ' : L2.St} {env' : Ev} (r : Rel c F H σ env n) (hl : σ'.length = env'.length) (h : ∀ (i : Nat) s, env'[i]? = some s → s = .no ∨ (env[i]? = some s ∧ σ'[i]? = σ[i]?)) : Rel c F H σ' env' n := by
  refine ⟨r.sub, r.spf, r.amb, r.up0, r.out0, r.keep0, hl, fun i s e => ?_, fun j l b k1 k2 hjl e1 e2 e3 => ?_⟩
  · rcases h i s e with rfl | ⟨h1, h2⟩
    · trivial
    · rw [h2]; exact r.sl i s h1
  · rcases h j _ e1 with z | ⟨h1, h2⟩
    · cases z
    · rcases h l _ e2 with z | ⟨h3, h4⟩
      · cases z
      · rw [h2] at e3
        rw [h4]
        exact r.apart j l b k1 k2 hjl h1 h3 e3
/-- behind a call that wrote nothing of ours -/
theorem Rel.call {F' H' : Hp} {n' : Nat} (r : Rel c F H σ env n) (u : Up F F') (sb : Up F' H') (sf : ∀ a, c.am.sp a → F' a = none) (ot : ∀ a o, H a = some o → NT o → F a = none → F' a = none) (kp : ∀ a o, H a = some o → ¬ c.am.sp a → H' a = some o) (am : c.am.ok n' F' H') : Rel c F' H' σ env n' := by
  refine ⟨sb, sf, am, r.up0.trans u, fun b ob h1 nt h2 => ?_, fun b o e nb => kp b o (r.keep0 b o e nb) nb, r.len, fun i s e => ?_, r.apart⟩
  · by_cases hs : c.am.sp b
    · exact sf b hs
    · exact ot b ob (r.keep0 b ob h1 hs) nt (r.out0 b ob h1 nt h2)
  · have q := r.sl i s e
    cases s with
    | no => trivial
    | fz d => exact let ⟨v, g1, g2⟩ := q; ⟨v, g1, g2.up u⟩
    | ow k =>
      obtain ⟨a, o, g1, g2, g3, g4, g5, g6⟩ := q
      exact ⟨a, o, g1, ot a o g5 g6.nt g2, g3, g4, kp a o g5 g4, g6.up u⟩
/-- a tuple that stands may be held still -/
theorem Rel.addT {xs : List V} (r : Rel c F H σ env n) (h : H a = some (.tup xs)) : Rel c (upd F a (.tup xs)) H σ env n ∧ Up F (upd F a (.tup xs)) := by
  have up : Up F (upd F a (.tup xs)) := fun b o e => by
    by_cases z : b = a
    · subst z
      rw [r.sub _ _ e] at h
      cases h
      exact upd_same
    · rw [upd_ne z]; exact e
  refine ⟨⟨fun b o e => ?_, fun b hb => ?_, r.ambU up, r.up0.trans up, fun b ob h1 nt h2 => ?_, r.keep0, r.len, fun i s e => ?_, r.apart⟩, up⟩
  · by_cases z : b = a
    · subst z; rw [upd_same] at e; cases e; exact h
    · rw [upd_ne z] at e; exact r.sub b o e
  · rw [upd_ne (fun (z : b = a) => c.am.ntp r.amb hb (by rw [z]; exact h))]; exact r.spf b hb
  · by_cases z : b = a
    · subst z
      by_cases hs : c.am.sp b
      · exact absurd h (c.am.ntp r.amb hs)
      · have := r.keep0 b ob h1 hs
        rw [h] at this
        cases this
        exact absurd rfl (nt xs)
    · rw [upd_ne z]; exact r.out0 b ob h1 nt h2
  · have q := r.sl i s e
    cases s with
    | no => trivial
    | fz d => exact let ⟨v, g1, g2⟩ := q; ⟨v, g1, g2.up up⟩
    | ow k =>
      obtain ⟨a2, o, g1, g2, g3, g4, g5, g6⟩ := q
      refine ⟨a2, o, g1, ?_, g3, g4, g5, g6.up up⟩
      rw [upd_ne fun z => by
        rw [z, h] at g5
        cases g5
        exact absurd rfl (g6.nt xs)]
      exact g2
end
end VL
namespace VL
open PySem PySem.Spec PyProof.Rows L2 HM
abbrev VTE := Ev → Nat → (Dt → Ev → Nat → Prop) → Prop
abbrev VTT := Ev → Nat → (Bool → Ev → Nat → Prop) → Prop
abbrev VTA := Ev → Nat → (List Dt → Ev → Nat → Prop) → Prop
abbrev VTN := Ev → Nat → (Con → Ev → Nat → Prop) → Prop
structure VEn where
  nx : Ev → Nat → Prop
  rt : Dt → Nat → Prop
  bk : Ev → Nat → Prop := fun _ _ => False
  ct : Ev → Nat → Prop := fun _ _ => False
abbrev VTS := VEn → Ev → Nat → Prop
abbrev VTG := Dt → Ev → Nat → (Ev → Nat → Prop) → Prop
abbrev VTGs := List Dt → Ev → Nat → (Ev → Nat → Prop) → Prop
abbrev VTI := Ev → Nat → (List Dt → Ev → Nat → Prop) → Prop
/-- a still value -/
def tOf (c : Fc) (te : VTE) : TE := fun σ H R => ∃ F env n Q, Rel c F H σ env n ∧ te env n Q ∧ ∀ v H' F' d env' n', Rel c F' H' σ env' n' → Up F F' → Rp F' v d → Q d env' n' → R v H'
/-- what is still, and some lists of one's own beside -/
structure Gx (c : Fc) (F H G : Hp) : Prop where
  u1 : Up F G
  u2 : Up G H
  sp : ∀ a, c.am.sp a → G a = none
  tp : ∀ a xs, G a = some (.tup xs) → F a = some (.tup xs)
theorem Rel.gx {c : Fc} {F H : Hp} {σ : L2.St} {env : Ev} {n : Nat} (r : Rel c F H σ env n) : Gx c F H F := ⟨Up.refl F, r.sub, r.spf, fun _ _ e => e⟩
/-- a value that is read at once -/
def rOf (c : Fc) (te : VTE) : TE := fun σ H R => ∃ F env n Q, Rel c F H σ env n ∧ te env n Q ∧ ∀ v H' F' G d env' n', Rel c F' H' σ env' n' → Up F F' → Gx c F' H' G → Rp G v d → Q d env' n' → R v H'
/-- a new thing -/
def nOf (c : Fc) (te : VTN) : TE := fun σ H R => ∃ F env n Q, Rel c F H σ env n ∧ te env n Q ∧ ∀ a o H' F' k env' n', Rel c F' H' σ env' n' → Up F F' → F' a = none → c.H0 a = none → ¬ c.am.sp a → H' a = some o → OwOk F' a o k → (∀ (j : Nat) k', env'[j]? = some (.ow k') → σ[j]? ≠ some (some (.ref a))) → Q k env' n' → R (.ref a) H'
def aOf (c : Fc) (ta : VTA) : TA := fun σ H R => ∃ F env n Q, Rel c F H σ env n ∧ ta env n Q ∧ ∀ vs H' F' ds env' n', Rel c F' H' σ env' n' → Up F F' → Rps F' vs ds → Q ds env' n' → R vs H'
def bOf (c : Fc) (ta : VTA) : TA := fun σ H R => ∃ F env n Q, Rel c F H σ env n ∧ ta env n Q ∧ ∀ vs H' F' G ds env' n', Rel c F' H' σ env' n' → Up F F' → Gx c F' H' G → Rps G vs ds → Q ds env' n' → R vs H'
def cOf (c : Fc) (tt : VTT) : TT := fun σ H R => ∃ F env n Q, Rel c F H σ env n ∧ tt env n Q ∧ ∀ b H' F' env' n', Rel c F' H' σ env' n' → Up F F' → Q b env' n' → R b H'
structure EnOk (c : Fc) (F : Hp) (V : VEn) (D : Ends) : Prop where
  nx : ∀ F' H' σ' env' n', Rel c F' H' σ' env' n' → Up F F' → V.nx env' n' → D.nx σ' H'
  rt : ∀ F' H' σ' env' n' v d, Rel c F' H' σ' env' n' → Up F F' → Rp F' v d → V.rt d n' → D.rt v H'
  bk : ∀ F' H' σ' env' n', Rel c F' H' σ' env' n' → Up F F' → V.bk env' n' → D.bk σ' H'
  ct : ∀ F' H' σ' env' n', Rel c F' H' σ' env' n' → Up F F' → V.ct env' n' → D.ct σ' H'
theorem EnOk.up {c : Fc} {F F' : Hp} {V : VEn} {D : Ends} (h : EnOk c F V D) (u : Up F F') : EnOk c F' V D :=
  ⟨fun F2 H' σ' env' n' r w => h.nx F2 H' σ' env' n' r (u.trans w), fun F2 H' σ' env' n' v d r w => h.rt F2 H' σ' env' n' v d r (u.trans w), fun F2 H' σ' env' n' r w => h.bk F2 H' σ' env' n' r (u.trans w), fun F2 H' σ' env' n' r w => h.ct F2 H' σ' env' n' r (u.trans w)⟩
def sOf (c : Fc) (ts : VTS) : TS := fun D σ H => ∃ F env n V, Rel c F H σ env n ∧ ts V env n ∧ EnOk c F V D
def gOf (c : Fc) (g : VTG) : TG := fun v σ H R => ∃ F env n d Q, Rel c F H σ env n ∧ Rp F v d ∧ g d env n Q ∧ ∀ σ' H' F' env' n', Rel c F' H' σ' env' n' → Up F F' → Q env' n' → R σ' H'
def gsOf (c : Fc) (g : VTGs) : TGs := fun vs σ H R => ∃ F env n ds Q, Rel c F H σ env n ∧ Rps F vs ds ∧ g ds env n Q ∧ ∀ σ' H' F' env' n', Rel c F' H' σ' env' n' → Up F F' → Q env' n' → R σ' H'
/-- what is walked: the things xs, one by one -/
def Wk (am : Am) (J : It) (F0 : Hp) (xs : List Dt) : Prop := ∀ (c : Fc), c.am = am → ∀ F H σ env n, Rel c F H σ env n → Up F0 F → ∀ i : Nat,
  (i < xs.length → J.go i H ∧ ∀ x H', J.yld i H x H' → ∃ F' d, Rel c F' H' σ env n ∧ Up F F' ∧ xs[i]? = some d ∧ Rp F' x d) ∧ (xs.length ≤ i → J.stop i H)
def iOf (c : Fc) (wi : VTI) : TI := fun σ H R => ∃ F env n Q, Rel c F H σ env n ∧ wi env n Q ∧ ∀ J H' F' xs env' n', Rel c F' H' σ env' n' → Up F F' → Wk c.am J F' xs → Q xs env' n' → R J H'
theorem PE.imp {X : Cx} {e : Expr} {t t' : TE} (h : PE X e t) (k : ∀ σ H R, t' σ H R → t σ H R) : PE X e t' := ⟨fun pins s σ H Q I q => h.run pins s σ H Q I (k _ _ _ q)⟩
theorem PT.imp {X : Cx} {e : Expr} {t t' : TT} (h : PT X e t) (k : ∀ σ H R, t' σ H R → t σ H R) : PT X e t' := ⟨fun pins s σ H Q I q => h.run pins s σ H Q I (k _ _ _ q)⟩
theorem PW.imp {X : Cx} {e : Expr} {t t' : TT} (h : PW X e t) (k : ∀ σ H R, t' σ H R → t σ H R) : PW X e t' := ⟨fun wh pins s σ H Q I q => h.run wh pins s σ H Q I (k _ _ _ q)⟩
theorem PA.imp {X : Cx} {e : List Expr} {t t' : TA} (h : PA X e t) (k : ∀ σ H R, t' σ H R → t σ H R) : PA X e t' := ⟨fun pos pins s σ H Q I q => h.run pos pins s σ H Q I (k _ _ _ q)⟩
theorem PS.imp {X : Cx} {e : Stmt} {t t' : TS} (h : PS X e t) (k : ∀ D σ H, t' D σ H → t D σ H) : PS X e t' := ⟨fun pins s σ H D I q => h.run pins s σ H D I (k _ _ _ q)⟩
theorem PSs.imp {X : Cx} {e : List Stmt} {t t' : TS} (h : PSs X e t) (k : ∀ D σ H, t' D σ H → t D σ H) : PSs X e t' := ⟨fun pins s σ H D I q => h.run pins s σ H D I (k _ _ _ q)⟩
theorem PG.imp {X : Cx} {e : Expr} {t t' : TG} (h : PG X e t) (k : ∀ v σ H R, t' v σ H R → t v σ H R) : PG X e t' := ⟨fun pins s σ H v u Q I r q => h.run pins s σ H v u Q I r (k _ _ _ _ q)⟩
theorem PGs.imp {X : Cx} {e : List Expr} {t t' : TGs} (h : PGs X e t) (k : ∀ v σ H R, t' v σ H R → t v σ H R) : PGs X e t' := ⟨fun pins s σ H v u Q I r q => h.run pins s σ H v u Q I r (k _ _ _ _ q)⟩
theorem PI.imp {X : Cx} {tg e : Expr} {t t' : TI} (h : PI X tg e t) (k : ∀ σ H R, t' σ H R → t σ H R) : PI X tg e t' := ⟨fun pins s σ H Q I q => h.run pins s σ H Q I (k _ _ _ q)⟩
section
variable {c : Fc} {X : Cx} {a b : Expr} {ta tb : VTE} {pos : Pos}
def vVar (i : Nat) : VTE := fun env n Q => ∃ d, env[i]? = some (.fz d) ∧ Q d env n
/-- a thing of one's own, still from now on -/
def vMv (i : Nat) : VTE := fun env n Q => ∃ ds, env[i]? = some (.ow (.lst ds)) ∧ Q (.lst ds) (env.set i (.fz (.lst ds))) n
def vC (d : Dt) : VTE := fun env n Q => Q d env n
theorem tVar_of {i : Nat} {σ : L2.St} {H : Hp} {R : VK} (h : tOf c (vVar i) σ H R) : tVar i σ H R := by
  obtain ⟨F, env, n, Q, r, ⟨d, e, q⟩, k⟩ := h
  obtain ⟨v, e2, rp⟩ := r.sl i _ e
  exact ⟨v, e2, k v H F d env n r (Up.refl F) rp q⟩
theorem ve_var {i : Nat} {x : Str} (h : PE X (.Name x pos) (tVar i)) : PE X (.Name x pos) (tOf c (vVar i)) := PE.imp h fun _ _ _ => tVar_of
theorem ve_mv {i : Nat} {x : Str} (h : PE X (.Name x pos) (tVar i)) : PE X (.Name x pos) (tOf c (vMv i)) := PE.imp h fun σ H R ⟨F, env, n, Q, r, ⟨ds, e, q⟩, k⟩ => by
  obtain ⟨a, F', e2, u, rp, r'⟩ := r.freeze e
  exact ⟨.ref a, e2, k _ H F' _ _ n r' u rp q⟩
theorem Rel.rdOwn {F H : Hp} {σ : L2.St} {env : Ev} {n : Nat} {i : Nat} {ds : List Dt} (r : Rel c F H σ env n) (e : env[i]? = some (.ow (.lst ds))) : ∃ a xs, σ[i]? = some (some (.ref a)) ∧ H a = some (.lst xs) ∧ Rps F xs ds := by
  obtain ⟨a, o, e2, _, _, _, hH, xs, rfl, rx⟩ := r.sl i _ e
  exact ⟨a, xs, e2, hH, rx⟩
/-- a list of one's own beside what is still -/
theorem Gx.add {F H G : Hp} {σ : L2.St} {env : Ev} {n : Nat} {i : Nat} {ds : List Dt} (r : Rel c F H σ env n) (g : Gx c F H G) (e : env[i]? = some (.ow (.lst ds))) : ∃ a G', σ[i]? = some (some (.ref a)) ∧ Gx c F H G' ∧ Up G G' ∧ Rp G' (.ref a) (.lst ds) := by
  obtain ⟨a, o, e2, hF, h0, ns, hH, xs, rfl, rx⟩ := r.sl i _ e
  have up : Up G (upd G a (.lst xs)) := fun b u q => by
    by_cases z : b = a
    · subst z
      rw [g.u2 _ _ q] at hH
      cases hH
      exact upd_same
    · rw [upd_ne z]; exact q
  refine ⟨a, upd G a (.lst xs), e2, ⟨g.u1.trans up, fun b u q => ?_, fun b hb => ?_, fun b ys q => ?_⟩, up, .lst upd_same (rx.up (g.u1.trans up))⟩
  · by_cases z : b = a
    · subst z; rw [upd_same] at q; cases q; exact hH
    · rw [upd_ne z] at q; exact g.u2 b u q
  · rw [upd_ne (fun (z : b = a) => ns (by rw [← z]; exact hb))]; exact g.sp b hb
  · by_cases z : b = a
    · subst z; rw [upd_same] at q; cases q
    · rw [upd_ne z] at q; exact g.tp b ys q
theorem vr_of {te : VTE} {e : Expr} (h : PE X e (tOf c te)) : PE X e (rOf c te) := PE.imp h fun σ H R ⟨F, env, n, Q, r, h, k⟩ => ⟨F, env, n, Q, r, h, fun v H' F' d env' n' r' u rp q => k v H' F' F' d env' n' r' u r'.gx rp q⟩
theorem ve_c {e : Expr} {v : V} {d : Dt} (h : PE X e (tC v)) (hd : ∀ F, Rp F v d) : PE X e (tOf c (vC d)) := PE.imp h fun σ H R ⟨F, env, n, Q, r, q, k⟩ => k v H F d env n r (Up.refl F) (hd F) q
theorem ve_int {i j} : PE X (.Constant (.int i) j pos) (tOf c (vC (.int i))) := ve_c pe_int fun _ => .int i
theorem ve_bl {i j} : PE X (.Constant (.bool i) j pos) (tOf c (vC (.bl i))) := ve_c pe_bl fun _ => .bl i
theorem ve_non {j} : PE X (.Constant .none j pos) (tOf c (vC .non)) := ve_c pe_non fun _ => .non
/-- a new list, still from now on -/
theorem ve_new {te : VTN} {e : Expr} (h : PE X e (nOf c te)) : PE X e (tOf c (fun env n Q => te env n fun k env' n' => ∃ ds, k = .lst ds ∧ Q (.lst ds) env' n')) := PE.imp h fun σ H R ⟨F, env, n, Q, r, h, k⟩ => ⟨F, env, n, _, r, h, fun a o H' F' kk env' n' r' u hF h0 ns hH w ha q => by
    obtain ⟨ds, rfl, q⟩ := q
    obtain ⟨xs, rfl, rx⟩ := w
    have rp : Rp (upd F' a (.lst xs)) (.ref a) (.lst ds) := .lst upd_same (rx.up (up_lay hF))
    refine k _ H' (upd F' a (.lst xs)) _ env' n' ⟨fun b ob e => ?_, fun b hb => ?_, r'.ambU (up_lay hF), r'.up0.trans (up_lay hF), fun b ob h1 nt h2 => ?_, r'.keep0, r'.len, fun i s e => ?_, r'.apart⟩ (u.trans (up_lay hF)) rp q
    · by_cases z : b = a
      · subst z; rw [upd_same] at e; cases e; exact hH
      · rw [upd_ne z] at e; exact r'.sub b ob e
    · rw [upd_ne (fun (z : b = a) => ns (by rw [← z]; exact hb))]; exact r'.spf b hb
    · rw [upd_ne (fun (z : b = a) => by rw [z, h0] at h1; cases h1)]; exact r'.out0 b ob h1 nt h2
    · have q := r'.sl i s e
      cases s with
      | no => trivial
      | fz d => exact let ⟨v, g1, g2⟩ := q; ⟨v, g1, g2.up (up_lay hF)⟩
      | ow kk =>
        obtain ⟨a2, o2, g1, g2, g3, g4, g5, g6⟩ := q
        refine ⟨a2, o2, g1, ?_, g3, g4, g5, g6.up (up_lay hF)⟩
        rw [upd_ne fun z2 => ha i kk e (by rw [g1, z2])]
        exact g2⟩
def v2 (ta tb : VTE) (k : Dt → Dt → Ev → Nat → Prop) : Ev → Nat → Prop := fun env n => ta env n fun x env1 n1 => tb env1 n1 fun y env2 n2 => k x y env2 n2
theorem t2_of {σ : L2.St} {H : Hp} {F : Hp} {env : Ev} {n : Nat} {k : Dt → Dt → Ev → Nat → Prop} {K : V → V → Hp → Prop} (r : Rel c F H σ env n) (h : v2 ta tb k env n)
    (hk : ∀ x y d1 d2 H' F' env' n', Rel c F' H' σ env' n' → Up F F' → Rp F' x d1 → Rp F' y d2 → k d1 d2 env' n' → K x y H') : tOf c ta σ H fun x H1 => tOf c tb σ H1 fun y H2 => K x y H2 :=
  ⟨F, env, n, _, r, h, fun x H1 F1 d1 env1 n1 r1 u1 p1 q1 => ⟨F1, env1, n1, _, r1, q1, fun y H2 F2 d2 env2 n2 r2 u2 p2 q2 => hk x y d1 d2 H2 F2 env2 n2 r2 (u1.trans u2) (p1.up u2) p2 q2⟩⟩
theorem Rp.int_inv {F : Hp} {v : V} {i : Int} (h : Rp F v (.int i)) : v = .int i := by cases h; rfl
theorem Rp.bl_inv {F : Hp} {v : V} {i : Bool} (h : Rp F v (.bl i)) : v = .bl i := by cases h; rfl
theorem Rp.non_inv {F : Hp} {v : V} (h : Rp F v .non) : v = .non := by cases h; rfl
theorem Rp.str_inv {F : Hp} {v : V} {i : Str} (h : Rp F v (.str i)) : v = .str i := by cases h; rfl
theorem Rp.lst_inv {F : Hp} {v : V} {ds : List Dt} (h : Rp F v (.lst ds)) : ∃ a xs, v = .ref a ∧ F a = some (.lst xs) ∧ Rps F xs ds := by cases h with | lst h t => exact ⟨_, _, rfl, h, t⟩
theorem Rp.tup_inv {F : Hp} {v : V} {ds : List Dt} (h : Rp F v (.tup ds)) : ∃ a xs, v = .ref a ∧ F a = some (.tup xs) ∧ Rps F xs ds := by cases h with | tup h t => exact ⟨_, _, rfl, h, t⟩
end
end VL
namespace VL
open PySem PySem.Spec PyProof.Rows L2 HM
abbrev R2D := Dt → Dt → (Dt → Prop) → Prop
def Lft2 (r : R2) (r' : R2D) : Prop := ∀ (F H : Hp) x y d1 d2 (Q : Dt → Prop) (R : VK), Up F H → Rp F x d1 → Rp F y d2 → r' d1 d2 Q → (∀ v d, Rp F v d → Q d → R v H) → r x y H R
def vOp (r' : R2D) (ta tb : VTE) : VTE := fun env n Q => v2 ta tb (fun x y env' n' => r' x y fun d => Q d env' n') env n
/-- what slot i holds, to be read -/
def rdS (env : Ev) (i : Nat) (d : Dt) : Prop := env[i]? = some (.fz d) ∨ ∃ ds, env[i]? = some (.ow (.lst ds)) ∧ d = .lst ds
/-- the left one a name whose thing is read at the end -/
def vOpN (r' : R2D) (i : Nat) (tb : VTE) : VTE := fun env n Q => (∃ d0, rdS env i d0) ∧ tb env n fun y env' n' => ∃ x, rdS env' i x ∧ r' x y fun d => flat d = true ∧ Q d env' n'
def vOpR (r' : R2D) (ta tb : VTE) : VTE := fun env n Q => v2 ta tb (fun x y env' n' => r' x y fun d => flat d = true ∧ Q d env' n') env n
section
variable {c : Fc} {X : Cx} {a b : Expr} {ta tb : VTE} {pos : Pos}
theorem Rel.rdS {F H G : Hp} {σ : L2.St} {env : Ev} {n : Nat} {i : Nat} {d : Dt} (r : Rel c F H σ env n) (g : Gx c F H G) (e : rdS env i d) : ∃ v G', σ[i]? = some (some v) ∧ Gx c F H G' ∧ Up G G' ∧ Rp G' v d := by
  rcases e with e | ⟨ds, e, rfl⟩
  · obtain ⟨v, e2, rp⟩ := r.sl i _ e
    exact ⟨v, G, e2, g, Up.refl G, rp.up g.u1⟩
  · obtain ⟨a, G', e2, g', u, rp⟩ := g.add r e
    exact ⟨_, G', e2, g', u, rp⟩
theorem op_of {r : R2} {r' : R2D} (L : Lft2 r r') {σ : L2.St} {H : Hp} {R : VK} (h : tOf c (vOp r' ta tb) σ H R) : tOp r (tOf c ta) (tOf c tb) σ H R := by
  obtain ⟨F, env, n, Q, rr, h, k⟩ := h
  exact t2_of rr h fun x y d1 d2 H' F' env' n' r' u p1 p2 q => L F' H' x y d1 d2 _ R r'.sub p1 p2 q fun v d rv qd => k v H' F' d env' n' r' u rv qd
/-- the right one just read -/
theorem opR_of {r : R2} {r' : R2D} (L : Lft2 r r') {σ : L2.St} {H : Hp} {R : VK} (h : tOf c (vOpR r' ta tb) σ H R) : tOp r (tOf c ta) (rOf c tb) σ H R := by
  obtain ⟨F, env, n, Q, rr, h, k⟩ := h
  exact ⟨F, env, n, _, rr, h, fun x H1 F1 d1 env1 n1 r1 u1 p1 q1 => ⟨F1, env1, n1, _, r1, q1, fun y H2 F2 G d2 env2 n2 r2 u2 g p2 q2 =>
    L G H2 x y d1 d2 _ R g.u2 ((p1.up u2).up g.u1) p2 q2 fun v d rv qd => k v H2 F2 d env2 n2 r2 (u1.trans u2) (rv.flat g.tp qd.1) qd.2⟩⟩
theorem opN_of {i : Nat} {r : R2} {r' : R2D} (L : Lft2 r r') {σ : L2.St} {H : Hp} {R : VK} (h : tOf c (vOpN r' i tb) σ H R) : tOp r (tVar i) (rOf c tb) σ H R := by
  obtain ⟨F, env, n, Q, rr, ⟨⟨d0, e0⟩, h⟩, k⟩ := h
  obtain ⟨v0, _, ev, _⟩ := rr.rdS rr.gx e0
  refine ⟨v0, ev, F, env, n, _, rr, h, fun y H2 F2 G d2 env2 n2 r2 u2 g p2 q2 => ?_⟩
  obtain ⟨x, ex, q2⟩ := q2
  obtain ⟨v1, G', ev1, g', ug, px⟩ := r2.rdS g ex
  rw [ev] at ev1
  cases ev1
  exact L G' H2 v0 y x d2 _ R g'.u2 px (p2.up ug) q2 fun v d rv qd => k v H2 F2 d env2 n2 r2 u2 (rv.flat g'.tp qd.1) qd.2
theorem ve_op {op : Operator} {r : R2} {r' : R2D} (ho : OpR X (binaryOp op) r) (L : Lft2 r r') (ha : PE X a (tOf c ta)) (hb : PE X b (tOf c tb)) : PE X (.BinOp a op b pos) (tOf c (vOp r' ta tb)) := PE.imp (pe_op ho ha hb) fun _ _ _ => op_of L
theorem ve_cmp {op : CmpOp} {r : R2} {r' : R2D} (ho : OpR X (compareOp op) r) (L : Lft2 r r') (ha : PE X a (tOf c ta)) (hb : PE X b (tOf c tb)) (hm : behindInMarks op b = false) : PE X (.Compare a [op] [b] pos) (tOf c (vOp r' ta tb)) := PE.imp (pe_cmpR ho ha hb hm) fun _ _ _ => op_of L
theorem ve_cmpR {op : CmpOp} {r : R2} {r' : R2D} (ho : OpR X (compareOp op) r) (L : Lft2 r r') (ha : PE X a (tOf c ta)) (hb : PE X b (rOf c tb)) (hm : behindInMarks op b = false) : PE X (.Compare a [op] [b] pos) (tOf c (vOpR r' ta tb)) := PE.imp (pe_cmpR ho ha hb hm) fun _ _ _ => opR_of L
def vB (te : VTE) : VTT := fun env n Q => te env n fun d env' n' => ∃ b, d = .bl b ∧ Q b env' n'
theorem test_of {te : VTE} {t : TE} (h : ∀ {σ H R}, tOf c te σ H R → t σ H R) {σ : L2.St} {H : Hp} {R : Bool → Hp → Prop} (q : cOf c (vB te) σ H R) : tTest t σ H R := by
  obtain ⟨F, env, n, Q, rr, q, k⟩ := q
  refine h ⟨F, env, n, _, rr, q, fun v H' F' d env' n' r' u rp qd => ?_⟩
  obtain ⟨bb, rfl, qd⟩ := qd
  exact ⟨bb, rp.bl_inv, k bb H' F' env' n' r' u qd⟩
theorem vt_cmp {op : CmpOp} {r : R2} {r' : R2D} (ho : OpR X (compareOp op) r) (L : Lft2 r r') (ha : PE X a (tOf c ta)) (hb : PE X b (tOf c tb)) (hm : behindInMarks op b = false) : PT X (.Compare a [op] [b] pos) (cOf c (vB (vOp r' ta tb))) := PT.imp (pt_cmpR ho ha hb hm) fun _ _ _ => test_of (op_of L)
theorem vt_cmpN {i : Nat} {op : CmpOp} {r : R2} {r' : R2D} (ho : OpR X (compareOp op) r) (L : Lft2 r r') (ha : PE X a (tVar i)) (hb : PE X b (rOf c tb)) (hm : behindInMarks op b = false) : PT X (.Compare a [op] [b] pos) (cOf c (vB (vOpN r' i tb))) := PT.imp (pt_cmpR ho ha hb hm) fun _ _ _ => test_of (opN_of L)
def vOr (t u : VTT) : VTT := fun env n Q => t env n fun b env1 n1 => if b = true then Q true env1 n1 else u env1 n1 Q
variable {tA tB : VTT} {rest : List Expr}
theorem vt_or1 (h : PT X a (cOf c tA)) : PW X (.BoolOp .Or [a] pos) (cOf c tA) := pw_or1 h
theorem vt_or (ha : PT X a (cOf c tA)) (hb : PW X (.BoolOp .Or (b :: rest) pos) (cOf c tB)) : PW X (.BoolOp .Or (a :: b :: rest) pos) (cOf c (vOr tA tB)) := PW.imp (pw_or ha hb) fun σ H R q => by
  obtain ⟨F, env, n, Q, rr, q, k⟩ := q
  refine ⟨F, env, n, _, rr, q, fun b H' F' env' n' r' u qd => ?_⟩
  cases b with
  | false => exact ⟨F', env', n', _, r', qd, fun b2 H2 F2 env2 n2 r2 u2 q2 => k b2 H2 F2 env2 n2 r2 (u.trans u2) q2⟩
  | true => exact k true H' F' env' n' r' u qd
def vNil : VTA := fun env n Q => Q [] env n
def vCons (te : VTE) (ta : VTA) : VTA := fun env n Q => te env n fun d env1 n1 => ta env1 n1 fun ds env2 n2 => Q (d :: ds) env2 n2
/-- a name whose thing is read when all stand -/
def vConsR (i : Nat) (ta : VTA) : VTA := fun env n Q => (∃ d0, rdS env i d0) ∧ ta env n fun ds env2 n2 => ∃ d, rdS env2 i d ∧ Q (d :: ds) env2 n2
variable {te : VTE} {tas : VTA} {e : Expr} {es : List Expr}
theorem va_nil : PA X [] (aOf c vNil) := PA.imp pa_nil fun σ H R ⟨F, env, n, Q, rr, q, k⟩ => k [] H F [] env n rr (Up.refl F) .nil q
theorem va_cons (ha : PE X e (tOf c te)) (hr : PA X es (aOf c tas)) (hs : starEach (e :: es) X.env = (false, eval e X.env) :: starEach es X.env := by rfl) : PA X (e :: es) (aOf c (vCons te tas)) := PA.imp (pa_cons ha hr hs) fun σ H R ⟨F, env, n, Q, rr, q, k⟩ =>
  ⟨F, env, n, _, rr, q, fun v H1 F1 d env1 n1 r1 u1 p1 q1 => ⟨F1, env1, n1, _, r1, q1, fun vs H2 F2 ds env2 n2 r2 u2 p2 q2 => k _ H2 F2 _ env2 n2 r2 (u1.trans u2) (.cons (p1.up u2) p2) q2⟩⟩
theorem vb_of (h : PA X es (aOf c tas)) : PA X es (bOf c tas) := PA.imp h fun σ H R ⟨F, env, n, Q, rr, q, k⟩ => ⟨F, env, n, _, rr, q, fun vs H2 F2 ds env2 n2 r2 u2 p2 q2 => k _ H2 F2 F2 _ env2 n2 r2 u2 r2.gx p2 q2⟩
theorem vb_nil : PA X [] (bOf c vNil) := vb_of va_nil
theorem vb_cons (ha : PE X e (tOf c te)) (hr : PA X es (bOf c tas)) (hs : starEach (e :: es) X.env = (false, eval e X.env) :: starEach es X.env := by rfl) : PA X (e :: es) (bOf c (vCons te tas)) := PA.imp (pa_cons ha hr hs) fun σ H R ⟨F, env, n, Q, rr, q, k⟩ =>
  ⟨F, env, n, _, rr, q, fun v H1 F1 d env1 n1 r1 u1 p1 q1 => ⟨F1, env1, n1, _, r1, q1, fun vs H2 F2 G ds env2 n2 r2 u2 g p2 q2 => k _ H2 F2 G _ env2 n2 r2 (u1.trans u2) g (.cons ((p1.up u2).up g.u1) p2) q2⟩⟩
theorem vb_rd {i : Nat} (ha : PE X e (tVar i)) (hr : PA X es (bOf c tas)) (hs : starEach (e :: es) X.env = (false, eval e X.env) :: starEach es X.env := by rfl) : PA X (e :: es) (bOf c (vConsR i tas)) := PA.imp (pa_cons ha hr hs) fun σ H R ⟨F, env, n, Q, rr, ⟨⟨d0, e0⟩, q⟩, k⟩ => by
  obtain ⟨v0, _, ev, _⟩ := rr.rdS rr.gx e0
  refine ⟨v0, ev, F, env, n, _, rr, q, fun vs H2 F2 G ds env2 n2 r2 u2 g p2 q2 => ?_⟩
  obtain ⟨d, ed, q2⟩ := q2
  obtain ⟨v1, G', ev1, g', ug, pd⟩ := r2.rdS g ed
  rw [ev] at ev1
  cases ev1
  exact k _ H2 F2 G' _ env2 n2 r2 u2 g' (.cons pd (p2.up ug)) q2
theorem small1000 {n : Nat} (h : n ≤ 5000) : n < sizeLine := Nat.lt_of_le_of_lt h (by decide)
theorem small1k {n : Nat} (h : n ≤ 5000) : n ≤ sizeLine := Nat.le_of_lt (small1000 h)
def vTup (ta : VTA) : VTE := fun env n Q => ta env n fun ds env1 n1 => ds.length ≤ 5000 ∧ Q (.tup ds) env1 n1
def vLst (ta : VTA) : VTN := fun env n Q => ta env n fun ds env1 n1 => ds.length ≤ 5000 ∧ Q (.lst ds) env1 n1
theorem ve_tup {x1} (h : PA X es (aOf c tas)) : PE X (.Tuple es x1 pos) (tOf c (vTup tas)) := PE.imp (pe_tup h) fun σ H R ⟨F, env, n, Q, rr, q, k⟩ => ⟨F, env, n, _, rr, q, fun vs H2 F2 ds env2 n2 r2 u2 p2 q2 => by
  refine ⟨small1k (by rw [p2.len]; exact q2.1), fun p np => ?_⟩
  obtain ⟨_, _, nf⟩ := r2.new0 np
  exact k _ _ (upd F2 p (.tup vs)) _ env2 n2 (r2.layF np _) (u2.trans (up_lay nf)) (.tup upd_same (p2.up (up_lay nf))) q2.2⟩
theorem nOf_new {σ : L2.St} {H F : Hp} {env : Ev} {n : Nat} {p : Addr} {o : HO} {kk : Con} {F0 : Hp} {Q : Con → Ev → Nat → Prop} {R : VK} (rr : Rel c F H σ env n) (u : Up F0 F) (np : H p = none) (w : OwOk F p o kk) (q : Q kk env n)
    (k : ∀ a o H' F' kk env' n', Rel c F' H' σ env' n' → Up F0 F' → F' a = none → c.H0 a = none → ¬ c.am.sp a → H' a = some o → OwOk F' a o kk → (∀ (j : Nat) k', env'[j]? = some (.ow k') → σ[j]? ≠ some (some (.ref a))) → Q kk env' n' → R (.ref a) H') : R (.ref p) (upd H p o) := by
  obtain ⟨h0, ns, nf⟩ := rr.new0 np
  refine k p o (upd H p o) F kk env n (rr.lay np o) u nf h0 ns upd_same w (fun j k' e z => ?_) q
  obtain ⟨a2, o2, g1, _, _, _, g5, _⟩ := rr.sl j _ e
  rw [g1] at z
  cases z
  rw [g5] at np
  cases np
theorem vn_lst (h : PA X es (aOf c tas)) : PE X (.List es pos) (nOf c (vLst tas)) := PE.imp (pe_lst h) fun σ H R ⟨F, env, n, Q, rr, q, k⟩ => ⟨F, env, n, _, rr, q, fun vs H2 F2 ds env2 n2 r2 u2 p2 q2 =>
  ⟨small1k (by rw [p2.len]; exact q2.1), fun p np => nOf_new r2 u2 np (kk := .lst ds) ⟨vs, rfl, p2⟩ q2.2 k⟩⟩
end
end VL
namespace VL
open PySem PySem.Spec PyProof.Rows L2 HM
section
variable {c : Fc} {X : Cx} {a b e : Expr} {es : List Expr} {te ta tb : VTE} {tas : VTA} {pos : Pos}
def vNext : VTS := fun V env n => V.nx env n
def vSeq (t u : VTS) : VTS := fun V env n => t { V with nx := u V } env n
theorem EnOk.seq {F : Hp} {V : VEn} {D : Ends} {u : VTS} {u' : TS} (h : EnOk c F V D) (k : ∀ F' H' σ' env' n', Rel c F' H' σ' env' n' → Up F F' → u V env' n' → u' D σ' H') : EnOk c F { V with nx := u V } { D with nx := u' D } :=
  ⟨fun F' H' σ' env' n' r w q => k F' H' σ' env' n' r w q, h.rt, h.bk, h.ct⟩
variable {st : Stmt} {rest body els : List Stmt} {t u : VTS}
theorem vss_nil : PSs X [] (sOf c vNext) := PSs.imp pss_nil fun D σ H ⟨F, env, n, V, r, q, k⟩ => k.nx F H σ env n r (Up.refl F) q
theorem vss_cons (h1 : PS X st (sOf c t)) (h2 : PSs X rest (sOf c u)) : PSs X (st :: rest) (sOf c (vSeq t u)) := PSs.imp (pss_cons h1 h2) fun D σ H ⟨F, env, n, V, r, q, k⟩ =>
  ⟨F, env, n, _, r, q, k.seq fun F' H' σ' env' n' r' w q' => ⟨F', env', n', V, r', q', k.up w⟩⟩
theorem vss_one (h1 : PS X st (sOf c t)) : PSs X [st] (sOf c t) := pss_one h1
def vDrop (te : VTE) : VTS := fun V env n => te env n fun _ env1 n1 => V.nx env1 n1
theorem vs_expr (he : PE X e (tOf c te)) (hs : swapsWith e none pos.line X.env = pure false := by rfl) : PS X (.Expr e pos) (sOf c (vDrop te)) := PS.imp (ps_expr he hs) fun D σ H ⟨F, env, n, V, r, q, k⟩ =>
  ⟨F, env, n, _, r, q, fun v H' F' d env' n' r' u rp qd => k.nx F' H' σ env' n' r' u qd⟩
def vRet (te : VTE) : VTS := fun V env n => te env n fun d _ n1 => V.rt d n1
theorem vs_ret (he : PE X e (tOf c te)) : PS X (.Return (some e) pos) (sOf c (vRet te)) := PS.imp (ps_ret he) fun D σ H ⟨F, env, n, V, r, q, k⟩ =>
  ⟨F, env, n, _, r, q, fun v H' F' d env' n' r' u rp qd => k.rt F' H' σ env' n' v d r' u rp qd⟩
def vIf (tc : VTT) (t u : VTS) : VTS := fun V env n => tc env n fun b env1 n1 => if b = true then t V env1 n1 else u V env1 n1
theorem vs_if {tc : VTT} (hc : PT X e (cOf c tc)) (ha : PSs X body (sOf c t)) (hb : PSs X els (sOf c u)) : PS X (.If e body els pos) (sOf c (vIf tc t u)) := PS.imp (ps_if hc ha hb) fun D σ H ⟨F, env, n, V, r, q, k⟩ =>
  ⟨F, env, n, _, r, q, fun b H' F' env' n' r' w qd => by
    cases b with
    | true => exact ⟨F', env', n', V, r', qd, k.up w⟩
    | false => exact ⟨F', env', n', V, r', qd, k.up w⟩⟩
def vgName (i : Nat) : VTG := fun d env n Q => Q (env.set i (.fz d)) n
theorem vg_name {i : Nat} {x : Str} (h : PG X (.Name x pos) (gName i)) : PG X (.Name x pos) (gOf c (vgName i)) := PG.imp h fun v σ H R ⟨F, env, n, d, Q, r, rp, q, k⟩ => k _ H F _ n (r.setF rp) (Up.refl F) q
def vgNil : VTGs := fun ds env n Q => ds = [] ∧ Q env n
def vgCons (t : VTG) (u : VTGs) : VTGs := fun ds env n Q => ∃ d r, ds = d :: r ∧ t d env n fun env' n' => u r env' n' Q
theorem vgs_nil : PGs X [] (gsOf c vgNil) := PGs.imp pgs_nil fun v σ H R ⟨F, env, n, ds, Q, r, rp, ⟨e, q⟩, k⟩ => by
  subst e
  cases rp
  exact ⟨rfl, k _ H F _ n r (Up.refl F) q⟩
theorem vgs_cons {g : VTG} {gs : VTGs} (h1 : PG X e (gOf c g)) (h2 : PGs X es (gsOf c gs)) (hs : (assignEach (e :: es) X.env).map (·.2) = assign e X.env :: (assignEach es X.env).map (·.2) := by rfl) : PGs X (e :: es) (gsOf c (vgCons g gs)) := PGs.imp (pgs_cons h1 h2 hs) fun v σ H R ⟨F, env, n, ds, Q, r, rp, ⟨d, ds', e, q⟩, k⟩ => by
  subst e
  cases rp with
  | cons p ps => exact ⟨_, _, rfl, F, env, n, d, _, r, p, q, fun σ' H' F' env' n' r' w q' => ⟨F', env', n', ds', _, r', ps.up w, q', fun σ2 H2 F2 env2 n2 r2 w2 q2 => k σ2 H2 F2 env2 n2 r2 (w.trans w2) q2⟩⟩
def vgTup (m : Nat) (g : VTGs) : VTG := fun d env n Q => ∃ ds, d = .tup ds ∧ ds.length = m ∧ g ds env n Q
theorem vg_tup {k m : Nat} {gs : VTGs} (hc : X.calm = true) (h : PGs X es (gsOf c gs)) (hn : (assignEach es X.env).length = m := by rfl) (hst : (assignEach es X.env).findIdx? (·.1) = none := by rfl) : PG X (.Tuple es k pos) (gOf c (vgTup m gs)) := PG.imp (pg_tup hc h hn hst) fun v σ H R ⟨F, env, n, d, Q, r, rp, ⟨ds, e, hl, q⟩, k⟩ => by
  subst e
  obtain ⟨a, xs, rfl, hF, rx⟩ := rp.tup_inv
  exact ⟨a, xs, rfl, .inl (.inl (r.sub _ _ hF)), by rw [rx.len, hl], F, env, n, ds, Q, r, rx, q, k⟩
def vAsg (te : VTE) (g : VTG) : VTS := fun V env n => te env n fun d env1 n1 => g d env1 n1 V.nx
theorem asg_of {g : VTG} {σ : L2.St} {H : Hp} {D : Ends} (h : sOf c (vAsg te g) D σ H) : tAsg (tOf c te) (gOf c g) D σ H := by
  obtain ⟨F, env, n, V, r, q, k⟩ := h
  exact ⟨F, env, n, _, r, q, fun v H' F' d env' n' r' w rp qd => ⟨F', env', n', d, V.nx, r', rp, qd, fun σ2 H2 F2 env2 n2 r2 w2 q2 => k.nx F2 H2 σ2 env2 n2 r2 (w.trans w2) q2⟩⟩
theorem vs_asg {tg : Expr} {g : VTG} (he : PE X e (tOf c te)) (hg : PG X tg (gOf c g)) (hs : swapsWithSole [tg] e pos.line X.env = pure false := by rfl) (hw : swappedStores [tg] e X.env = pure none := by rfl)
    (h1 : (assignEach [tg] X.env).map (·.2) = [assign tg X.env] := by rfl) : PS X (.Assign [tg] e pos) (sOf c (vAsg te g)) := PS.imp (ps_asg he hg hs hw h1) fun D σ H => asg_of
/-- x = e -/
def vSet (i : Nat) (te : VTE) : VTS := fun V env n => te env n fun d env1 n1 => V.nx (env1.set i (.fz d)) n1
theorem set_of {i : Nat} {σ : L2.St} {H : Hp} {D : Ends} (h : sOf c (vSet i te) D σ H) : tAsg (tOf c te) (gName i) D σ H := by
  obtain ⟨F, env, n, V, r, q, k⟩ := h
  exact ⟨F, env, n, _, r, q, fun v H' F' d env' n' r' w rp qd => k.nx F' H' _ _ n' (r'.setF rp) w qd⟩
theorem vs_set {i : Nat} {x : Str} {pos' : Pos} (hN : X.N.Nodup) (hi : X.N[i]? = some x) (hx : Loc X.env.scope x) (he : PE X e (tOf c te)) (hs : swapsWith e (some (.Name x pos')) pos.line X.env = pure false := by rfl) (hf : X.fn x = true ∨ X.env.scope.names.lookup x = some .local := by first | exact .inl rfl | exact .inr rfl | assumption) :
    PS X (.Assign [.Name x pos'] e pos) (sOf c (vSet i te)) := PS.imp (ps_set hN hi hx he hs hf) fun D σ H => set_of
/-- x = a new thing -/
def vSetN (i : Nat) (tn : VTN) : VTS := fun V env n => tn env n fun k env1 n1 => V.nx (env1.set i (.ow k)) n1
theorem setN_of {i : Nat} {tn : VTN} {σ : L2.St} {H : Hp} {D : Ends} (h : sOf c (vSetN i tn) D σ H) : tAsg (nOf c tn) (gName i) D σ H := by
  obtain ⟨F, env, n, V, r, q, k⟩ := h
  exact ⟨F, env, n, _, r, q, fun a o H' F' kk env' n' r' w hF h0 ns hH ow ha qd => k.nx F' H' _ _ n' (r'.setO hF h0 ns hH ow ha) w qd⟩
theorem vs_setN {i : Nat} {tn : VTN} {x : Str} {pos' : Pos} (hN : X.N.Nodup) (hi : X.N[i]? = some x) (hx : Loc X.env.scope x) (he : PE X e (nOf c tn)) (hs : swapsWith e (some (.Name x pos')) pos.line X.env = pure false := by rfl) (hf : X.fn x = true ∨ X.env.scope.names.lookup x = some .local := by first | exact .inl rfl | exact .inr rfl | assumption) :
    PS X (.Assign [.Name x pos'] e pos) (sOf c (vSetN i tn)) := PS.imp (ps_set hN hi hx he hs hf) fun D σ H => setN_of
def vWhile (tc : VTT) (tb : VTS) : VTS := fun V env n => ∃ W : Nat → Ev → Nat → Prop, (∃ m, W m env n) ∧ ∀ m env n, W m env n →
  tc env n fun b env1 n1 => if b = true then tb { nx := fun e' n' => ∃ m', m' < m ∧ W m' e' n', ct := fun e' n' => ∃ m', m' < m ∧ W m' e' n', bk := V.nx, rt := V.rt } env1 n1 else V.nx env1 n1
theorem vs_while {tc : VTT} {tb : VTS} (hp : PassesOwn (model X.prog X.w) X.A X.env X.xe) (hc : PT X e (cOf c tc)) (hb : PSs X body (sOf c tb)) : PS X (.While e body [] pos) (sOf c (vWhile tc tb)) := PS.imp (ps_while hp hc hb) fun D σ H ⟨F, env, n, V, r, ⟨W, ⟨m0, w0⟩, turn⟩, k⟩ => by
  refine ⟨fun m σ H => ∃ F' env n, Rel c F' H σ env n ∧ Up F F' ∧ W m env n, ⟨m0, F, env, n, r, Up.refl F, w0⟩, ?_⟩
  rintro m σ1 H1 ⟨F1, env1, n1, r1, u1, w1⟩
  refine ⟨F1, env1, n1, _, r1, turn m env1 n1 w1, fun b H2 F2 env2 n2 r2 u2 q2 => ?_⟩
  cases b with
  | true => exact ⟨fun σ' H' => ∃ m', m' < m ∧ ∃ F' env n, Rel c F' H' σ' env n ∧ Up F F' ∧ W m' env n, fun σ' H' h => h, F2, env2, n2, _, r2, q2,
      ⟨fun F3 H3 σ3 env3 n3 r3 u3 q3 => let ⟨m', hm, w'⟩ := q3; ⟨m', hm, F3, env3, n3, r3, (u1.trans u2).trans u3, w'⟩, (k.up (u1.trans u2)).rt, (k.up (u1.trans u2)).nx, fun F3 H3 σ3 env3 n3 r3 u3 q3 => let ⟨m', hm, w'⟩ := q3; ⟨m', hm, F3, env3, n3, r3, (u1.trans u2).trans u3, w'⟩⟩⟩
  | false => exact k.nx F2 H2 σ1 env2 n2 r2 (u1.trans u2) q2
def vFor (wi : VTI) (g : VTG) (tb : VTS) : VTS := fun V env n => wi env n fun xs env1 n1 => ∃ P : Nat → Ev → Nat → Prop, P 0 env1 n1 ∧
  (∀ i x env n, xs[i]? = some x → P i env n → g x env n fun env2 n2 => tb { nx := P (i + 1), ct := P (i + 1), bk := V.nx, rt := V.rt } env2 n2) ∧ ∀ env n, P xs.length env n → V.nx env n
theorem vs_for {tg iter : Expr} {wi : VTI} {g : VTG} {tb : VTS} (hp : PassesOwn (model X.prog X.w) X.A X.env X.xe) (hc : X.calm = true) (hi : PI X tg iter (iOf c wi)) (hg : PG X tg (gOf c g)) (hb : PSs X body (sOf c tb))
    (hs : ∀ x, foldedSetIterable iter X.env x = pure x := by intro _; rfl) : PS X (.For tg iter body [] pos) (sOf c (vFor wi g tb)) := PS.imp (ps_for hp hc hi hg hb hs) fun D σ H ⟨F, env, n, V, r, q, k⟩ => by
  refine ⟨F, env, n, _, r, q, fun J H1 F1 xs env1 n1 r1 u1 wk q1 => ?_⟩
  obtain ⟨P, p0, turn, fin⟩ := q1
  refine ⟨fun i m σ H => m = xs.length - i ∧ i ≤ xs.length ∧ ∃ F' env n, Rel c F' H σ env n ∧ Up F1 F' ∧ P i env n, ⟨_, rfl, Nat.zero_le _, F1, env1, n1, r1, Up.refl F1, p0⟩, ?_⟩
  rintro i m σ2 H2 ⟨rfl, hi, F2, env2, n2, r2, u2, p2⟩
  obtain ⟨wg, ws⟩ := wk c rfl F2 H2 σ2 env2 n2 r2 u2 i
  by_cases hlt : i < xs.length
  · obtain ⟨go, yl⟩ := wg hlt
    refine .inr ⟨go, fun σ' H' => ∃ F' env n, Rel c F' H' σ' env n ∧ Up F1 F' ∧ P (i + 1) env n, fun σ' H' h => ⟨xs.length - (i + 1), by omega, rfl, hlt, h⟩, fun x H3 y => ?_⟩
    obtain ⟨F3, d, r3, u3, ed, rd⟩ := yl x H3 y
    refine ⟨F3, env2, n2, d, _, r3, rd, turn i d env2 n2 ed p2, fun σ4 H4 F4 env4 n4 r4 u4 q4 => ?_⟩
    have u14 := (u2.trans u3).trans u4
    exact ⟨F4, env4, n4, _, r4, q4, ⟨fun F5 H5 σ5 env5 n5 r5 u5 q5 => ⟨F5, env5, n5, r5, u14.trans u5, q5⟩, (k.up (u1.trans u14)).rt, (k.up (u1.trans u14)).nx, fun F5 H5 σ5 env5 n5 r5 u5 q5 => ⟨F5, env5, n5, r5, u14.trans u5, q5⟩⟩⟩
  · have e : i = xs.length := by omega
    subst e
    exact .inl ⟨ws (Nat.le_refl _), k.nx F2 H2 σ2 env2 n2 r2 (u1.trans u2) (fin env2 n2 p2)⟩
def viSeq (te : VTE) : VTI := fun env n Q => te env n fun d env1 n1 => ∃ ds, (d = .lst ds) ∧ Q ds env1 n1
def viTup (te : VTE) : VTI := fun env n Q => te env n fun d env1 n1 => ∃ ds, (d = .tup ds) ∧ Q ds env1 n1
theorem wk_list {K : PySem.W.Frag} {F : Hp} {a : Addr} {xs : List V} {ds : List Dt} (h : F a = some (.lst xs)) (rx : Rps F xs ds) : Wk c.am (Itl K a) F ds := fun c _ F1 H σ env n r u i => by
  have hH : SqL K H a xs := .inl (.inl (r.sub _ _ (u _ _ h)))
  refine ⟨fun hi => ?_, fun hi => ⟨xs, hH, by rw [rx.len]; exact hi⟩⟩
  obtain ⟨v, e1, e2⟩ := rx.get (List.getElem?_eq_getElem hi)
  refine ⟨⟨xs, v, hH, e1⟩, fun x H' y => ?_⟩
  obtain ⟨rfl, y⟩ := y
  have := y xs hH
  rw [e1] at this
  cases this
  exact ⟨F1, _, r, Up.refl F1, List.getElem?_eq_getElem hi, e2.up u⟩
theorem wk_tup {K : PySem.W.Frag} {F : Hp} {a : Addr} {xs : List V} {ds : List Dt} (h : F a = some (.tup xs)) (rx : Rps F xs ds) : Wk c.am (Itt K a) F ds := fun c _ F1 H σ env n r u i => by
  have hH : SqT K H a xs := .inl (.inl (r.sub _ _ (u _ _ h)))
  refine ⟨fun hi => ?_, fun hi => ⟨xs, hH, by rw [rx.len]; exact hi⟩⟩
  obtain ⟨v, e1, e2⟩ := rx.get (List.getElem?_eq_getElem hi)
  refine ⟨⟨xs, v, hH, e1⟩, fun x H' y => ?_⟩
  obtain ⟨rfl, y⟩ := y
  have := y xs hH
  rw [e1] at this
  cases this
  exact ⟨F1, _, r, Up.refl F1, List.getElem?_eq_getElem hi, e2.up u⟩
/-- lo, lo + 1, .., n of them -/
def rngD (lo : Int) (n : Nat) : List Dt := (List.range n).map fun i : Nat => Dt.int (lo + (i : Int))
theorem wk_range {F : Hp} {lo : Int} {n : Nat} : Wk c.am (Itr lo n) F (rngD lo n) := fun c _ F1 H σ env m r u i => by
  have hl : (rngD lo n).length = n := by simp [rngD]
  refine ⟨fun hi => ?_, fun hi => by rw [hl] at hi; exact hi⟩
  rw [hl] at hi
  refine ⟨hi, fun x H' y => ?_⟩
  obtain ⟨rfl, rfl⟩ := y
  exact ⟨F1,   .int (lo + (i : Int)), r, Up.refl F1, by simp [rngD, hi], .int _⟩
theorem vi_list {tg l : Expr} (hl : PE X l (tOf c te)) : PI X tg l (iOf c (viSeq te)) := PI.imp (pi_list hl) fun σ H R ⟨F, env, n, Q, r, q, k⟩ => ⟨F, env, n, _, r, q, fun v H' F' d env' n' r' w rp qd => by
  obtain ⟨ds, rfl, qd⟩ := qd
  obtain ⟨a, xs, rfl, hF, rx⟩ := rp.lst_inv
  exact ⟨a, rfl, ⟨xs, .inl (.inl (r'.sub _ _ hF))⟩, k _ H' F' ds env' n' r' w (wk_list hF rx) qd⟩⟩
theorem vi_tup {tg l : Expr} (hl : PE X l (tOf c te)) : PI X tg l (iOf c (viTup te)) := PI.imp (pi_tup hl) fun σ H R ⟨F, env, n, Q, r, q, k⟩ => ⟨F, env, n, _, r, q, fun v H' F' d env' n' r' w rp qd => by
  obtain ⟨ds, rfl, qd⟩ := qd
  obtain ⟨a, xs, rfl, hF, rx⟩ := rp.tup_inv
  exact ⟨a, rfl, ⟨xs, .inl (.inl (r'.sub _ _ hF))⟩, k _ H' F' ds env' n' r' w (wk_tup hF rx) qd⟩⟩
def viR1 (ta : VTA) : VTI := fun env n Q => ta env n fun ds env1 n1 => ∃ j : Int, ds = [.int j] ∧ (-1000000 ≤ j ∧ j ≤ 1000000) ∧ Q (rngD 0 j.toNat) env1 n1
theorem vi_range1 {tg : Expr} {p : Pos} (hg : Gl X "range") (hm : X.mg "range" = none) (ha : PA X [a] (bOf c tas)) (hs : starEach [a] X.env = [(false, eval a X.env)] := by rfl) : PI X tg (.Call (.Name "range" p) [a] [] pos) (iOf c (viR1 tas)) := PI.imp (pi_range1 hg hm ha hs) fun σ H R ⟨F, env, n, Q, r, q, k⟩ =>
  ⟨F, env, n, _, r, q, fun vs H' F' G ds env' n' r' w g rp qd => by
    obtain ⟨j, rfl, hj, qd⟩ := qd
    cases rp with
    | cons p ps =>
      cases ps
      rw [p.int_inv]
      exact ⟨j, rfl, by omega, by omega, k _ H' F' _ env' n' r' w wk_range qd⟩⟩
abbrev RCD := List Dt → (Dt → Prop) → Prop
abbrev RCN := List Dt → (Con → Prop) → Prop
abbrev RC := List V → Hp → VK → Prop
def LftC (r : RC) (r' : RCD) : Prop := ∀ (F H : Hp) vs ds (Q : Dt → Prop) (R : VK), Up F H → Rps F vs ds → r' ds Q → (∀ v d, Rp F v d → Q d → R v H) → r vs H R
def LftN (r : RC) (r' : RCN) : Prop := ∀ (F H : Hp) vs ds (Q : Con → Prop) (R : VK), Up F H → Rps F vs ds → r' ds Q → (∀ p o k, H p = none → OwOk F p o k → Q k → R (.ref p) (upd H p o)) → r vs H R
def LftT (r : RC) (r' : RCD) : Prop := ∀ (F H : Hp) vs ds (Q : Dt → Prop) (R : VK), Up F H → Rps F vs ds → r' ds Q → (∀ p xs zs, H p = none → Rps F xs zs → Q (.tup zs) → R (.ref p) (upd H p (.tup xs))) → r vs H R
def vCB (r' : RCD) (ta : VTA) : VTE := fun env n Q => ta env n fun ds env1 n1 => r' ds fun d => Q d env1 n1
def vCBR (r' : RCD) (ta : VTA) : VTE := fun env n Q => ta env n fun ds env1 n1 => r' ds fun d => flat d = true ∧ Q d env1 n1
def flatC : Con → Bool
  | .lst ds => flats ds
  | .dK kvs => flats (kvs.map (·.2))
  | .dT kvs => flats (kvs.map (·.2))
  | .set _ _ _ => true
  | .setT _ _ _ => true
def vCNR (r' : RCN) (ta : VTA) : VTN := fun env n Q => ta env n fun ds env1 n1 => r' ds fun d => flatC d = true ∧ Q d env1 n1
variable {r : RC} {r' : RCD} {rn : RCN}
theorem PrK.flat {κ : Type} {F F' : Hp} (u : ∀ a xs, F a = some (.tup xs) → F' a = some (.tup xs)) : ∀ {a : List (κ × V)} {b : List (κ × Dt)}, PrK F a b → flats (b.map (·.2)) = true → PrK F' a b
  | _, _, .nil, _ => .nil
  | _, q :: qs, .cons h t, e => by
    have e' : (VL.flat q.2 && flats (qs.map (·.2))) = true := by simpa [flats] using e
    rw [Bool.and_eq_true] at e'
    exact .cons ⟨h.1, h.2.flat u e'.1⟩ (PrK.flat u t e'.2)
theorem OwOk.flat {F F' : Hp} (u : ∀ a xs, F a = some (.tup xs) → F' a = some (.tup xs)) {a : Addr} {o : HO} : ∀ {k : Con}, OwOk F a o k → flatC k = true → OwOk F' a o k
  | .lst _, ⟨xs, e, r⟩, h => ⟨xs, e, r.flat u h⟩
  | .dK _, ⟨xs, e, r⟩, h => ⟨xs, e, PrK.flat u r h⟩
  | .dT _, ⟨xs, e, r⟩, h => ⟨xs, e, PrK.flat u r h⟩
  | .set _ _ _, e, _ => e
  | .setT _ _ _, ⟨L, e, h, r⟩, _ => ⟨L, e, h, fun p hp => u _ _ (r p hp)⟩
theorem cb_of (L : LftC r r') {σ : L2.St} {H : Hp} {R : VK} (h : tOf c (vCB r' tas) σ H R) : tCB r (aOf c tas) σ H R := by
  obtain ⟨F, env, n, Q, rr, q, k⟩ := h
  exact ⟨F, env, n, _, rr, q, fun vs H' F' ds env' n' r2 w rp qd => L F' H' vs ds _ R r2.sub rp qd fun v d rv qv => k v H' F' d env' n' r2 w rv qv⟩
theorem cbR_of (L : LftC r r') {σ : L2.St} {H : Hp} {R : VK} (h : tOf c (vCBR r' tas) σ H R) : tCB r (bOf c tas) σ H R := by
  obtain ⟨F, env, n, Q, rr, q, k⟩ := h
  exact ⟨F, env, n, _, rr, q, fun vs H' F' G ds env' n' r2 w g rp qd => L G H' vs ds _ R g.u2 rp qd fun v d rv qv => k v H' F' d env' n' r2 w (rv.flat g.tp qv.1) qv.2⟩
theorem cnR_of (L : LftN r rn) {σ : L2.St} {H : Hp} {R : VK} (h : nOf c (vCNR rn tas) σ H R) : tCB r (bOf c tas) σ H R := by
  obtain ⟨F, env, n, Q, rr, q, k⟩ := h
  exact ⟨F, env, n, _, rr, q, fun vs H' F' G ds env' n' r2 w g rp qd => L G H' vs ds _ R g.u2 rp qd fun p o kk np ow qv => nOf_new r2 w np (ow.flat g.tp qv.1) qv.2 k⟩
theorem ctR_of (L : LftT r r') {σ : L2.St} {H : Hp} {R : VK} (h : tOf c (vCBR r' tas) σ H R) : tCB r (bOf c tas) σ H R := by
  obtain ⟨F, env, n, Q, rr, q, k⟩ := h
  refine ⟨F, env, n, _, rr, q, fun vs H' F' G ds env' n' r2 w g rp qd => L G H' vs ds _ R g.u2 rp qd fun p xs zs np rz qv => ?_⟩
  obtain ⟨_, _, nf⟩ := r2.new0 np
  exact k _ _ (upd F' p (.tup xs)) _ env' n' (r2.layF np _) (w.trans (up_lay nf)) (.tup upd_same ((rz.flat g.tp (by have := qv.1; simpa [VL.flat] using this)).up (up_lay nf))) qv.2
end
end VL
namespace VL
open PySem PySem.Spec PyProof.Rows L2 HM
def dI0 (g : Int → Int → Dt) : R2D := fun x y Q => ∃ i j, x = .int i ∧ y = .int j ∧ Q (g i j)
def dI (C : Int → Int → Prop) (g : Int → Int → Dt) : R2D := fun x y Q => ∃ i j, x = .int i ∧ y = .int j ∧ C i j ∧ Q (g i j)
theorem lft_I0 {g : Int → Int → Int} : Lft2 (rI0 fun i j => .int (g i j)) (dI0 fun i j => .int (g i j)) := fun F H x y d1 d2 Q R u p1 p2 h k => by
  obtain ⟨i, j, rfl, rfl, h⟩ := h
  rw [p1.int_inv, p2.int_inv]
  exact ⟨i, j, rfl, rfl, k _ _ (.int _) h⟩
theorem lft_I {C : Int → Int → Prop} {g : Int → Int → Int} : Lft2 (rI C fun i j => .int (g i j)) (dI C fun i j => .int (g i j)) := fun F H x y d1 d2 Q R u p1 p2 h k => by
  obtain ⟨i, j, rfl, rfl, hc, h⟩ := h
  rw [p1.int_inv, p2.int_inv]
  exact ⟨i, j, rfl, rfl, hc, k _ _ (.int _) h⟩
theorem lft_B0 {g : Int → Int → Bool} : Lft2 (rI0 fun i j => .bl (g i j)) (dI0 fun i j => .bl (g i j)) := fun F H x y d1 d2 Q R u p1 p2 h k => by
  obtain ⟨i, j, rfl, rfl, h⟩ := h
  rw [p1.int_inv, p2.int_inv]
  exact ⟨i, j, rfl, rfl, k _ _ (.bl _) h⟩
/-- == of two whole numbers, of two truths -/
def dEq : R2D := fun x y Q => (∃ i j, x = .int i ∧ y = .int j ∧ Q (.bl (decide (i = j)))) ∨ (∃ i j, x = .bl i ∧ y = .bl j ∧ Q (.bl (decide (i = j))))
def dNe : R2D := fun x y Q => (∃ i j, x = .int i ∧ y = .int j ∧ Q (.bl (!decide (i = j)))) ∨ (∃ i j, x = .bl i ∧ y = .bl j ∧ Q (.bl (!decide (i = j))))
theorem dec_int (i j : Int) : decide (V.int i = V.int j) = decide (i = j) := by
  by_cases e : i = j
  · subst e; simp
  · rw [decide_eq_false e, decide_eq_false fun z => e (V.int.inj z)]
theorem dec_bl (i j : Bool) : decide (V.bl i = V.bl j) = decide (i = j) := by
  by_cases e : i = j
  · subst e; simp
  · rw [decide_eq_false e, decide_eq_false fun z => e (V.bl.inj z)]
theorem lft_eq : Lft2 rEq dEq := fun F H x y d1 d2 Q R u p1 p2 h k => by
  rcases h with ⟨i, j, rfl, rfl, h⟩ | ⟨i, j, rfl, rfl, h⟩
  · rw [p1.int_inv, p2.int_inv]
    exact ⟨rfl, by rw [dec_int]; exact k _ _ (.bl _) h⟩
  · rw [p1.bl_inv, p2.bl_inv]
    exact ⟨rfl, by rw [dec_bl]; exact k _ _ (.bl _) h⟩
theorem lft_ne : Lft2 rNe dNe := fun F H x y d1 d2 Q R u p1 p2 h k => by
  rcases h with ⟨i, j, rfl, rfl, h⟩ | ⟨i, j, rfl, rfl, h⟩
  · rw [p1.int_inv, p2.int_inv]
    exact ⟨rfl, by rw [dec_int]; exact k _ _ (.bl _) h⟩
  · rw [p1.bl_inv, p2.bl_inv]
    exact ⟨rfl, by rw [dec_bl]; exact k _ _ (.bl _) h⟩
mutual
def py : Dt → PyData
  | .bl b => .bool b
  | .int i => .int i
  | .str x => .str x
  | .lst ds => .list (pys ds)
  | .tup ds => .tuple (pys ds)
  | .tuP ds => .tuple (pys ds)
  | _ => .none
def pys : List Dt → List PyData
  | [] => []
  | d :: ds => py d :: pys ds
end
mutual
def isPy : Dt → Bool
  | .obj _ => false
  | .ty _ => false
  | .lst ds => isPys ds
  | .tup ds => isPys ds
  | .dic _ _ => false
  | .dik _ _ => false
  | .tuP ds => isPys ds
  | _ => true
def isPys : List Dt → Bool
  | [] => true
  | d :: ds => isPy d && isPys ds
end
mutual
theorem Rp.dp {K : PySem.W.Frag} {F H : Hp} (u : Up F H) : ∀ {v : V} {d : Dt}, Rp F v d → isPy d = true → Dp K H v (py d)
  | _, _, .non, _ => by rw [py]; exact .non; all_goals (intros; contradiction)
  | _, _, .bl b, _ => by rw [py]; exact .bl b
  | _, _, .int b, _ => by rw [py]; exact .int b
  | _, _, .str b, _ => by rw [py]; exact .str b
  | _, _, .ty b, h => by simp [isPy] at h
  | _, _, .obj b, h => by simp [isPy] at h
  | _, _, .dic _ _ _, h => by simp [isPy] at h
  | _, _, .dik _ _ _, h => by simp [isPy] at h
  | _, _, .tuP e t, h => by rw [py]; exact .tup (tf_up e u).sq (Rps.dps u t (by simpa [isPy] using h))
  | _, _, .lst e t, h => by rw [py]; exact .lst (.inl (.inl (u _ _ e))) (Rps.dps u t (by simpa [isPy] using h))
  | _, _, .tup e t, h => by rw [py]; exact .tup (.inl (.inl (u _ _ e))) (Rps.dps u t (by simpa [isPy] using h))
theorem Rps.dps {K : PySem.W.Frag} {F H : Hp} (u : Up F H) : ∀ {v : List V} {d : List Dt}, Rps F v d → isPys d = true → DpAll K H v (pys d)
  | _, _, .nil, _ => by rw [pys]; exact .nil
  | _, d :: ds, .cons e t, h => by
    have h' : (isPy d && isPys ds) = true := by simpa [isPys] using h
    rw [Bool.and_eq_true] at h'
    rw [pys]
    exact .cons (Rp.dp u e h'.1) (Rps.dps u t h'.2)
end
def dEqD : R2D := fun x y Q => isPy x = true ∧ isPy y = true ∧ SeqAt.shaped (py x) = true ∧ SeqAt.shaped (py y) = true ∧ Q (.bl (PyData.eqv (py x) (py y)))
def dNeD : R2D := fun x y Q => isPy x = true ∧ isPy y = true ∧ SeqAt.shaped (py x) = true ∧ SeqAt.shaped (py y) = true ∧ Q (.bl (!PyData.eqv (py x) (py y)))
theorem lft_eqD {K : PySem.W.Frag} : Lft2 (rEqD K) dEqD := fun F H x y d1 d2 Q R u p1 p2 ⟨h1, h2, h3, h4, h⟩ k => ⟨_, _, p1.dp u h1, p2.dp u h2, h3, h4, k _ _ (.bl _) h⟩
theorem lft_neD {K : PySem.W.Frag} : Lft2 (rNeD K) dNeD := fun F H x y d1 d2 Q R u p1 p2 ⟨h1, h2, h3, h4, h⟩ k => ⟨_, _, p1.dp u h1, p2.dp u h2, h3, h4, k _ _ (.bl _) h⟩
theorem atI_rps {F : Hp} {xs : List V} {ds : List Dt} {i : Int} {d : Dt} (r : Rps F xs ds) (h : atI ds i = some d) : ∃ v, atI xs i = some v ∧ Rp F v d := by
  unfold atI at h ⊢
  rw [r.len]
  cases e : ixN ds.length i with
  | none => rw [e] at h; cases h
  | some j =>
    rw [e] at h
    obtain ⟨v, h1, h2⟩ := r.get (show ds[j]? = some d from h)
    exact ⟨v, h1, h2⟩
def dIxL : R2D := fun x y Q => ∃ ds i d, x = .lst ds ∧ y = .int i ∧ atI ds i = some d ∧ Q d
def dIxT : R2D := fun x y Q => ∃ ds i d, x = .tup ds ∧ y = .int i ∧ atI ds i = some d ∧ Q d
theorem lft_ixL {K : PySem.W.Frag} : Lft2 (rIxL K) dIxL := fun F H x y d1 d2 Q R u p1 p2 ⟨ds, i, d, e1, e2, h, q⟩ k => by
  subst e1 e2
  obtain ⟨a, xs, rfl, hF, rx⟩ := p1.lst_inv
  obtain ⟨v, h1, h2⟩ := atI_rps rx h
  exact ⟨a, xs, i, v, rfl, p2.int_inv, .inl (.inl (u _ _ hF)), h1, k _ _ h2 q⟩
theorem lft_ixT {K : PySem.W.Frag} : Lft2 (rIxT K) dIxT := fun F H x y d1 d2 Q R u p1 p2 ⟨ds, i, d, e1, e2, h, q⟩ k => by
  subst e1 e2
  obtain ⟨a, xs, rfl, hF, rx⟩ := p1.tup_inv
  obtain ⟨v, h1, h2⟩ := atI_rps rx h
  exact ⟨a, xs, i, v, rfl, p2.int_inv, .inl (.inl (u _ _ hF)), h1, k _ _ h2 q⟩
def dLen : RCD := fun ds Q => ∃ zs, (ds = [.lst zs] ∨ ds = [.tup zs]) ∧ Q (.int zs.length)
theorem Rps.one {F : Hp} {vs : List V} {d : Dt} (h : Rps F vs [d]) : ∃ v, vs = [v] ∧ Rp F v d := by
  cases h with
  | cons p t => cases t; exact ⟨_, rfl, p⟩
theorem Rps.two {F : Hp} {vs : List V} {d e : Dt} (h : Rps F vs [d, e]) : ∃ v w, vs = [v, w] ∧ Rp F v d ∧ Rp F w e := by
  cases h with
  | cons p t =>
    obtain ⟨w, rfl, q⟩ := t.one
    exact ⟨_, _, rfl, p, q⟩
theorem lft_len {K : PySem.W.Frag} : LftC (fun xs H Q => ∃ p ys, xs = [.ref p] ∧ (SqL K H p ys ∨ SqT K H p ys) ∧ Q (.int ys.length) H) dLen := fun F H vs ds Q R u rp ⟨zs, h, q⟩ k => by
  rcases h with rfl | rfl
  · obtain ⟨v, rfl, p⟩ := rp.one
    obtain ⟨a, xs, rfl, hF, rx⟩ := p.lst_inv
    exact ⟨a, xs, rfl, .inl (.inl (.inl (u _ _ hF))), by rw [rx.len]; exact k _ _ (.int _) q⟩
  · obtain ⟨v, rfl, p⟩ := rp.one
    obtain ⟨a, xs, rfl, hF, rx⟩ := p.tup_inv
    exact ⟨a, xs, rfl, .inr (.inl (.inl (u _ _ hF))), by rw [rx.len]; exact k _ _ (.int _) q⟩
def dTupleOf : RCD := fun ds Q => ∃ zs, ds = [.lst zs] ∧ Q (.tup zs)
theorem lft_tupleOf {K : PySem.W.Frag} : LftT (fun xs H Q => ∃ p ys, xs = [.ref p] ∧ ((SqL K H p ys ∧ ∀ l, H l = none → Q (.ref l) (upd H l (.tup ys))) ∨ (SqT K H p ys ∧ Q (.ref p) H))) dTupleOf := fun F H vs ds Q R u rp ⟨zs, h, q⟩ k => by
  subst h
  obtain ⟨v, rfl, p⟩ := rp.one
  obtain ⟨a, xs, rfl, hF, rx⟩ := p.lst_inv
  exact ⟨a, xs, rfl, .inl ⟨.inl (.inl (u _ _ hF)), fun l hl => k l xs zs hl rx q⟩⟩
section
variable {c : Fc} {X : Cx} {a b e : Expr} {es : List Expr} {te ta tb : VTE} {tas : VTA} {pos p : Pos} {x : Str} {r : RC} {r' : RCD} {rn : RCN} {id T : String}
theorem ve_cb (hc : CallR X (.builtin id) r) (L : LftC r r') (hg : Gl X x) (hm : X.mg x = none) (hv : bootBuiltins x = some (.builtin id)) (ha : PA X (e :: es) (aOf c tas)) (hn : x ≠ "__name__" := by decide) (hdb : (x == ("__debug__" : Str)) = false := by decide)
    (he : starEach (e :: es) X.env = (false, eval e X.env) :: starEach es X.env := by rfl) (hpl : (backTo pos (starEach es X.env)).any (·.1) = false := by rfl) : PE X (.Call (.Name x p) (e :: es) [] pos) (tOf c (vCB r' tas)) := PE.imp (pe_callB hc hg hm hv ha hn hdb he hpl) fun _ _ _ => cb_of L
theorem ve_cbR (hc : CallR X (.builtin id) r) (L : LftC r r') (hg : Gl X x) (hm : X.mg x = none) (hv : bootBuiltins x = some (.builtin id)) (ha : PA X (e :: es) (bOf c tas)) (hn : x ≠ "__name__" := by decide) (hdb : (x == ("__debug__" : Str)) = false := by decide)
    (he : starEach (e :: es) X.env = (false, eval e X.env) :: starEach es X.env := by rfl) (hpl : (backTo pos (starEach es X.env)).any (·.1) = false := by rfl) : PE X (.Call (.Name x p) (e :: es) [] pos) (tOf c (vCBR r' tas)) := PE.imp (pe_callB hc hg hm hv ha hn hdb he hpl) fun _ _ _ => cbR_of L
theorem vn_tyR (hc : CallR X (.type T) r) (L : LftN r rn) (hg : Gl X x) (hm : X.mg x = none) (hv : bootBuiltins x = some (.type T)) (ha : PA X (e :: es) (bOf c tas)) (hn : x ≠ "__name__" := by decide) (hdb : (x == ("__debug__" : Str)) = false := by decide)
    (he : starEach (e :: es) X.env = (false, eval e X.env) :: starEach es X.env := by rfl) (hpl : (backTo pos (starEach es X.env)).any (·.1) = false := by rfl) : PE X (.Call (.Name x p) (e :: es) [] pos) (nOf c (vCNR rn tas)) := PE.imp (pe_callTy hc hg hm hv ha hn hdb he hpl) fun _ _ _ => cnR_of L
theorem ve_tyTR (hc : CallR X (.type T) r) (L : LftT r r') (hg : Gl X x) (hm : X.mg x = none) (hv : bootBuiltins x = some (.type T)) (ha : PA X (e :: es) (bOf c tas)) (hn : x ≠ "__name__" := by decide) (hdb : (x == ("__debug__" : Str)) = false := by decide)
    (he : starEach (e :: es) X.env = (false, eval e X.env) :: starEach es X.env := by rfl) (hpl : (backTo pos (starEach es X.env)).any (·.1) = false := by rfl) : PE X (.Call (.Name x p) (e :: es) [] pos) (tOf c (vCBR r' tas)) := PE.imp (pe_callTy hc hg hm hv ha hn hdb he hpl) fun _ _ _ => ctR_of L
theorem ve_tyC (hc : CallR X (.type T) r) (L : LftC r r') (hg : Gl X x) (hm : X.mg x = none) (hv : bootBuiltins x = some (.type T)) (ha : PA X (e :: es) (aOf c tas)) (hn : x ≠ "__name__" := by decide) (hdb : (x == ("__debug__" : Str)) = false := by decide)
    (he : starEach (e :: es) X.env = (false, eval e X.env) :: starEach es X.env := by rfl) (hpl : (backTo pos (starEach es X.env)).any (·.1) = false := by rfl) : PE X (.Call (.Name x p) (e :: es) [] pos) (tOf c (vCB r' tas)) := PE.imp (pe_callTy hc hg hm hv ha hn hdb he hpl) fun _ _ _ => cb_of L
theorem ve_ix {r : R2} {rd : R2D} (hr : IxR X r) (L : Lft2 r rd) (ha : PE X a (tOf c ta)) (hb : PE X b (tOf c tb)) (hs : PlainIx b) : PE X (.Subscript a b pos) (tOf c (vOp rd ta tb)) := PE.imp (pe_ix hr ha hb hs) fun _ _ _ => op_of L
/-- of a list of one's own -/
def vIxO (i : Nat) (tb : VTE) : VTE := fun env n Q => (∃ d0, rdS env i d0) ∧ tb env n fun y env' n' => ∃ ds k d, rdS env' i (.lst ds) ∧ y = .int k ∧ atI ds k = some d ∧ Q d env' n'
theorem Rel.rdL {F H : Hp} {σ : L2.St} {env : Ev} {n : Nat} {i : Nat} {ds : List Dt} (r : Rel c F H σ env n) (e : VL.rdS env i (.lst ds)) : ∃ a xs, σ[i]? = some (some (.ref a)) ∧ H a = some (.lst xs) ∧ Rps F xs ds := by
  rcases e with e | ⟨ds', e, h⟩
  · obtain ⟨v, e2, rp⟩ := r.sl i _ e
    obtain ⟨a, xs, rfl, hF, rx⟩ := rp.lst_inv
    exact ⟨a, xs, e2, r.sub _ _ hF, rx⟩
  · cases h
    exact r.rdOwn e
theorem ve_ixO {i : Nat} (ha : PE X a (tVar i)) (hb : PE X b (tOf c tb)) (hs : PlainIx b) : PE X (.Subscript a b pos) (tOf c (vIxO i tb)) := PE.imp (pe_ix ix_list ha hb hs) fun σ H R ⟨F, env, n, Q, r, ⟨⟨d0, e0⟩, q⟩, k⟩ => by
  obtain ⟨v0, _, ev, _⟩ := r.rdS r.gx e0
  refine ⟨v0, ev, F, env, n, _, r, q, fun y H2 F2 d2 env2 n2 r2 u2 p2 q2 => ?_⟩
  obtain ⟨ds, kk, d, ed, rfl, hat, q2⟩ := q2
  obtain ⟨a, xs, ea, hH, rx⟩ := r2.rdL ed
  rw [ev] at ea
  cases ea
  obtain ⟨v, h1, h2⟩ := atI_rps rx hat
  exact ⟨a, xs, kk, v, rfl, p2.int_inv, .inl (.inl hH), h1, k _ H2 F2 d env2 n2 r2 u2 h2 q2⟩
end
end VL
namespace VL
open PySem PySem.Spec PyProof.Rows L2 HM
/-- from F, H to F', H': nothing that stood is written, but what runs along -/
structure Out (am : Am) (F H F' H' : Hp) (n' : Nat) : Prop where
  u : Up F F'
  s : Up F' H'
  f : ∀ a, am.sp a → F' a = none
  o : ∀ a ob, H a = some ob → NT ob → F a = none → F' a = none
  k : ∀ a o, H a = some o → ¬ am.sp a → H' a = some o
  a : am.ok n' F' H'
abbrev VXK := Value → Option (List (Str × V)) → Nat → Prop
abbrev VSp := List Dt → Nat → (Dt → Nat → Prop) → VXK → Prop
/-- how an exception's own dict lies -/
def XOk (H H' F' : Hp) (od : Option Addr) (fs : Option (List (Str × V))) : Prop := (od = none ∧ fs = none) ∨ ∃ d l, od = some d ∧ fs = some l ∧ H d = none ∧ H' d = some (.xd l) ∧ F' d = none
def vsp (am : Am) (sp : VSp) : Sp := fun vs H Q E => ∃ F ds n Q' E', Up F H ∧ (∀ a, am.sp a → F a = none) ∧ am.ok n F H ∧ Rps F vs ds ∧ sp ds n Q' E' ∧ (∀ v F' H' d n', Out am F H F' H' n' → Rp F' v d → Q' d n' → Q v H') ∧
  ∀ cls od fs F' H' n', Out am F H F' H' n' → XOk H H' F' od fs → E' cls fs n' → E cls od H'
abbrev VFn (gd : Around → Prop) (P : Program) (w : World) (K : PySem.W.Frag) (mg : Str → Option Value) (base : Heap) (CX : CXT) (k : Nat) (f : Addr) (fd : FuncData) (ps : List Str) (am : Am) (sp : VSp) : Prop := PFn gd P w K mg base CX k f fd ps (vsp am sp)
def startE (N : List Str) (ds : List Dt) : Ev := ds.map Sl.fz ++ List.replicate (N.length - ds.length) Sl.no
theorem rel_start {am : Am} {F H : Hp} {N : List Str} {vs : List V} {ds : List Dt} {n : Nat} (u : Up F H) (hs : ∀ a, am.sp a → F a = none) (ha : am.ok n F H) (r : Rps F vs ds) : Rel ⟨am, F, H⟩ F H (L2.start N vs) (startE N ds) n := by
  have hl := r.len
  refine ⟨u, hs, ha, Up.refl F, fun _ _ _ _ e => e, fun _ _ e _ => e, by simp [L2.start, startE, hl], fun i s e => ?_, fun i j a k k' _ e1 _ _ => ?_⟩
  · unfold startE at e
    by_cases hi : i < ds.length
    · rw [List.getElem?_append_left (by simpa using hi), List.getElem?_map] at e
      obtain ⟨d, hd, rfl⟩ := Option.map_eq_some_iff.mp e
      obtain ⟨v, hv, rv⟩ := r.get hd
      refine ⟨v, ?_, rv⟩
      unfold L2.start
      rw [List.getElem?_append_left (by simp; omega), List.getElem?_map, hv]
      rfl
    · rw [List.getElem?_append_right (by simp; omega)] at e
      have := List.mem_of_getElem? e
      rw [List.mem_replicate] at this
      rw [this.2]
      trivial
  · unfold startE at e1
    by_cases hi : i < ds.length
    · rw [List.getElem?_append_left (by simpa using hi), List.getElem?_map] at e1
      obtain ⟨d, hd, z⟩ := Option.map_eq_some_iff.mp e1
      cases z
    · rw [List.getElem?_append_right (by simp; omega)] at e1
      have := List.mem_of_getElem? e1
      rw [List.mem_replicate] at this
      cases this.2
theorem Rel.out {am : Am} {F0 H0 F H : Hp} {σ : L2.St} {env : Ev} {n : Nat} (r : Rel ⟨am, F0, H0⟩ F H σ env n) : Out am F0 H0 F H n := ⟨r.up0, r.sub, r.spf, r.out0, r.keep0, r.amb⟩
section
variable {P : Program} {w : World} {K : PySem.W.Frag} {mg : Str → Option Value} {base : Heap} {am : Am} {gd : Around → Prop} {x qual : Str} {st : Stmt} {f : Addr} {fd : FuncData} {N ps : List Str} {k : Nat} {sp : VSp}
/-- a def that lets no exception out -/
theorem vfn_of (F : Fun K x qual st f fd) (S : FnScope N ps (defScope st)) (len : ∀ ds n Q E, sp ds n Q E → ds.length = ps.length)
    (body : ∃ ts : VTS, (∀ (cdv : Value) (A : Around) (out : List Env) (s : Shared) (H : Hp) (E : XK) (F0 H0 : Hp), fd.code = cdv → gd A → Room k (A.deeper (envOfC qual (defScope st) s.heap.objs.size f cdv)) → PSs (cxOf CX0 P w K mg base N qual (defScope st) f cdv A out s H E).nox (defBody st) (sOf ⟨am, F0, H0⟩ ts)) ∧
      ∀ ds n Q E, sp ds n Q E → ts { nx := fun _ n' => Q .non n', rt := Q } (startE N ds) n) : VFn gd P w K mg base CX0 (k + 1) f fd ps am sp := by
  obtain ⟨ts, hts, hsp⟩ := body
  refine pfn_of F S (fun vs H Q E h => ?_) (fun cdv A out s H vs Q E hcd hgd hr h => ?_)
  · obtain ⟨F0, ds, n, Q', E', _, _, _, r, h, _⟩ := h
    rw [r.len]
    exact len ds n Q' E' h
  · obtain ⟨F0, ds, n, Q', E', u, hs, ha, r, h, kq, ke⟩ := h
    refine ⟨_, hts cdv A out s H E F0 H hcd hgd hr, F0, startE N ds, n, _, rel_start u hs ha r, hsp ds n Q' E' h, ⟨fun F' H' σ' env' n' r' _ q => kq .non F' H' .non n' r'.out .non q, fun F' H' σ' env' n' v d r' _ rv q => kq v F' H' d n' r'.out rv q, fun _ _ _ _ _ _ _ z => z.elim, fun _ _ _ _ _ _ _ z => z.elim⟩⟩
variable {X : Cx} {c : Fc} {CX : CXT} {E : XK} {p pos : Pos} {e : Expr} {es : List Expr} {tas : VTA}
/-- f(..) -/
def vCall (sp : VSp) (ta : VTA) : VTE := fun env n Q => ta env n fun ds env1 n1 => sp ds n1 (fun d n2 => Q d env1 n2) fun _ _ _ => False
theorem call_of {σ : L2.St} {H : Hp} {R : VK} (h : tOf c (vCall sp tas) σ H R) : tCall (vsp c.am sp) [] E (aOf c tas) σ H R := by
  obtain ⟨F, env, n, Q, r, q, k⟩ := h
  refine ⟨F, env, n, _, r, q, fun vs H1 F1 ds env1 n1 r1 u1 p1 q1 => ?_⟩
  show vsp c.am sp (vs ++ []) H1 R E
  rw [List.append_nil]
  exact ⟨F1, ds, n1, _, _, r1.sub, r1.spf, r1.amb, p1, q1, fun v F' H' d n' o rv qv => k v H' F' d env1 n' (r1.call o.u o.s o.f o.o o.k o.a) (u1.trans o.u) rv qv, fun _ _ _ _ _ _ _ _ z => z.elim⟩
theorem ve_call (G : VFn gd X.prog X.w X.K X.mg X.base CX k f fd ps c.am sp) (hgd : gd X.A) (hr : Room k X.A) (hg : Gl X x) (hm : X.mg x = some (.ref f)) (hk : PySem.W.keepIn X.K (.ref f) = true) (hb : Binds X.K fd ps []) (hx : Passes CX X (fun _ _ _ => False)) (ha : PA X (e :: es) (aOf c tas)) (hdb : (x == ("__debug__" : Str)) = false := by decide)
    (he : starEach (e :: es) X.env = (false, eval e X.env) :: starEach es X.env := by rfl) (hpl : (backTo pos (starEach es X.env)).any (·.1) = false := by rfl) : PE X (.Call (.Name x p) (e :: es) [] pos) (tOf c (vCall sp tas)) := PE.imp (pe_callP G hgd hr hg hm hk hb hx ha hdb he hpl) fun _ _ _ => call_of
end
def Fc.wth (c : Fc) (D : Addr) (o : HO) : Fc := ⟨c.am, c.F0, upd c.H0 D o⟩
section
variable {c : Fc} {F H : Hp} {σ : L2.St} {env : Ev} {n : Nat} {D : Addr} {o : HO}
theorem Rel.push (r : Rel c F H σ env n) (hH : H D = some o) (hF : F D = none) (ns : ¬ c.am.sp D) (hn : ∀ (j : Nat) k', env[j]? = some (.ow k') → σ[j]? ≠ some (some (.ref D))) : Rel (c.wth D o) F H σ env n := by
  refine ⟨r.sub, r.spf, r.amb, r.up0, fun a oa h1 nt h2 => ?_, fun a ob e na => ?_, r.len, fun i s e => ?_, r.apart⟩
  · by_cases z : a = D
    · rw [z]; exact hF
    · exact r.out0 a oa (by have : upd c.H0 D o a = some oa := h1; rwa [upd_ne z] at this) nt h2
  · by_cases z : a = D
    · have e' : upd c.H0 D o a = some ob := e
      rw [z, upd_same] at e'
      cases e'
      rw [z]; exact hH
    · have e' : upd c.H0 D o a = some ob := e
      rw [upd_ne z] at e'
      exact r.keep0 a ob e' na
  · have q := r.sl i s e
    cases s with
    | no => trivial
    | fz d => exact q
    | ow k =>
      obtain ⟨a, ob, g1, g2, g3, g4, g5, g6⟩ := q
      exact ⟨a, ob, g1, g2, by show upd c.H0 D o a = none; rw [upd_ne fun z => hn i k e (by rw [g1, z])]; exact g3, g4, g5, g6⟩
theorem Rel.pop (nto : NT o) (r : Rel (c.wth D o) F H σ env n) (h0 : c.H0 D = none) (hF0 : c.F0 D = none) (ns : ¬ c.am.sp D) : Rel c F H σ env n ∧ H D = some o ∧ F D = none ∧ ∀ (j : Nat) k', env[j]? = some (.ow k') → σ[j]? ≠ some (some (.ref D)) := by
  refine ⟨⟨r.sub, r.spf, r.amb, r.up0, fun a oa h1 nt h2 => ?_, fun a ob e na => ?_, r.len, fun i s e => ?_, r.apart⟩, ?_, ?_, fun j k' e z => ?_⟩
  · refine r.out0 a oa ?_ nt h2
    show upd c.H0 D o a = some oa
    rw [upd_ne fun z => by rw [z, h0] at h1; cases h1]
    exact h1
  · refine r.keep0 a ob ?_ na
    show upd c.H0 D o a = some ob
    rw [upd_ne fun z => by rw [z, h0] at e; cases e]
    exact e
  · have q := r.sl i s e
    cases s with
    | no => trivial
    | fz d => exact q
    | ow k =>
      obtain ⟨a, ob, g1, g2, g3, g4, g5, g6⟩ := q
      refine ⟨a, ob, g1, g2, ?_, g4, g5, g6⟩
      have g3' : upd c.H0 D o a = none := g3
      by_cases z : a = D
      · rw [z]; exact h0
      · rw [upd_ne z] at g3'; exact g3'
  · exact r.keep0 D o (show upd c.H0 D o D = some o from upd_same) ns
  · exact r.out0 D o (show upd c.H0 D o D = some o from upd_same) nto hF0
  · obtain ⟨a, ob, g1, _, g3, _⟩ := r.sl j _ e
    rw [g1] at z
    cases z
    have g3' : upd c.H0 D o D = none := g3
    rw [upd_same] at g3'
    cases g3'
end
end VL
namespace VL
open PySem PySem.Spec PyProof.Rows L2 HM
def wipeE (env : Ev) : List Nat → Ev
  | [] => env
  | v :: vs => (wipeE env vs).set v .no
def restE (env1 env : Ev) : List Nat → Ev
  | [] => env
  | v :: vs => (restE env1 env vs).set v (env1.getD v .no)
theorem wipeE_length (env : Ev) : ∀ vs : List Nat, (wipeE env vs).length = env.length
  | [] => rfl
  | v :: vs => by unfold wipeE; rw [List.length_set, wipeE_length env vs]
theorem restE_length (env1 env : Ev) : ∀ vs : List Nat, (restE env1 env vs).length = env.length
  | [] => rfl
  | v :: vs => by unfold restE; rw [List.length_set, restE_length env1 env vs]
theorem wipeE_get {env : Ev} {i : Nat} {s : Sl} : ∀ {vs : List Nat}, (wipeE env vs)[i]? = some s → s = .no ∨ (env[i]? = some s ∧ i ∉ vs)
  | [], h => .inr ⟨h, by simp⟩
  | v :: vs, h => by
    unfold wipeE at h
    by_cases z : i = v
    · subst z
      have hl := (List.getElem?_eq_some_iff.mp h).1
      rw [List.length_set] at hl
      rw [List.getElem?_set_self hl] at h
      exact .inl (Option.some.inj h).symm
    · rw [List.getElem?_set_ne (Ne.symm z)] at h
      rcases wipeE_get h with h | ⟨h1, h2⟩
      · exact .inl h
      · exact .inr ⟨h1, by simp [z, h2]⟩
theorem restE_get {env1 env : Ev} {i : Nat} {s : Sl} : ∀ {vs : List Nat}, (restE env1 env vs)[i]? = some s → (s = env1.getD i .no ∧ i ∈ vs) ∨ (env[i]? = some s ∧ i ∉ vs)
  | [], h => .inr ⟨h, by simp⟩
  | v :: vs, h => by
    unfold restE at h
    by_cases z : i = v
    · subst z
      have hl := (List.getElem?_eq_some_iff.mp h).1
      rw [List.length_set] at hl
      rw [List.getElem?_set_self hl] at h
      exact .inl ⟨(Option.some.inj h).symm, by simp⟩
    · rw [List.getElem?_set_ne (Ne.symm z)] at h
      rcases restE_get h with ⟨h1, h2⟩ | ⟨h1, h2⟩
      · exact .inl ⟨h1, by simp [h2]⟩
      · exact .inr ⟨h1, by simp [z, h2]⟩
theorem wipe_get (σ : L2.St) (i : Nat) : ∀ vs : List Nat, (wipe σ vs)[i]? = if i ∈ vs ∧ i < σ.length then some none else σ[i]?
  | [] => by simp [wipe]
  | v :: vs => by
    unfold wipe
    by_cases z : i = v
    · subst z
      by_cases hl : i < σ.length
      · rw [List.getElem?_set_self (by rw [wipe_length]; exact hl), if_pos ⟨by simp, hl⟩]
      · rw [if_neg (fun h => hl h.2), List.getElem?_eq_none (by rw [List.length_set, wipe_length]; omega), List.getElem?_eq_none (by omega)]
    · rw [List.getElem?_set_ne (Ne.symm z), wipe_get σ i vs]
      simp [z]
theorem wipe_set {σ : L2.St} {i : Nat} {x : Option V} {vs : List Nat} (h : i ∈ vs) : wipe (σ.set i x) vs = wipe σ vs := by
  refine List.ext_getElem? fun j => ?_
  rw [wipe_get, wipe_get, List.length_set]
  by_cases z : j = i
  · subst z
    by_cases hl : j < σ.length
    · rw [if_pos ⟨h, hl⟩, if_pos ⟨h, hl⟩]
    · rw [if_neg (fun q => hl q.2), if_neg (fun q => hl q.2), List.getElem?_eq_none (by rw [List.length_set]; omega), List.getElem?_eq_none (by omega)]
  · rw [List.getElem?_set_ne (Ne.symm z)]
theorem Rel.wipe {c : Fc} {F H : Hp} {σ : L2.St} {env : Ev} {n : Nat} (r : Rel c F H σ env n) (vs : List Nat) : Rel c F H (L2.wipe σ vs) (wipeE env vs) n :=
  r.weak (by rw [wipe_length, wipeE_length, r.len]) fun i s e => by
    rcases wipeE_get e with h | ⟨h1, h2⟩
    · exact .inl h
    · exact .inr ⟨h1, wipe_out h2⟩
theorem Rel.wipe2 {c : Fc} {F H : Hp} {σ σ2 : L2.St} {env : Ev} {n : Nat} {vs : List Nat} (r : Rel c F H σ2 env n) (h : L2.wipe σ2 vs = L2.wipe σ vs) : Rel c F H (L2.wipe σ vs) (wipeE env vs) n := h ▸ r.wipe vs
theorem Rel.rest {c : Fc} {F1 H1 F H : Hp} {σ : L2.St} {env1 env : Ev} {n1 n : Nat} {vs : List Nat} (r1 : Rel c F1 H1 σ env1 n1) (u : Up F1 F) (no : ∀ i ∈ vs, ∀ k, env1[i]? ≠ some (.ow k)) (r : Rel c F H (L2.wipe σ vs) env n) : Rel c F H σ (restE env1 env vs) n := by
  have hl : σ.length = env.length := by rw [← r.len, wipe_length]
  refine ⟨r.sub, r.spf, r.amb, r.up0, r.out0, r.keep0, by rw [restE_length]; exact hl, fun i s e => ?_, fun i j a k k' hij e1 e2 e3 => ?_⟩
  · rcases restE_get e with ⟨rfl, h2⟩ | ⟨h1, h2⟩
    · cases e4 : env1[i]? with
      | none =>
        have : env1.getD i .no = .no := by rw [List.getD_eq_getElem?_getD, e4]; rfl
        rw [this]; trivial
      | some s =>
        have : env1.getD i .no = s := by rw [List.getD_eq_getElem?_getD, e4]; rfl
        rw [this]
        have q := r1.sl i s e4
        cases s with
        | no => trivial
        | fz d => exact let ⟨v, g1, g2⟩ := q; ⟨v, g1, g2.up u⟩
        | ow k => exact absurd e4 (no i h2 k)
    · have q := r.sl i s h1
      rw [wipe_out h2] at q
      exact q
  · have f : ∀ {i : Nat} {k : Con}, (restE env1 env vs)[i]? = some (.ow k) → i ∉ vs ∧ env[i]? = some (.ow k) := fun {i k} e => by
      rcases restE_get e with ⟨h1, h2⟩ | ⟨h1, h2⟩
      · cases e4 : env1[i]? with
        | none =>
          have : env1.getD i .no = .no := by rw [List.getD_eq_getElem?_getD, e4]; rfl
          rw [this] at h1; cases h1
        | some s =>
          have : env1.getD i .no = s := by rw [List.getD_eq_getElem?_getD, e4]; rfl
          rw [this] at h1
          rw [← h1] at e4
          exact absurd e4 (no i h2 k)
      · exact ⟨h2, h1⟩
    obtain ⟨n1, f1⟩ := f e1
    obtain ⟨n2, f2⟩ := f e2
    have q := r.apart i j a k k' hij f1 f2 (by rw [wipe_out n1]; exact e3)
    rw [wipe_out n2] at q
    exact q
/-- the target of a comprehension -/
def TgOk (g : TG) (gv : VTG) (vs : List Nat) : Prop := ∀ (c : Fc) F H σ env n v d (Q : Ev → Nat → Prop) (R : L2.St → Hp → Prop), Rel c F H σ env n → Rp F v d → gv d env n Q → (∀ σ' env' n', Rel c F H σ' env' n' → L2.wipe σ' vs = L2.wipe σ vs → Q env' n' → R σ' H) → g v σ H R
theorem tg_name {i : Nat} {vs : List Nat} (h : i ∈ vs) : TgOk (gName i) (vgName i) vs := fun c F H σ env n v d Q R r rp q k => k _ _ n (r.setF rp) (wipe_set h) q
theorem tg_two {K : PySem.W.Frag} {i j : Nat} {vs : List Nat} (hi : i ∈ vs) (hj : j ∈ vs) : TgOk (gTup K 2 (gCons (gName i) (gCons (gName j) gNil))) (vgTup 2 (vgCons (vgName i) (vgCons (vgName j) vgNil))) vs := fun c F H σ env n v d Q R r rp q k => by
  obtain ⟨ds, rfl, hl, d1, r1, rfl, d2, r2, rfl, rfl, q⟩ := q
  obtain ⟨a, xs, rfl, hF, rx⟩ := rp.tup_inv
  obtain ⟨v1, v2, rfl, p1, p2⟩ := rx.two
  exact ⟨a, _, rfl, .inl (.inl (r.sub _ _ hF)), rfl, _, _, rfl, _, _, rfl, rfl, k _ _ n ((r.setF p1).setF p2) (by rw [wipe_set hj, wipe_set hi]) q⟩
def vYes : VTT := fun env n Q => Q true env n
theorem vts_nil {c : Fc} {X : Cx} : PTs X [] (cOf c vYes) := ⟨fun pins s σ H Q I ⟨F, env, n, Q', r, q, k⟩ => (pts_nil (X := X)).run pins s σ H Q I (k true H F env n r (Up.refl F) q)⟩
theorem vts_one {c : Fc} {X : Cx} {e : Expr} {tt : VTT} (h : PT X e (cOf c tt)) : PTs X [e] (cOf c tt) := pts_one h
def LcBody (g : VTG) (tt : VTT) (te : VTE) (vs : List Nat) (xs : List Dt) (env1 : Ev) (n1 : Nat) (Q : Con → Ev → Nat → Prop) : Prop := (∀ i ∈ vs, ∀ k, env1[i]? ≠ some (.ow k)) ∧ xs.length ≤ 5000 ∧ ∃ P : Nat → List Dt → Ev → Nat → Prop, P 0 [] (wipeE env1 vs) n1 ∧
  (∀ i x acc env n, xs[i]? = some x → P i acc env n → g x env n fun env2 n2 => tt env2 n2 fun b env3 n3 => if b = true then te env3 n3 fun y env4 n4 => P (i + 1) (acc ++ [y]) (wipeE env4 vs) n4 else P (i + 1) acc (wipeE env3 vs) n3) ∧
  ∀ acc env n, acc.length ≤ xs.length → P xs.length acc env n → Q (.lst acc) (restE env1 env vs) n
def vLc (wi : VTI) (g : VTG) (tt : VTT) (te : VTE) (vs : List Nat) : VTN := fun env n Q => wi env n fun xs env1 n1 => LcBody g tt te vs xs env1 n1 Q
section
variable {am : Am} {F0 H0 : Hp} {X : Cx}
theorem lc_of {wi : VTI} {g : TG} {gv : VTG} {tt : VTT} {te : VTE} {vs : List Nat} {tt' : TT} {te' : TE} (hg : TgOk g gv vs) (ht : ∀ (F0 H0 : Hp) {σ H R}, cOf ⟨am, F0, H0⟩ tt σ H R → tt' σ H R) (he : ∀ (F0 H0 : Hp) {σ H R}, tOf ⟨am, F0, H0⟩ te σ H R → te' σ H R) {σ : L2.St} {H : Hp} {R : VK} (h : nOf ⟨am, F0, H0⟩ (vLc wi gv tt te vs) σ H R) :
    tLc (iOf ⟨am, F0, H0⟩ wi) g tt' te' vs σ H R := by
  obtain ⟨F, env, n, Q, r, q, k⟩ := h
  refine ⟨F, env, n, _, r, q, fun J H1 F1 xs env1 n1 r1 u1 wk q1 => ?_⟩
  obtain ⟨no, hlen, P, p0, turn, fin⟩ := q1
  intro D nD
  obtain ⟨h0, ns, nf⟩ := r1.new0 nD
  have hF0 : F0 D = none := by
    cases e : F0 D with
    | none => rfl
    | some o => rw [r1.up0 D o e] at nf; cases nf
  -- at each turn: what is made so far stands at D, apart
  refine ⟨fun i m H => m = xs.length - i ∧ i ≤ xs.length ∧ ∃ F' av acc env n, Rel (Fc.wth ⟨am, F0, H0⟩ D (.lst av)) F' H (L2.wipe σ vs) env n ∧ Up F1 F' ∧ Rps F' av acc ∧ acc.length ≤ i ∧ P i acc env n, ⟨_, rfl, Nat.zero_le _, F1, [], [], _, n1, (((r1.wipe vs).lay nD _).push upd_same nf ns fun j k' e z => ?_), Up.refl F1, .nil, Nat.zero_le _, p0⟩, ?_⟩
  · obtain ⟨a, o, g1, _, _, _, g5, _⟩ := (r1.wipe vs).sl j _ e
    rw [g1] at z
    cases z
    rw [g5] at nD
    cases nD
  · rintro i m H2 ⟨rfl, hi, F2, av, acc, env2, n2, r2, u2, ra, hal, p2⟩
    obtain ⟨wg, ws⟩ := wk (Fc.wth ⟨am, F0, H0⟩ D (.lst av)) rfl F2 H2 _ env2 n2 r2 u2 i
    by_cases hlt : i < xs.length
    · obtain ⟨go, yl⟩ := wg hlt
      refine .inr ⟨go, fun H' => ∃ F' av acc env n, Rel (Fc.wth ⟨am, F0, H0⟩ D (.lst av)) F' H' (L2.wipe σ vs) env n ∧ Up F1 F' ∧ Rps F' av acc ∧ acc.length ≤ i + 1 ∧ P (i + 1) acc env n, fun H' hN => ⟨xs.length - (i + 1), by omega, rfl, hlt, hN⟩, fun x H3 y => ?_⟩
      obtain ⟨F3, d, r3, u3, ed, rd⟩ := yl x H3 y
      refine hg _ F3 H3 _ env2 n2 x d _ _ r3 rd (turn i d acc env2 n2 ed p2) fun σ4 env4 n4 r4 hw q4 => ?_
      have hw' : L2.wipe σ4 vs = L2.wipe σ vs := hw.trans (List.ext_getElem? fun j => by
        rw [wipe_get, wipe_get, wipe_length]
        by_cases h : j ∈ vs ∧ j < σ.length
        · rw [if_pos h, if_pos h]
        · rw [if_neg h, if_neg h])
      refine ⟨hw', ht F0 (upd H0 D (.lst av)) ⟨F3, env4, n4, _, r4, q4, fun b H5 F5 env5 n5 r5 u5 q5 => ?_⟩⟩
      cases b with
      | true =>
        refine he F0 (upd H0 D (.lst av)) ⟨F5, env5, n5, _, r5, q5, fun v H6 F6 d6 env6 n6 r6 u6 rv q6 => ?_⟩
        obtain ⟨r7, eD, fD, nD7⟩ := Rel.pop (c := ⟨am, F0, H0⟩) (fun _ z => by cases z) r6 h0 hF0 ns
        have ulen : av.length = acc.length := ra.len
        refine ⟨av, eD, small1000 (by rw [ulen]; omega), F6, av ++ [v], acc ++ [d6], _, n6, ?_, ((u2.trans u3).trans u5).trans u6, (((ra.up u3).up u5).up u6).append (.cons rv .nil), by rw [List.length_append]; exact Nat.succ_le_succ hal, q6⟩
        have r8 : Rel ⟨am, F0, H0⟩ F6 (upd H6 D (.lst (av ++ [v]))) σ4 env6 n6 := by
          refine ⟨fun b o e => ?_, r7.spf, r7.amb' (fun b hb => upd_ne fun z => ns (z ▸ hb)) (codeK_upd fun oc x z => by rw [eD] at z; cases z), r7.up0, r7.out0, fun b o e nb => ?_, r7.len, fun j s e => ?_, r7.apart⟩
          · rw [upd_ne fun z => by rw [z, fD] at e; cases e]; exact r7.sub b o e
          · rw [upd_ne fun z => by
              have e' : H0 b = some o := e
              have h0' : H0 D = none := h0
              rw [z, h0'] at e'; cases e']
            exact r7.keep0 b o e nb
          · have q := r7.sl j s e
            cases s with
            | no => trivial
            | fz d => exact q
            | ow kk =>
              obtain ⟨a, o, g1, g2, g3, g4, g5, g6⟩ := q
              exact ⟨a, o, g1, g2, g3, g4, by rw [upd_ne fun z => nD7 j kk e (by rw [g1, z])]; exact g5, g6⟩
        exact (r8.push upd_same fD ns nD7).wipe2 hw'
      | false =>
        exact ⟨F5, av, acc, _, n5, r5.wipe2 hw', (u2.trans u3).trans u5, (ra.up u3).up u5, Nat.le_succ_of_le hal, q5⟩
    · have e : i = xs.length := by omega
      subst e
      refine .inl ⟨ws (Nat.le_refl _), ?_⟩
      obtain ⟨r7, eD, fD, nD7⟩ := Rel.pop (c := ⟨am, F0, H0⟩) (fun _ z => by cases z) r2 h0 hF0 ns
      refine k D (.lst av) H2 F2 (.lst acc) _ n2 (r1.rest u2 no r7) (u1.trans u2) fD h0 ns eD ⟨av, rfl, ra⟩ (fun j k' e z => ?_) (fin acc env2 n2 hal p2)
      have rr := r1.rest u2 no r7
      rcases restE_get e with ⟨h1, h2⟩ | ⟨h1, h2⟩
      · cases e4 : env1[j]? with
        | none =>
          have : env1.getD j .no = .no := by rw [List.getD_eq_getElem?_getD, e4]; rfl
          rw [this] at h1; cases h1
        | some s =>
          have : env1.getD j .no = s := by rw [List.getD_eq_getElem?_getD, e4]; rfl
          rw [this] at h1
          rw [← h1] at e4
          exact absurd e4 (no j h2 k')
      · exact nD7 j k' h1 (by rw [wipe_out h2]; exact z)
theorem vn_lc {elt tg iter : Expr} {ifs : List Expr} {scope : Scope} {own : List (Str × Nat)} {pos : Pos} {wi : VTI} {g : TG} {gv : VTG} {tt : VTT} {te : VTE} (hc : X.calm = true) (hN : X.N.Nodup) (hi : PI X tg iter (iOf ⟨am, F0, H0⟩ wi)) (ok : BlkOk X.N X.env.scope scope own) (hgk : TgOk g gv (own.map (·.2)))
    (hg : ∀ (s : Shared) (H : Hp) (C : Addr) (cl : List (Str × Addr)) (fp : List Addr), PG (X.blk s H scope (compEnvC scope cl C X.env) fp) tg g)
    (ht : ∀ (F0 H0 : Hp) (s : Shared) (H : Hp) (C : Addr) (cl : List (Str × Addr)) (fp : List Addr), PTs (X.blk s H scope (compEnvC scope cl C X.env) fp) ifs (cOf ⟨am, F0, H0⟩ tt))
    (he : ∀ (F0 H0 : Hp) (s : Shared) (H : Hp) (C : Addr) (cl : List (Str × Addr)) (fp : List Addr), PE (X.blk s H scope (compEnvC scope cl C X.env) fp) elt (tOf ⟨am, F0, H0⟩ te)) (hs : ∀ x, foldedSetIterable iter X.env x = pure x := by intro _; rfl) :
    PE X (.ListComp elt [⟨tg, iter, ifs, 0⟩] scope pos) (nOf ⟨am, F0, H0⟩ (vLc wi gv tt te (own.map (·.2)))) :=
  PE.imp (pe_lc (tt := fun σ H R => ∃ F0 H0, cOf ⟨am, F0, H0⟩ tt σ H R) (te := fun σ H R => ∃ F0 H0, tOf ⟨am, F0, H0⟩ te σ H R) hc hN hi ok hg
    (fun s H C cl fp => ⟨fun pins s' σ H' Q I ⟨F0, H0, q⟩ => (ht F0 H0 s H C cl fp).run pins s' σ H' Q I q⟩) (fun s H C cl fp => ⟨fun pins s' σ H' Q I ⟨F0, H0, q⟩ => (he F0 H0 s H C cl fp).run pins s' σ H' Q I q⟩) hs)
    fun σ H R h => lc_of hgk (fun F0 H0 _ _ _ q => ⟨F0, H0, q⟩) (fun F0 H0 _ _ _ q => ⟨F0, H0, q⟩) h
theorem vs_setLc {i : Nat} {y : Str} {py : Pos} {elt tg iter : Expr} {ifs : List Expr} {scope : Scope} {own : List (Str × Nat)} {pos spos : Pos} {wi : VTI} {g : TG} {gv : VTG} {tt : VTT} {te : VTE} (hc : X.calm = true) (hN : X.N.Nodup) (hy : X.N[i]? = some y) (hyl : X.env.scope.names.lookup y = some .local)
    (hsw : swapsWith (.ListComp elt [⟨tg, iter, ifs, 0⟩] scope pos) (some (.Name y py)) spos.line X.env = pure true) (hi : PI X tg iter (iOf ⟨am, F0, H0⟩ wi)) (ok : BlkOk X.N X.env.scope scope own) (hgk : TgOk g gv (own.map (·.2)))
    (hg : ∀ (s : Shared) (H : Hp) (C : Addr) (cl : List (Str × Addr)) (fp : List Addr), PG (X.blk s H scope (compEnvC scope cl C X.env) fp) tg g)
    (ht : ∀ (F0 H0 : Hp) (s : Shared) (H : Hp) (C : Addr) (cl : List (Str × Addr)) (fp : List Addr), PTs (X.blk s H scope (compEnvC scope cl C X.env) fp) ifs (cOf ⟨am, F0, H0⟩ tt))
    (he : ∀ (F0 H0 : Hp) (s : Shared) (H : Hp) (C : Addr) (cl : List (Str × Addr)) (fp : List Addr), PE (X.blk s H scope (compEnvC scope cl C X.env) fp) elt (tOf ⟨am, F0, H0⟩ te)) (hs : ∀ x, foldedSetIterable iter X.env x = pure x := by intro _; rfl) :
    PS X (.Assign [.Name y py] (.ListComp elt [⟨tg, iter, ifs, 0⟩] scope pos) spos) (sOf ⟨am, F0, H0⟩ (vSetN i (vLc wi gv tt te (own.map (·.2))))) :=
  PS.imp (ps_setLc (tt := fun σ H R => ∃ F0 H0, cOf ⟨am, F0, H0⟩ tt σ H R) (te := fun σ H R => ∃ F0 H0, tOf ⟨am, F0, H0⟩ te σ H R) hc hN hy hyl hsw hi ok hg
    (fun s H C cl fp => ⟨fun pins s' σ H' Q I ⟨F0, H0, q⟩ => (ht F0 H0 s H C cl fp).run pins s' σ H' Q I q⟩) (fun s H C cl fp => ⟨fun pins s' σ H' Q I ⟨F0, H0, q⟩ => (he F0 H0 s H C cl fp).run pins s' σ H' Q I q⟩) hs)
    fun D σ H h => by
      have h2 := setN_of h
      exact lc_of hgk (fun F0 H0 _ _ _ q => ⟨F0, H0, q⟩) (fun F0 H0 _ _ _ q => ⟨F0, H0, q⟩) h2
end
end VL
namespace VL
open PySem PySem.Spec PyProof.Rows L2 HM
abbrev RM := V → List V → Hp → VK → Prop
abbrev RMD := List Dt → List Dt → (Dt → List Dt → Prop) → Prop
def LftM (r : RM) (m : RMD) : Prop := ∀ (F H : Hp) (a : Addr) xs ds vs as (Q : Dt → List Dt → Prop) (R : VK), Up F H → F a = none → H a = some (.lst xs) → Rps F xs ds → Rps F vs as → m ds as Q → (∀ v d xs' ds', Rp F v d → Rps F xs' ds' → Q d ds' → R v (upd H a (.lst xs'))) → r (.ref a) vs H R
def vM (i : Nat) (m : RMD) (ta : VTA) : VTE := fun env n Q => (∃ ds0, env[i]? = some (.ow (.lst ds0))) ∧ ta env n fun as env1 n1 => ∃ ds, env1[i]? = some (.ow (.lst ds)) ∧ m ds as fun d ds' => Q d (env1.set i (.ow (.lst ds'))) n1
section
variable {c : Fc} {X : Cx} {a b e o : Expr} {es : List Expr} {te ta tb : VTE} {tas : VTA} {pos apos : Pos} {r : RM} {m : RMD} {name : Str} {id : String}
theorem m_of {i : Nat} (L : LftM r m) {σ : L2.St} {H : Hp} {R : VK} {K : PySem.W.Frag} (h : tOf c (vM i m tas) σ H R) : tBM K "list" r (tVar i) (aOf c tas) σ H R := by
  obtain ⟨F, env, n, Q, rr, ⟨⟨ds0, e0⟩, q⟩, k⟩ := h
  obtain ⟨a, xs, ea, hH, _⟩ := rr.rdOwn e0
  refine ⟨_, ea, .inl ⟨rfl, xs, .inl (.inl hH)⟩, F, env, n, _, rr, q, fun vs H' F' as env' n' r' u rp q' => ?_⟩
  obtain ⟨ds, ed, q'⟩ := q'
  obtain ⟨a', o', g1, g2, g3, g4, g5, xs', rfl, rx⟩ := r'.sl i _ ed
  rw [ea] at g1
  cases g1
  exact L F' H' a xs' ds vs as _ R r'.sub g2 g5 rx rp q' fun v d ys zs rv ry qv => k v _ F' d _ n' (r'.write (k' := .lst zs) ed ea ⟨ys, rfl, ry⟩) u rv qv
theorem m0_of {i : Nat} (L : LftM r m) {σ : L2.St} {H : Hp} {R : VK} {K : PySem.W.Frag} (h : tOf c (vM i m vNil) σ H R) : tBM0 K "list" r (tVar i) σ H R := by
  obtain ⟨F, env, n, Q, rr, ⟨⟨ds0, e0⟩, q⟩, k⟩ := h
  obtain ⟨a, xs, ea, hH, _⟩ := rr.rdOwn e0
  refine ⟨_, ea, .inl ⟨rfl, xs, .inl (.inl hH)⟩, ?_⟩
  obtain ⟨ds, ed, q'⟩ := q
  obtain ⟨a', o', g1, g2, g3, g4, g5, xs', rfl, rx⟩ := rr.sl i _ ed
  rw [ea] at g1
  cases g1
  exact L F H a xs' ds [] [] _ R rr.sub g2 g5 rx .nil q' fun v d ys zs rv ry qv => k v _ F d _ n (rr.write (k' := .lst zs) ed ea ⟨ys, rfl, ry⟩) (Up.refl F) rv qv
def mAppend : RMD := fun ds as Q => ∃ y, as = [y] ∧ ds.length ≤ 5000 ∧ Q .non (ds ++ [y])
theorem lft_append : LftM rAppend mAppend := fun F H a xs ds vs as Q R u hF hH rx ra ⟨y, e, hl, q⟩ k => by
  subst e
  obtain ⟨v, rfl, p⟩ := ra.one
  exact ⟨a, xs, v, rfl, rfl, hH, small1000 (by rw [rx.len]; exact hl), k _ _ _ _ .non (rx.append (.cons p .nil)) q⟩
def mPop : RMD := fun ds as Q => ∃ y, as = [] ∧ ds[ds.length - 1]? = some y ∧ Q y ds.dropLast
theorem lft_pop : LftM rPop mPop := fun F H a xs ds vs as Q R u hF hH rx ra ⟨y, e, hl, q⟩ k => by
  subst e
  cases ra
  obtain ⟨v, h1, h2⟩ := rx.get hl
  exact ⟨a, xs, v, rfl, rfl, hH, by rw [rx.len]; exact h1, k _ _ _ _ h2 rx.dropLast q⟩
def mExtend : RMD := fun ds as Q => ∃ zs, as = [.lst zs] ∧ ds.length + zs.length ≤ 5000 ∧ Q .non (ds ++ zs)
theorem lft_extend : LftM rExtend mExtend := fun F H a xs ds vs as Q R u hF hH rx ra ⟨zs, e, hl, q⟩ k => by
  subst e
  obtain ⟨v, rfl, p⟩ := ra.one
  obtain ⟨b, ys, rfl, hb, ry⟩ := p.lst_inv
  exact ⟨a, b, xs, ys, rfl, rfl, hH, u _ _ hb, small1k (by rw [rx.len, ry.len]; exact hl), k _ _ _ _ .non (rx.append ry) q⟩
/-- x[i] = e -/
def vSetIx (j : Nat) (ti te : VTE) : VTS := fun V env n => te env n fun d env1 n1 => (∃ ds0, env1[j]? = some (.ow (.lst ds0))) ∧ ti env1 n1 fun y env2 n2 => ∃ (ds : List Dt) (k : Nat), env2[j]? = some (.ow (.lst ds)) ∧ y = .int (k : Int) ∧ k < ds.length ∧ V.nx (env2.set j (.ow (.lst (ds.set k d)))) n2
theorem ixN_nat {m k : Nat} (h : k < m) : ixN m (k : Int) = some k := by unfold ixN; rw [if_pos (by omega), if_pos (by omega)]; simp
theorem vs_setIx {j : Nat} {i v : Expr} {ti tv : VTE} {p2 : Pos} (ho : PE X o (tVar j)) (hi : PE X i (tOf c ti)) (hv : PE X v (tOf c tv)) (ha : ∀ v, assign (.Subscript o i p2) X.env v = (do
      let ov ← holding [v] (eval o X.env)
      let iv ← holding [v, ov] (eval i X.env)
      standAt p2
      holding [v, ov, iv] (setItem ov iv v)
      release [v, ov, iv] []) := by intro _; rfl) (hs : swapsWithSole [.Subscript o i p2] v pos.line X.env = pure false := by rfl) (hw : swappedStores [.Subscript o i p2] v X.env = pure none := by rfl)
    (h1 : (assignEach [.Subscript o i p2] X.env).map (·.2) = [assign (.Subscript o i p2) X.env] := by rfl) : PS X (.Assign [.Subscript o i p2] v pos) (sOf c (vSetIx j ti tv)) := PS.imp (ps_asg hv (pg_sub ho hi set_list ha) hs hw h1) fun D σ H ⟨F, env, n, V, rr, q, k⟩ => by
  refine ⟨F, env, n, _, rr, q, fun v H1 F1 d env1 n1 r1 u1 rv q1 => ?_⟩
  obtain ⟨⟨ds0, e0⟩, q1⟩ := q1
  obtain ⟨a, xs, ea, hH, _⟩ := r1.rdOwn e0
  refine ⟨_, ea, F1, env1, n1, _, r1, q1, fun y H2 F2 d2 env2 n2 r2 u2 p2 q2 => ?_⟩
  obtain ⟨ds, kk, ed, rfl, hk, q2⟩ := q2
  obtain ⟨a', o', g1, g2, g3, g4, g5, xs', rfl, rx⟩ := r2.sl j _ ed
  rw [ea] at g1
  cases g1
  exact ⟨a, xs', _, kk, rfl, p2.int_inv, g5, ixN_nat (by rw [rx.len]; exact hk), k.nx F2 _ σ _ n2 (r2.write (k' := .lst (ds.set kk d)) ed ea ⟨_, rfl, rx.set (rv.up u2) kk⟩) (u1.trans u2) q2⟩
/-- an operator that makes a new list -/
def LftO (r : R2) (r' : Dt → Dt → (List Dt → Prop) → Prop) : Prop := ∀ (F H : Hp) x y d1 d2 (Q : List Dt → Prop) (R : VK), Up F H → Rp F x d1 → Rp F y d2 → r' d1 d2 Q → (∀ p xs zs, H p = none → Rps F xs zs → Q zs → R (.ref p) (upd H p (.lst xs))) → r x y H R
def vOpNew (r' : Dt → Dt → (List Dt → Prop) → Prop) (ta tb : VTE) : VTN := fun env n Q => v2 ta tb (fun x y env' n' => r' x y fun ds => Q (.lst ds) env' n') env n
theorem vn_op {op : Operator} {r : R2} {r' : Dt → Dt → (List Dt → Prop) → Prop} (ho : OpR X (binaryOp op) r) (L : LftO r r') (ha : PE X a (tOf c ta)) (hb : PE X b (tOf c tb)) : PE X (.BinOp a op b pos) (nOf c (vOpNew r' ta tb)) := PE.imp (pe_op ho ha hb) fun σ H R ⟨F, env, n, Q, rr, h, k⟩ =>
  t2_of rr h fun x y d1 d2 H' F' env' n' r2 u p1 p2 q => L F' H' x y d1 d2 _ R r2.sub p1 p2 q fun p xs zs np rx qz => nOf_new r2 u np (kk := .lst zs) ⟨xs, rfl, rx⟩ qz k
def dCat : Dt → Dt → (List Dt → Prop) → Prop := fun x y Q => ∃ a b, x = .lst a ∧ y = .lst b ∧ a.length + b.length ≤ 5000 ∧ Q (a ++ b)
theorem lft_cat : LftO rCat dCat := fun F H x y d1 d2 Q R u p1 p2 ⟨a, b, e1, e2, hl, q⟩ k => by
  subst e1 e2
  obtain ⟨l, xs, rfl, h1, r1⟩ := p1.lst_inv
  obtain ⟨l2, ys, rfl, h2, r2⟩ := p2.lst_inv
  exact ⟨l, l2, xs, ys, rfl, rfl, u _ _ h1, u _ _ h2, small1k (by rw [r1.len, r2.len]; exact hl), fun p np => k p _ _ np (r1.append r2) q⟩
theorem rgV_ints (a b : Int) : rgV a b = ((List.range (b - a).toNat).map fun i : Nat => a + (i : Int)).map V.int := by
  unfold rgV
  rw [List.map_map]
  rfl
theorem rps_rg {F : Hp} (a b : Int) : Rps F (rgV a b) (rngD a (b - a).toNat) := by
  rw [rgV_ints]
  have : rngD a (b - a).toNat = ((List.range (b - a).toNat).map fun i : Nat => a + (i : Int)).map Dt.int := by unfold rngD; rw [List.map_map]; rfl
  rw [this]
  exact Rps.ints _
abbrev VRG := Ev → Nat → (Int → Int → Ev → Nat → Prop) → Prop
def rgOf (c : Fc) (tr : VRG) : L2.St → Hp → (Int → Int → Hp → Prop) → Prop := fun σ H R => ∃ F env n Q, Rel c F H σ env n ∧ tr env n Q ∧ ∀ i j H' F' env' n', Rel c F' H' σ env' n' → Up F F' → Q i j env' n' → R i j H'
theorem PRg.imp {X : Cx} {e : Expr} {t t' : L2.St → Hp → (Int → Int → Hp → Prop) → Prop} (h : PRg X e t) (k : ∀ σ H R, t' σ H R → t σ H R) : PRg X e t' := fun pins s σ H Q I q => h pins s σ H Q I (k _ _ _ q)
def vRg1 (ta : VTE) : VRG := fun env n Q => ta env n fun d env1 n1 => ∃ j, d = .int j ∧ Q 0 j env1 n1
theorem vrg_1 {p pos : Pos} (hg : Gl X "range") (hm : X.mg "range" = none) (ha : PE X a (tOf c ta)) (na : starEach [a] X.env = (false, eval a X.env) :: starEach [] X.env := by rfl) : PRg X (.Call (.Name "range" p) [a] [] pos) (rgOf c (vRg1 ta)) := PRg.imp (prg_1 hg hm ha na) fun σ H R ⟨F, env, n, Q, rr, h, k⟩ =>
  ⟨F, env, n, _, rr, h, fun v H' F' d env' n' r' u rp q => by
    obtain ⟨j, rfl, q⟩ := q
    exact ⟨j, rp.int_inv, k _ _ _ _ _ _ r' u q⟩⟩
def vLRg (tr : VRG) : VTN := fun env n Q => tr env n fun i j env1 n1 => (0 ≤ i ∧ j ≤ 1000000 ∧ i ≤ 1000000 ∧ 0 ≤ j) ∧ Q (.lst (rngD i (j - i).toNat)) env1 n1
def vTRg (tr : VRG) : VTE := fun env n Q => tr env n fun i j env1 n1 => (0 ≤ i ∧ j ≤ 1000000 ∧ i ≤ 1000000 ∧ 0 ≤ j) ∧ Q (.tup (rngD i (j - i).toNat)) env1 n1
theorem vn_listRg {tr : VRG} {p pos : Pos} (hc : X.calm = true) (hg : Gl X "list") (hm : X.mg "list" = none) (he : PRg X e (rgOf c tr)) (na : starEach [e] X.env = (false, eval e X.env) :: starEach [] X.env := by rfl) : PE X (.Call (.Name "list" p) [e] [] pos) (nOf c (vLRg tr)) := PE.imp (pe_listRg hc hg hm he na) fun σ H R ⟨F, env, n, Q, rr, h, k⟩ =>
  ⟨F, env, n, _, rr, h, fun i j H' F' env' n' r' u q => ⟨RgOk.of_le q.1.1 (by omega) (by omega) q.1.2.2.2, fun p np => nOf_new r' u np (kk := .lst (rngD i (j - i).toNat)) ⟨_, rfl, rps_rg i j⟩ q.2 k⟩⟩
theorem ve_tupRg {tr : VRG} {p pos : Pos} (hc : X.calm = true) (hg : Gl X "tuple") (hm : X.mg "tuple" = none) (he : PRg X e (rgOf c tr)) (na : starEach [e] X.env = (false, eval e X.env) :: starEach [] X.env := by rfl) : PE X (.Call (.Name "tuple" p) [e] [] pos) (tOf c (vTRg tr)) := PE.imp (pe_tupRg hc hg hm he na) fun σ H R ⟨F, env, n, Q, rr, h, k⟩ =>
  ⟨F, env, n, _, rr, h, fun i j H' F' env' n' r' u q => ⟨RgOk.of_le q.1.1 (by omega) (by omega) q.1.2.2.2, fun p np => by
    obtain ⟨_, _, nf⟩ := r'.new0 np
    exact k _ _ (upd F' p _) _ env' n' (r'.layF np _) (u.trans (up_lay nf)) (.tup upd_same (rps_rg i j)) q.2⟩⟩
def dRep : Dt → Dt → (List Dt → Prop) → Prop := fun x y Q => ∃ (a : List Dt) (k : Nat), x = .lst a ∧ y = .int (k : Int) ∧ k ≤ 5000 ∧ a.length * k ≤ 5000 ∧ Q (List.flatten (List.replicate k a))
theorem Rps.rep {F : Hp} {xs : List V} {ds : List Dt} (h : Rps F xs ds) : ∀ k : Nat, Rps F (List.flatten (List.replicate k xs)) (List.flatten (List.replicate k ds))
  | 0 => .nil
  | k + 1 => by
    rw [List.replicate_succ, List.replicate_succ, List.flatten_cons, List.flatten_cons]
    exact h.append (Rps.rep h k)
theorem lft_rep : LftO rRep dRep := fun F H x y d1 d2 Q R u p1 p2 ⟨a, kk, e1, e2, hk, hl, q⟩ k => by
  subst e1 e2
  obtain ⟨l, xs, rfl, h1, r1⟩ := p1.lst_inv
  rw [p2.int_inv]
  exact ⟨l, _, xs, rfl, rfl, u _ _ h1, by omega, by omega, small1k (by rw [Int.toNat_natCast, r1.len]; exact hl), fun p np => k p _ _ np (by rw [Int.toNat_natCast]; exact r1.rep kk) q⟩
abbrev VTO := Ev → Nat → (Option Int → Ev → Nat → Prop) → Prop
def oOf (c : Fc) (to : VTO) : TO := fun σ H R => ∃ F env n Q, Rel c F H σ env n ∧ to env n Q ∧ ∀ i H' F' env' n', Rel c F' H' σ env' n' → Up F F' → Q i env' n' → R i H'
def vNoPart : VTO := fun env n Q => Q none env n
def vPart (te : VTE) : VTO := fun env n Q => te env n fun d env1 n1 => ∃ i, d = .int i ∧ Q (some i) env1 n1
theorem PO.imp {X : Cx} {e : Option Expr} {t t' : TO} (h : PO X e t) (k : ∀ σ H R, t' σ H R → t σ H R) : PO X e t' := ⟨fun pins s σ H Q I q => h.run pins s σ H Q I (k _ _ _ q)⟩
theorem vo_none : PO X none (oOf c vNoPart) := PO.imp po_none fun σ H R ⟨F, env, n, Q, rr, h, k⟩ => k none H F env n rr (Up.refl F) h
theorem vo_some (he : PE X e (tOf c te)) : PO X (some e) (oOf c (vPart te)) := PO.imp (po_some he) fun σ H R ⟨F, env, n, Q, rr, h, k⟩ => ⟨F, env, n, _, rr, h, fun v H' F' d env' n' r' u rp q => by
  obtain ⟨i, rfl, q⟩ := q
  exact ⟨i, rp.int_inv, k _ H' F' env' n' r' u q⟩⟩
def cutD (xs : List Dt) (lo hi : Option Int) : List Dt := (xs.drop (HT.sIx xs.length 0 lo)).take (HT.sIx xs.length xs.length hi - HT.sIx xs.length 0 lo)
def vSlL (te : VTE) (tl th : VTO) : VTN := fun env n Q => te env n fun d env1 n1 => tl env1 n1 fun l env2 n2 => th env2 n2 fun h env3 n3 => ∃ ds, d = .lst ds ∧ Q (.lst (cutD ds l h)) env3 n3
theorem Rps.cut {F : Hp} {xs : List V} {ds : List Dt} (h : Rps F xs ds) (lo hi : Option Int) : Rps F (cutV xs lo hi) (cutD ds lo hi) := by
  unfold cutV cutD
  rw [h.len]
  exact (h.drop _).take _
theorem vn_slL {lo hi : Option Expr} {tl th : VTO} {p2 : Pos} (he : PE X e (tOf c te)) (hl : PO X lo (oOf c tl)) (hu : PO X hi (oOf c th)) : PE X (.Subscript e (.Slice lo hi none p2) pos) (nOf c (vSlL te tl th)) := PE.imp (pe_slice sl_list he hl hu) fun σ H R ⟨F, env, n, Q, rr, h, k⟩ =>
  ⟨F, env, n, _, rr, h, fun v H1 F1 d env1 n1 r1 u1 p1 q1 => ⟨F1, env1, n1, _, r1, q1, fun l H2 F2 env2 n2 r2 u2 q2 => ⟨F2, env2, n2, _, r2, q2, fun hh H3 F3 env3 n3 r3 u3 q3 => by
    obtain ⟨ds, rfl, q3⟩ := q3
    obtain ⟨a, xs, rfl, hF, rx⟩ := (p1.up (u2.trans u3)).lst_inv
    exact ⟨a, xs, rfl, .inl (.inl (r3.sub _ _ hF)), fun p np => nOf_new r3 ((u1.trans u2).trans u3) np (kk := .lst (cutD ds l hh)) ⟨_, rfl, rx.cut l hh⟩ q3 k⟩⟩⟩⟩
end
end VL
namespace HM
open PySem PySem.Spec PyProof.Rows L2
section
variable {P : Program} {w : World} {A : Around} {E : Value → Shared → Prop} {s : Shared} {a : Addr} {o : Obj} {es : Array DictEntry} {ep : Nat}
theorem walks_keys (hh : A.handled = none) (I : Addr) (hne : a ≠ I) (hd : o.data = .dict es ep) :
    Walks P w A I [I, a] [I] es.size (fun i v => (es.toList.map (·.key))[i]? = some v) (fun i h => h.IsKeyIter I a i es.size ep ∧ h.get? a = some o) where
  sub := fun b hb => by simp at hb; simp [hb]
  frame := fun _ _ _ st hk => ⟨st.1.at fun o e => hk I (by simp) o e, hk a (by simp) o st.2⟩
  item := fun i s Q E hi st hQ => by
    have hx : es[i]? = some es[i] := Array.getElem?_eq_getElem hi
    refine next_key_item st.1 st.2 hd rfl hx fun h' hit' hs' => ?_
    exact hQ es[i].key h' s.toks (by rw [List.getElem?_map, Array.getElem?_toList, hx]; rfl) ⟨hit', (hs'.2 a hne).trans st.2⟩ fun b o hb e => (hs'.2 b (fun h => hb (by simp [h]))).trans e
  done := fun s Q E st hQ => next_key_end hh st.1 st.2 hd rfl (Nat.le_refl _) fun h' he' => hQ h' s.toks fun b o hb e => he' b o (fun h => hb (by simp [h])) e
  self := fun _ _ _ _ st hQ => wpAny_pyIter_keyiter st.1 hQ
theorem collect_dict {Q : List Value → Shared → Prop} (hh : A.handled = none) (hsys : (a == sysModules) = false) (ho : s.heap.get? a = some o) (hx : o.ExactDict) (hd : o.data = .dict es ep) (hsz : es.size ≤ sizeLine)
    (hQ : ∀ s', (∀ b o, s.heap.get? b = some o → s'.heap.get? b = some o) → s.heap.objs.size ≤ s'.heap.objs.size → s'.gens = s.gens → s'.os = s.os → Q (es.toList.map (·.key)) s') :
    wpAny (model P w) A (collect (.ref a)) Q E s := by
  have hlt : a < s.heap.objs.size := Heap.lt_size ho
  have hSa : s.heap.objs.size ≠ a := Nat.ne_of_gt hlt
  unfold collect
  refine wpAny_bind (wpAny_runValue (codeAny_builtin PySem.F.entry_proto_collect ?_))
  rw [Around.under_plainId PySem.F.plain_proto_collect _]
  show wpAny _ A.in1 (newList [] >>= fun l => again (.builtin "list.__iadd__" ⟨[l, .ref a], []⟩)) _ _ s
  refine wpAny_bind (wpAny_newObj_type ?_)
  refine wpAny_pure ⟨plainId_quiet PySem.F.plain_list_iadd _, codeAny_builtin PySem.F.entry_list_iadd ?_⟩
  rw [Around.under_plainId PySem.F.plain_list_iadd _]
  have hS : (s.heap.push { cls := .type "list", data := .seq ([] : List Value).toArray }).get? s.heap.objs.size = some { cls := .type "list", data := .seq ([] : List Value).toArray } := Heap.get?_push_size _ rfl
  have ho1 : (s.heap.push { cls := .type "list", data := .seq ([] : List Value).toArray }).get? a = some o := Heap.get?_push_of_some _ ho
  have hz1 : (s.heap.push { cls := .type "list", data := .seq ([] : List Value).toArray }).objs.size = s.heap.objs.size + 1 := size_push' _ _
  show wpAny _ A.in1 (Builtin.List.listExtendWith (.ref s.heap.objs.size) (.ref a) (.ref s.heap.objs.size)) _ _ _
  unfold Builtin.List.listExtendWith
  refine wpAny_bind (wpAny_typeOf (T := "dict") ⟨o, ho1, hx.1⟩ ?_)
  have h1 : Builtin.List.listSameRef (.ref s.heap.objs.size) (.ref a) = false := by simp [Builtin.List.listSameRef, hSa]
  have h2 : (Value.type "dict" == Value.type "list") = false := by decide
  have h3 : (Value.type "dict" == Value.type "tuple") = false := by decide
  simp only [h1, h2, h3, Bool.or_false, Bool.false_eq_true, if_false]
  refine wpAny_bind (iter_keys (s := { s with heap := s.heap.push { cls := .type "list", data := .seq ([] : List Value).toArray } }) hsys ho1 hx hd ?_)
  dsimp only
  rw [hz1]
  generalize hh2 : (s.heap.push { cls := .type "list", data := .seq ([] : List Value).toArray }).push { cls := .type "dict_keyiterator", data := .fields #[.ref a, .int 0 0, .int es.size 0, .int ep 0] } = h2'
  have k2 : ∀ b u, (s.heap.push { cls := .type "list", data := .seq ([] : List Value).toArray }).get? b = some u → h2'.get? b = some u := fun b u e => by rw [← hh2]; exact Heap.get?_push_of_some _ e
  have ho2 : h2'.get? a = some o := k2 _ _ ho1
  have hT2 : Shared.TypeIs { s with heap := h2' } (.ref a) "dict" := ⟨o, ho2, hx.1⟩
  have hI : h2'.get? (s.heap.objs.size + 1) = some { cls := .type "dict_keyiterator", data := .fields #[.ref a, .int 0 0, .int es.size 0, .int ep 0] } := by
    rw [← hh2, ← hz1]
    exact Heap.get?_push_size _ rfl
  refine wpAny_bind (wpAny_holding ?_)
  unfold Builtin.List.listLengthHint
  refine wpAny_bind (wpAny_specialOf hT2 PySem.F.slot_dict_len.lookup ?_)
  (generalize hid : ("dict.__len__" : String) = id0; (fail_if_success (clear hid id0)); wp_delta; rw [show splitId id0 = some ("dict", "__len__") from by subst hid; decide +kernel]; subst hid)
  refine wpAny_bind (wpAny_isInstance (b := true) hT2 (by rw [isSubtype_type]; kernel_rfl) ?_)
  show wpAny _ A.in1 (typeOf (.ref a) >>= _) _ _ _
  refine wpAny_bind (wpAny_typeOf hT2 ?_)
  refine wpAny_pure ?_
  show wpAny _ A.in1 (rule "list.extend.makes-room" >>= fun _ => Builtin.List.listTouch (.ref s.heap.objs.size) >>= fun _ =>
    again (.builtin "list.extend.loop" ⟨[.ref s.heap.objs.size, .ref (s.heap.objs.size + 1), .ref s.heap.objs.size], []⟩)) _ _ _
  refine wpAny_bind (wpAny_rule ?_)
  have hS2 := k2 _ _ hS
  refine wpAny_bind ?_
  show wpAny _ A.in1 (updateSeq s.heap.objs.size (·.push .none) >>= fun _ => updateSeq s.heap.objs.size (·.pop)) _ _ _
  refine wpAny_bind (wpAny_updateSeq hS2 rfl ?_)
  have hS3 := Heap.get?_update_self (Obj.mapSeq (·.push Value.none)) hS2 rfl
  refine wpAny_updateSeq hS3 rfl ?_
  have hS4 := Heap.get?_update_self (Obj.mapSeq (·.pop)) hS3 rfl
  have oth : ∀ b u, b ≠ s.heap.objs.size → h2'.get? b = some u → ((h2'.update s.heap.objs.size (Obj.mapSeq (·.push Value.none))).update s.heap.objs.size (Obj.mapSeq (·.pop))).get? b = some u :=
    fun b u hb e => (Heap.get?_update_other _ _ (Ne.symm hb)).trans ((Heap.get?_update_other _ _ (Ne.symm hb)).trans e)
  have hne : a ≠ s.heap.objs.size + 1 := Nat.ne_of_lt (Nat.lt_succ_of_lt hlt)
  have W := walks_keys (P := P) (w := w) (A := A.in1) hh (s.heap.objs.size + 1) hne hd
  have hSf : s.heap.objs.size ∉ [s.heap.objs.size + 1, a] := by
    simp only [List.mem_cons, List.not_mem_nil, or_false, not_or]
    exact ⟨Nat.ne_of_lt (Nat.lt_succ_self _), hSa⟩
  refine wpAny_pure ⟨plainId_quiet PySem.F.plain_extend_loop _, codeAny_extend_loopS W.toS hsz _ hSf _ es.size 0 _ _ _ rfl (Nat.zero_le _) ⟨⟨_, oth _ _ (Nat.succ_ne_self _) hI, rfl, rfl⟩, oth _ _ (Ne.symm hSa) ho2⟩ hS4 (ItemsOf.nil _) fun s' acc' c' hm hS' hacc => ?_⟩
  show wpAny _ A (load s.heap.objs.size >>= _) _ _ s'
  refine wpAny_bind (wpAny_load hS' ?_)
  have hacc' : ItemsOf (fun i v => (es.toList.map (·.key))[i]? = some v) acc' (es.toList.map (·.key)).length := by
    rw [List.length_map, Array.length_toList]
    exact hacc
  have eo := items_out hacc' fun j v q => q
  refine wpAny_pure ?_
  show Q acc'.toList s'
  rw [eo]
  refine hQ s' (fun b u e => ?_) (Nat.le_of_lt (Heap.lt_size hS')) hm.gens hm.os
  have hbl : b < s.heap.objs.size := Heap.lt_size e
  refine hm.heap b u (fun z => ?_) (oth b u (Nat.ne_of_lt hbl) (k2 b u (Heap.get?_push_of_some _ e)))
  simp only [List.mem_cons, List.not_mem_nil, or_false] at z
  rcases z with z | z
  · exact absurd hbl (by rw [z]; exact Nat.lt_irrefl _)
  · exact absurd hbl (by rw [z]; exact Nat.not_lt_of_le (Nat.le_succ _))
end
end HM
namespace HM
open PySem PySem.Spec PyProof.Rows L2
theorem permInv {α β : Type} {f : α → β} : ∀ {F : List α} {ys : List β}, ys.Perm (F.map f) → ∃ F' : List α, F'.Perm F ∧ ys = F'.map f
  | [], ys, h => ⟨[], List.Perm.refl _, List.Perm.eq_nil h⟩
  | a :: F, ys, h => by
    have hm : f a ∈ ys := h.mem_iff.mpr List.mem_cons_self
    obtain ⟨l1, l2, rfl⟩ := List.append_of_mem hm
    have h2 : (l1 ++ l2).Perm (F.map f) := List.Perm.cons_inv (List.perm_middle.symm.trans h)
    obtain ⟨F', g1, g2⟩ := permInv h2
    obtain ⟨A, B, rfl, e1, e2⟩ := List.map_eq_append_iff.mp g2.symm
    exact ⟨A ++ a :: B, List.perm_middle.trans (List.Perm.cons _ g1), by rw [List.map_append, List.map_cons, e1, e2]⟩
section
variable {P : Program} {w : World} {A : Around} {E : Value → Shared → Prop} {s : Shared} {a : Addr} {o : Obj} {es : Array DictEntry} {ep : Nat}
/-- sorted(d), the keys whole numbers -/
theorem sorted_dictI {is : List Int} {Q : Value → Shared → Prop} (hh : A.handled = none) (hsys : (a == sysModules) = false) (ho : s.heap.get? a = some o) (hx : o.ExactDict) (hd : o.data = .dict es ep) (h64 : es.size < 64) (hI : IntsAre (es.toList.map (·.key)) is)
    (hQ : ∀ s' p (out : Array Value) (c : Nat) (ns : List Int), (∀ b o, s.heap.get? b = some o → s'.heap.get? b = some o) → s'.gens = s.gens → s'.os = s.os → s.heap.objs.size ≤ p →
      s'.heap.get? p = some (seqObj "list" out c) → IntsAre out.toList ns → ns.Perm is → ns.Pairwise (· ≤ ·) → Q (.ref p) s') :
    wpAny (model P w) A (call (.builtin "sorted") [.ref a]) Q E s := by
  refine Calls.call_function_entry kind_sorted plain_sorted entry_sorted (args_sorted1 _) ?_
  unfold Builtin.«sorted»
  refine wpAny_bind (m := checkCount "sorted" 1 1 _) (wpAny_pure ?_)
  refine wpAny_bind (collect_dict (A := A.in1) hh hsys ho hx hd (by rw [sizeLine_eq]; omega) fun s1 k1 hz g1 o1 => ?_)
  have hvl : (es.toList.map (·.key)).length < 64 := by rw [List.length_map, Array.length_toList]; exact h64
  generalize es.toList.map (·.key) = vs at hI hvl ⊢
  refine wpAny_bind (wpAny_newList ?_ (by rw [sizeLine_eq]; omega))
  have hoL : (s1.heap.push (seqObj "list" vs.toArray 0)).get? s1.heap.objs.size = some (seqObj "list" vs.toArray 0) := Heap.get?_push_size _ rfl
  refine wpAny_bind (wpAny_holding (wpAny_call_entry slot_list_sort ⟨_, hoL, rfl⟩ entry_list_sort (list_sort_tree hoL hI hvl fun out ns' a1 a2 a3 => ⟨_, rfl, ?_⟩) (args_list_sort _)))
  obtain ⟨c, hc⟩ := sortedHeap_at (vs := vs) (out := out) hoL
  refine wpAny_pure ⟨_, rfl, hQ _ s1.heap.objs.size out c ns' (fun b u e => ?_) g1 o1 hz hc a1 a2 a3⟩
  have q := k1 b u e
  have hlt := Heap.lt_size q
  show (sortedHeap (s1.heap.push (seqObj "list" vs.toArray 0)) s1.heap.objs.size vs out).get? b = some u
  rw [sortedHeap_old (Nat.ne_of_lt hlt) (by rw [size_push']; exact Nat.lt_succ_of_lt hlt)]
  exact Heap.get?_push_of_some _ q
/-- sorted(d), the keys tuples of whole numbers -/
theorem sorted_dictT {L : List (Addr × List Int)} {Q : Value → Shared → Prop} (hh : A.handled = none) (hsys : (a == sysModules) = false) (ho : s.heap.get? a = some o) (hx : o.ExactDict) (hd : o.data = .dict es ep) (h64 : es.size < 64)
    (hes : es.toList.map (·.key) = L.map fun q => Value.ref q.1) (hT : ∀ q ∈ L, IsT P w s.heap q.2 q.1) {d : Nat} {B : Int} (hd1 : 1 ≤ d) (hB : ∀ p ∈ L, p.2.length = d ∧ TS.Bd B p.2)
    (hQ : ∀ s' p (out : Array Value) (c : Nat) (L' : List (Addr × List Int)), (∀ b o, s.heap.get? b = some o → s'.heap.get? b = some o) → s'.gens = s.gens → s'.os = s.os → s.heap.objs.size ≤ p →
      s'.heap.get? p = some (seqObj "list" out c) → out.toList = L'.map (fun q => Value.ref q.1) → L'.Perm L → L'.Pairwise (fun q r => TS.code B q.2 ≤ TS.code B r.2) → Q (.ref p) s') :
    wpAny (model P w) A (call (.builtin "sorted") [.ref a]) Q E s := by
  refine Calls.call_function_entry kind_sorted plain_sorted entry_sorted (args_sorted1 _) ?_
  unfold Builtin.«sorted»
  refine wpAny_bind (m := checkCount "sorted" 1 1 _) (wpAny_pure ?_)
  refine wpAny_bind (collect_dict (A := A.in1) hh hsys ho hx hd (by rw [sizeLine_eq]; omega) fun s1 k1 hz g1 o1 => ?_)
  have hvl : (es.toList.map (·.key)).length < 64 := by rw [List.length_map, Array.length_toList]; exact h64
  generalize hvs : es.toList.map (·.key) = vs at hes hvl ⊢
  refine wpAny_bind (wpAny_newList ?_ (by rw [sizeLine_eq]; omega))
  have hoL : (s1.heap.push (seqObj "list" vs.toArray 0)).get? s1.heap.objs.size = some (seqObj "list" vs.toArray 0) := Heap.get?_push_size _ rfl
  have tk : ∀ q ∈ L, TS.TupInts (s1.heap.push (seqObj "list" vs.toArray 0)) (.ref q.1) q.2 := fun q hq => tupInts_of (P := P) (w := w) (isT_keep (hT q hq) fun b u e => Heap.get?_push_of_some _ (k1 b u e))
  have x : TS.TupsOk (s1.heap.push (seqObj "list" vs.toArray 0)) d B vs := fun v hv => by
    rw [hes] at hv
    obtain ⟨q, hq, e⟩ := List.mem_map.mp hv
    rw [← e]
    exact ⟨q.2, tk q hq, (hB q hq).1, (hB q hq).2⟩
  refine wpAny_bind (wpAny_holding (TS.call_sort_tups (s := { s1 with heap := s1.heap.push (seqObj "list" vs.toArray 0) }) hoL hvl hd1 x fun out a1 a2 => ?_))
  obtain ⟨c, hc⟩ := sortedHeap_at (vs := vs) (out := out) hoL
  obtain ⟨L', pL, e'⟩ := permInv (F := L) (f := fun q => Value.ref q.1) (ys := out.toList) (by rw [← hes]; exact a1)
  have hs' : ∀ q ∈ L', q ∈ L := fun q hq => pL.mem_iff.mp hq
  have pw : L'.Pairwise (fun q r => TS.code B q.2 ≤ TS.code B r.2) := by
    rw [e'] at a2
    refine List.Pairwise.imp_of_mem (fun {q r} hq hr hle => ?_) (List.pairwise_map.mp a2)
    have f1 : TS.intsOf (s1.heap.push (seqObj "list" vs.toArray 0)) (.ref q.1) = q.2 := (tk q (hs' q hq)).ints
    have f2 : TS.intsOf (s1.heap.push (seqObj "list" vs.toArray 0)) (.ref r.1) = r.2 := (tk r (hs' r hr)).ints
    rw [← f1, ← f2]
    exact hle
  refine wpAny_pure ⟨_, rfl, hQ _ s1.heap.objs.size out c L' (fun b u e => ?_) g1 o1 hz hc e' pL pw⟩
  have q := k1 b u e
  have hlt := Heap.lt_size q
  show (sortedHeap (s1.heap.push (seqObj "list" vs.toArray 0)) s1.heap.objs.size vs out).get? b = some u
  rw [sortedHeap_old (Nat.ne_of_lt hlt) (by rw [size_push']; exact Nat.lt_succ_of_lt hlt)]
  exact Heap.get?_push_of_some _ q
end
section
variable {X : Cx}
theorem ints_keys {P : Program} {w : World} {es : List DictEntry} {vs : List (Key × Value)} (h : Pairs (mixKind P w) es vs) : ∀ {is : List Int}, vs.map (·.1) = is.map Sum.inl → IntsAre (es.map (·.key)) is := by
  induction h with
  | nil =>
    intro is e
    cases is with
    | nil => exact .nil
    | cons i is => cases e
  | cons k v t ih =>
    intro is e
    cases is with
    | nil => cases e
    | cons i is =>
      rw [List.map_cons, List.map_cons] at e
      injection e with e1 e2
      obtain ⟨tk, e3⟩ := Value.isInt_shape (show Value.isInt i _ = true from by have k' := k; rw [e1] at k'; exact k')
      rw [List.map_cons, e3]
      exact .cons i tk (ih e2)
def rSortedK : List V → Hp → VK → Prop := fun vs H Q => ∃ (a : Addr) (kvs : List (Key × V)) (is : List Int), vs = [V.ref a] ∧ H a = some (.dK kvs) ∧ kvs.map (·.1) = is.map Sum.inl ∧ is.length < 64 ∧
  ∀ (ns : List Int) (p : Addr), ns.Perm is → ns.Pairwise (· ≤ ·) → H p = none → Q (.ref p) (upd H p (.lst (ns.map V.int)))
theorem cr_sortedK (hc : X.calm = true) : CallR X (.builtin "sorted") rSortedK := by
  intro pins s σ H vs us Q I r h
  obtain ⟨a, kvs, is, rfl, ha, hk, h64, q⟩ := h
  rw [Vals.ref1 r]
  obtain ⟨_, hsys, ws, rel, dof⟩ := dk_of I.hok ha
  obtain ⟨ep, dat⟩ := dof.dictAt
  obtain ⟨ob, es, ho, hex, hdat, hko, hpr, hnd⟩ := id dat
  have hkeys : ws.map (·.1) = is.map Sum.inl := (KV.keys rel).symm.trans hk
  have hI := ints_keys hpr hkeys
  have hlen : es.size < 64 := by
    have := IntsAre.length hI
    rw [List.length_map, Array.length_toList] at this
    omega
  refine sorted_dictI (I.ok.hd hc) hsys ho hex hdat hlen hI fun s' p out c ns k g o hp hg hi hs hm => ?_
  have hz : (ns.map V.int).length ≤ sizeLine := by rw [List.length_map, hs.length_eq, sizeLine_eq]; omega
  have hn : H p = none := I.hok.fresh hp
  have J : Inv X pins σ (upd H p (.lst (ns.map V.int))) { s with heap := s'.heap, gens := s'.gens, drawn := s'.drawn, toks := s'.toks } :=
    I.call (ch := []) (Un.laid k hp hn) (I.hok.laid k hp ⟨hz, out.toList, c, vals_of_ints hi, hg⟩) (by rw [g]; exact I.bare) (fun _ z => nomatch z)
  have e : s' = { s with heap := s'.heap, gens := s'.gens, drawn := s'.drawn, toks := s'.toks } := by
    cases s'
    have o' : _ = s.os := o
    subst o'
    rfl
  rw [e]
  exact ⟨.ref p, _, J, rfl, q ns p hs hm hn⟩
/-- the keys as tuples of whole numbers -/
def ikey (k : List Int) : List Key := k.map Sum.inl
theorem ikey_kV (k : List Int) : (ikey k).map kV = k.map V.int := by
  unfold ikey
  rw [List.map_map]
  rfl
def rSortedDT (P : Program) (w : World) : List V → Hp → VK → Prop := fun vs H Q => ∃ (a : Addr) (kvs : List (List Key × V)) (ks : List (List Int)) (d : Nat) (B : Int), vs = [V.ref a] ∧ H a = some (.dT kvs) ∧ kvs.map (·.1) = ks.map ikey ∧ ks.length < 64 ∧ 1 ≤ d ∧ (∀ k ∈ ks, k.length = d ∧ TS.Bd B k) ∧
  ∀ (L : List (Addr × List Int)) (p : Addr), (L.map (·.2)).Perm ks → L.Pairwise (fun q r => TS.code B q.2 ≤ TS.code B r.2) → (∀ q ∈ L, H q.1 = some (.tup (q.2.map V.int))) → H p = none → Q (.ref p) (upd H p (.lst (L.map fun q => V.ref q.1)))
theorem kt_list {P : Program} {w : World} {H : Hp} : ∀ {kvs : List (List Key × V)} {xs : List (List Key × Addr × Value)} {ks : List (List Int)}, KT H kvs xs → kvs.map (·.1) = ks.map ikey → ∃ L : List (Addr × List Int), xs.map (fun x => x.2.1) = L.map (·.1) ∧ L.map (·.2) = ks ∧ ∀ q ∈ L, H q.1 = some (.tup (q.2.map V.int))
  | [], _, [], .nil, _ => ⟨[], rfl, rfl, fun q hq => by cases hq⟩
  | [], _, _ :: _, .nil, e => by cases e
  | _ :: _, _, [], .cons _ _, e => by cases e
  | p :: kvs, x :: xs, k :: ks, .cons h t, e => by
    rw [List.map_cons, List.map_cons] at e
    injection e with e1 e2
    obtain ⟨L, h1, h2, h3⟩ := kt_list (P := P) (w := w) t e2
    obtain ⟨g1, g2, g3⟩ := h
    refine ⟨(x.2.1, k) :: L, by rw [List.map_cons, List.map_cons, h1], by rw [List.map_cons, h2], fun q hq => ?_⟩
    rcases List.mem_cons.mp hq with rfl | hq
    · rw [e1, ikey_kV] at g2
      exact g2
    · exact h3 q hq
theorem cr_sortedDT (hc : X.calm = true) : CallR X (.builtin "sorted") (rSortedDT X.prog X.w) := by
  intro pins s σ H vs us Q I r h
  obtain ⟨a, kvs, ks, d, B, rfl, ha, hk, h64, hd1, hB, q⟩ := h
  rw [Vals.ref1 r]
  obtain ⟨_, hsys, xs, rel, dof⟩ := dt_of I.hok ha
  obtain ⟨ob, es, ep, ho, hex, hdat, hes, _, hnd⟩ := id dof
  obtain ⟨L, h1, h2, h3⟩ := kt_list (P := X.prog) (w := X.w) rel hk
  have hes2 : es.toList.map (·.key) = L.map fun q => Value.ref q.1 := by
    have : es.toList.map (·.key) = (xs.map (fun x => x.2.1)).map Value.ref := by
      rw [hes, List.map_map, List.map_map]
      rfl
    rw [this, h1, List.map_map]
    rfl
  have hlen : es.size < 64 := by
    have e1 := congrArg List.length hes2
    rw [List.length_map, List.length_map, Array.length_toList] at e1
    have e2 := congrArg List.length h2
    rw [List.length_map] at e2
    omega
  have hT : ∀ q ∈ L, IsT X.prog X.w s.heap q.2 q.1 := fun q hq => I.isT (.inl (.inl (h3 q hq)))
  refine sorted_dictT (I.ok.hd hc) hsys ho hex hdat hlen hes2 hT hd1 (fun p hp => hB p.2 (by rw [← h2]; exact List.mem_map.mpr ⟨p, hp, rfl⟩)) fun s' p out c L' k g o hp hg hi hpm hpw => ?_
  have hz : (L'.map fun q => V.ref q.1).length ≤ sizeLine := by
    have e2 := congrArg List.length h2
    rw [List.length_map] at e2
    rw [List.length_map, hpm.length_eq, sizeLine_eq]
    omega
  have hn : H p = none := I.hok.fresh hp
  have J : Inv X pins σ (upd H p (.lst (L'.map fun q => V.ref q.1))) { s with heap := s'.heap, gens := s'.gens, drawn := s'.drawn, toks := s'.toks } :=
    I.call (ch := []) (Un.laid k hp hn) (I.hok.laid k hp ⟨hz, out.toList, c, by rw [hi]; exact vals_of_refs L', hg⟩) (by rw [g]; exact I.bare) (fun _ z => nomatch z)
  have e : s' = { s with heap := s'.heap, gens := s'.gens, drawn := s'.drawn, toks := s'.toks } := by
    cases s'
    have o' : _ = s.os := o
    subst o'
    rfl
  rw [e]
  exact ⟨.ref p, _, J, rfl, q L' p (by rw [← h2]; exact hpm.map _) hpw (fun q hq => h3 q (hpm.mem_iff.mp hq)) hn⟩
end
end HM
namespace HM
open PySem PySem.Spec PyProof.Rows L2
/-- a set as it is made -/
abbrev newSetO (w : World) : Obj := { cls := .type "set", dict := none, data := .set #[] 0 (.fresh 0 0 (!w.params.followText "set-order")) }
section
variable {P : Program} {w : World} {A : Around} {E : Value → Shared → Prop} {s : Shared}
set_option maxHeartbeats 8000000 in
/-- set(xs), xs a list of whole numbers -/
theorem set_of_ints {l : Addr} {items : Array Value} (ns : List Int) {Q : Value → Shared → Prop} (hh : A.handled = none) (hl : s.heap.IsList l items) (hit : IntsAre items.toList ns) (hb : ns.length + 1 < scanBound)
    (h : ∀ (h' : Heap) (tk c : Nat), SetR w h' s.heap.objs.size (fun j => decide (j ∈ ns)) c → c ≤ ns.length → (∀ b o, s.heap.get? b = some o → h'.get? b = some o) → Q (.ref s.heap.objs.size) { s with heap := h', toks := tk }) :
    wpAny (model P w) A (call (.type "set") [.ref l]) Q E s := by
  have hsize : items.size = ns.length := by rw [← Array.length_toList]; exact IntsAre.length hit
  have hlS : l < s.heap.objs.size := let ⟨_, e, _⟩ := hl; Heap.lt_size e
  obtain ⟨c0, tl, hmro⟩ := F.called_set.mro
  have hmade := F.called_set.made
  have hsub := F.called_set.sub
  refine wpAny_call (codeAny_of_tree (show wpAny _ _ (callAny (.type "set") _) _ _ _ from wpAny_pure ⟨Code.quiet_builtin _ (by decide +kernel), codeAny_builtin F.entry_type_call ?_⟩))
  rw [Around.under_plain (weight_type_call_type "set" [.ref l] []) rfl]
  have h1 := F.called_set.notType
  have h2 := F.called_set.canCreate
  have hct := F.typeCall_set_1 (.ref l)
  repeat (any_goals (first | assumption | wp_step))
  refine codeAny_mono (code_set_led1 (.ref l) (E := E) (Q₁ := fun obj s₁ => obj = .ref s.heap.objs.size ∧ s₁ = { s with heap := s.heap.push (newSetO w) }) ⟨rfl, rfl⟩) fun r s₁ hr => ?_
  match r, hr with
  | .error e, hr => exact hr
  | .ok .next, hr => exact hr.elim
  | .ok .brk, hr => exact hr.elim
  | .ok .cont, hr => exact hr.elim
  | .ok (.ret obj), hr =>
    obtain ⟨rfl, rfl⟩ := hr
    have hS : (s.heap.push (newSetO w)).get? s.heap.objs.size = some (newSetO w) := Heap.get?_push_size _ rfl
    have hT : Shared.TypeIs { s with heap := s.heap.push (newSetO w) } (.ref s.heap.objs.size) "set" := ⟨_, hS, rfl⟩
    have hz1 : (s.heap.push (newSetO w)).objs.size = s.heap.objs.size + 1 := Heap.size_push ..
    have hli := F.called_set.init.lookup
    have hbi := F.called_set.init.bind (.ref s.heap.objs.size)
    repeat (any_goals (first | assumption | wp_step))
    refine codeAny_mono (codeAny_call_builtin (R := wants (fun r s₂ => r = .none ∧ ∃ h' tk c, s₂ = { s with heap := h', toks := tk } ∧ SetR w h' s.heap.objs.size (fun j => decide (j ∈ ns)) c ∧ c ≤ ns.length ∧ (∀ b o, s.heap.get? b = some o → h'.get? b = some o)) E)
      F.called_set.init.plain F.entry_set_init (check_set_init_1 hT ?_)) fun r₂ s₂ hr₂ => ?_
    · obtain ⟨⟨ocls, odict, odata, oslots⟩, hol, hcl, nl, hdl⟩ := hl
      simp only at hcl hdl
      subst hcl hdl
      have hol1 : (s.heap.push (newSetO w)).get? l = some { cls := .type "list", dict := odict, data := .seq items nl, slots := oslots } := Heap.get?_push_of_some _ hol
      have hl1 : (s.heap.push (newSetO w)).IsList l items := ⟨_, hol1, rfl, nl, rfl⟩
      have hsls := F.sub_list_set
      have hslf := F.sub_list_frozenset
      have hne : (Value.type "list" == Value.type "dict") = false := by decide
      unfold Builtin.«set.__init__» noKeywords Builtin.Frozenset.updateFrom
      generalize hPI : pyIter = PI
      wp_walk
      subst hPI
      refine wpAny_pyIter_list hl1 (wpAny_bind (wpAny_runValue ?_))
      have hneI : l ≠ (s.heap.push (newSetO w)).objs.size := by rw [hz1]; exact Nat.ne_of_lt (Nat.lt_succ_of_lt hlS)
      have hSf : s.heap.objs.size ∉ [(s.heap.push (newSetO w)).objs.size, l] := by
        rw [hz1]
        simp only [List.mem_cons, List.not_mem_nil, or_false, not_or]
        exact ⟨Nat.ne_of_lt (Nat.lt_succ_self _), Nat.ne_of_gt hlS⟩
      refine set_update_ints ((Walks.list (by simp [hh]) _ l hneI items).toS) s.heap.objs.size hSf ns hsize hb (fun i v hv => ?_) (items.size - 0) 0 _ (by omega) (Nat.zero_le _)
        ⟨⟨_, Heap.get?_push_size _ rfl, rfl, rfl⟩, (hl1.push _)⟩ ⟨0, Nat.le_refl 0, setR_new_at (Heap.get?_push_of_some _ hS)⟩ ?hR
      · have hi : i < ns.length := by rw [← hsize]; exact (Array.getElem?_eq_some_iff.mp hv).1
        obtain ⟨t, e⟩ := PyProof.Rows.IntsAre.int_at hit i v (by rw [Array.getElem?_toList]; exact hv)
        refine ⟨ns[i], t, List.getElem?_eq_getElem hi, ?_⟩
        rw [e, List.getD_eq_getElem?_getD, List.getElem?_eq_getElem hi] <;> rfl
      case hR =>
        intro s' c' hm hc' hS'
        obtain ⟨h', g2, d', tk', os'⟩ := s'
        obtain rfl : g2 = s.gens := hm.gens
        obtain rfl : d' = s.drawn := hm.drawn
        obtain rfl : os' = s.os := hm.os
        rw [hsize] at hc'
        refine wpAny_pure (show wpAny _ _ (ret Value.none) _ _ _ from wpAny_pure ⟨rfl, h', tk', c', rfl, hS', hc', fun b o e => ?_⟩)
        have hb0 : b < s.heap.objs.size := Heap.lt_size e
        refine hm.heap b o ?_ (Heap.get?_push_of_some _ (Heap.get?_push_of_some _ e))
        rw [hz1]
        simp only [List.mem_cons, List.not_mem_nil, or_false, not_or]
        exact ⟨Nat.ne_of_lt hb0, Nat.ne_of_lt (Nat.lt_succ_of_lt hb0)⟩
    · match r₂, hr₂ with
      | .error e, hr₂ => exact hr₂
      | .ok .next, hr₂ => exact hr₂.elim
      | .ok .brk, hr₂ => exact hr₂.elim
      | .ok .cont, hr₂ => exact hr₂.elim
      | .ok (.ret r), hr₂ =>
        obtain ⟨rfl, h', tk, c', rfl, hS', hc', hk'⟩ := hr₂
        repeat (any_goals (first | assumption | wp_step))
        exact h _ _ _ hS' hc' hk'
end
end HM
namespace HM
open PySem PySem.Spec PyProof.Rows L2
section
variable {X : Cx}
def rSetI (K : PySem.W.Frag) (w : World) : List V → Hp → VK → Prop := fun xs H Q => ∃ (l : Addr) (ns : List Int), xs = [V.ref l] ∧ SqL K H l (ns.map V.int) ∧ ns.length ≤ 1000 ∧
  ∀ a c, H a = none → c ≤ ns.length → Q (.ref a) (upd H a (SetO w a (fun j => decide (j ∈ ns)) c))
theorem cr_setI (hc : X.calm = true) : CallR X (.type "set") (rSetI X.K X.w) := by
  intro pins s σ H xs us Q I r h
  obtain ⟨l, ns, rfl, hq, hl, q⟩ := h
  obtain ⟨u, rfl, rx⟩ := vals1 r
  cases rx
  obtain ⟨its, rv, pl, hz⟩ := I.list hq
  refine set_of_ints ns (I.ok.hd hc) pl.isList (by simpa using rv.ints) (by unfold scanBound; omega) fun h' tk c hS hcl hk => ?_
  have hn : H s.heap.objs.size = none := I.hok.fresh (Nat.le_refl _)
  exact ⟨.ref _, _, I.laid (t' := tk) hk (Nat.le_refl _) (setO_new hS), rfl, q _ c hn hcl⟩
def tDispT (tk tv : TE) : TE := fun σ H Q => ∀ p, H p = none → tk σ (upd H p (.dT [])) fun x H1 => tv σ H1 fun y H2 => ∃ b k, x = .ref b ∧ H2 b = some (.tup (k.map kV)) ∧ H2 p = some (.dT []) ∧ Q (.ref p) (upd H2 p (.dT [(k, y)]))
theorem pe_dispT {ke ve : Expr} {tk tv : TE} {pos : Pos} (hu : X.A.units + 1 < cLine) (hk : PE X ke tk) (hv : PE X ve tv) : PE X (.Dict [some ke] [ve] pos) (tDispT tk tv) := by
  refine ⟨fun pins s σ H Q I h => ?_⟩
  have hsh : (evalEachOpt [some ke] X.env).zip ((evalEach [ve] X.env).map fun v => do let x ← v; standAt pos; pure x) = ([(eval ke X.env, do let x ← eval ve X.env; standAt pos; pure x)] : List (Sem Value × Sem Value)).map fun p => (some p.1, p.2) := rfl
  rw [arm_eval_Dict, hsh, dictDisplay_pairs _ (by simp) (by simp)]
  refine wpAny_bind (wpAny_standAt (wpAny_bind ?_))
  unfold subDict
  refine wpAny_bind (wpAny_alloc ?_)
  have hn : H s.heap.objs.size = none := I.hok.fresh (Nat.le_refl _)
  have I1 := I.laid (a := s.heap.objs.size) (o := .dT []) (t' := s.toks) (fun _ _ q => Heap.get?_push_of_some _ q) (Nat.le_refl _) (dt_empty s.heap I.big)
  refine wpAny_bind (wpAny_holding ?_)
  rw [if_pos (by simp)]
  refine wpAny_bind (evalPairs_cons (thn (hk.run pins _ σ _ _ I1 (h _ hn)) fun u s1 ⟨x, H1, J1, rx, q1⟩ => wpAny_bind (thn (hv.run pins s1 σ H1 _ J1 q1) fun v s2 ⟨y, H2, J2, ry, b, k, ex, eb, ep, q2⟩ => wpAny_bind (wpAny_standAt (wpAny_pure (evalPairs_nil ?_))))))
  subst ex
  cases rx
  refine wpAny_holding ?_
  simp only [List.forIn_cons, List.forIn_nil]
  obtain ⟨z, hd, xs, rel, dd⟩ := dt_of J2.hok ep
  cases rel
  refine wpAny_bind (wpAny_bind (wpAny_bind (wpAny_dictSet_heap (hsz := by simp) (show X.A.units < cLine by omega) (key_of J2.hok eb) dd fun h' dd' hs => wpAny_pure (wpAny_pure (wpAny_pure (wpAny_pure (wpAny_pure ?_)))))))
  obtain ⟨q, es, ep', hq, h2, h3, h4, _, h5⟩ := dd'
  refine ⟨.ref s.heap.objs.size, upd H2 s.heap.objs.size (.dT [(k, y)]), d_write J2 (by rw [ep]; exact True.intro) hs ⟨q, hq⟩ ⟨by show 1 ≤ sizeLine; decide, hd, _, .cons ⟨rfl, ?_, ry⟩ .nil, q, es, ep', hq, h2, h3, h4, h5⟩, rfl, q2⟩
  rw [upd_ne (ne_of eb ep (fun z => nomatch z))]
  exact eb
end
end HM
namespace VL
open PySem PySem.Spec PyProof.Rows L2 HM
def keyD : Key → Dt
  | .inl i => .int i
  | .inr s => .str s
def tupD (k : List Key) : Dt := .tup (k.map keyD)
section
variable {κ : Type} [DecidableEq κ]
def valD (kvs : List (κ × Dt)) (k : κ) : Option Dt := (kvs.find? fun kv => decide (kv.1 = k)).map (·.2)
def putD (kvs : List (κ × Dt)) (k : κ) (v : Dt) : List (κ × Dt) :=
  if (kvs.any fun kv => decide (kv.1 = k)) = true then kvs.map (fun kv => if kv.1 = k then (kv.1, v) else kv) else kvs ++ [(k, v)]
theorem PrK.val {F : Hp} {k : κ} : ∀ {a : List (κ × V)} {b : List (κ × Dt)}, PrK F a b → (valV a k = none ∧ valD b k = none) ∨ ∃ v d, valV a k = some v ∧ valD b k = some d ∧ Rp F v d
  | _, _, .nil => .inl ⟨rfl, rfl⟩
  | p :: a, q :: b, .cons h t => by
    obtain ⟨h1, h2⟩ := h
    unfold valV valD
    by_cases e : p.1 = k
    · refine .inr ⟨p.2, q.2, ?_, ?_, h2⟩
      · rw [List.find?_cons_of_pos (by simpa using e)]; rfl
      · rw [List.find?_cons_of_pos (by rw [← h1]; simpa using e)]; rfl
    · rw [List.find?_cons_of_neg (by simpa using e), List.find?_cons_of_neg (by rw [← h1]; simpa using e)]
      exact PrK.val t
theorem PrK.any {F : Hp} {k : κ} : ∀ {a : List (κ × V)} {b : List (κ × Dt)}, PrK F a b → (a.any fun kv => decide (kv.1 = k)) = b.any fun kv => decide (kv.1 = k)
  | _, _, .nil => rfl
  | p :: a, q :: b, .cons h t => by rw [List.any_cons, List.any_cons, h.1, PrK.any t]
theorem PrK.mapp {F : Hp} {k : κ} {v : V} {d : Dt} (r : Rp F v d) : ∀ {a : List (κ × V)} {b : List (κ × Dt)}, PrK F a b → PrK F (a.map fun kv => if kv.1 = k then (kv.1, v) else kv) (b.map fun kv => if kv.1 = k then (kv.1, d) else kv)
  | _, _, .nil => .nil
  | p :: a, q :: b, .cons h t => by
    rw [List.map_cons, List.map_cons]
    refine .cons ?_ (PrK.mapp r t)
    by_cases e : p.1 = k
    · rw [if_pos e, if_pos (by rw [← h.1]; exact e)]
      exact ⟨h.1, r⟩
    · rw [if_neg e, if_neg (by rw [← h.1]; exact e)]
      exact h
theorem PrK.app {F : Hp} : ∀ {a a2 : List (κ × V)} {b b2 : List (κ × Dt)}, PrK F a b → PrK F a2 b2 → PrK F (a ++ a2) (b ++ b2)
  | _, _, _, _, .nil, s => s
  | _, _, _, _, .cons h t, s => .cons h (PrK.app t s)
theorem PrK.put {F : Hp} {k : κ} {v : V} {d : Dt} (r : Rp F v d) {a : List (κ × V)} {b : List (κ × Dt)} (h : PrK F a b) : PrK F (putK a k v) (putD b k d) := by
  unfold putK putD
  rw [h.any]
  split
  · exact PrK.mapp r h
  · exact PrK.app h (.cons ⟨rfl, r⟩ .nil)
theorem PrK.len {F : Hp} {a : List (κ × V)} {b : List (κ × Dt)} (h : PrK F a b) : a.length = b.length := Paired.length h
theorem PrK.keys {F : Hp} : ∀ {a : List (κ × V)} {b : List (κ × Dt)}, PrK F a b → a.map (·.1) = b.map (·.1)
  | _, _, .nil => rfl
  | _, _, .cons h t => by rw [List.map_cons, List.map_cons, h.1, PrK.keys t]
end
theorem Rp.key {F : Hp} {v : V} {k : Key} (h : Rp F v (keyD k)) : v = kV k := by
  cases k with
  | inl i => exact h.int_inv
  | inr s => exact h.str_inv
theorem Rps.keys {F : Hp} : ∀ {vs : List V} {k : List Key}, Rps F vs (k.map keyD) → vs = k.map kV
  | _, [], .nil => rfl
  | _, k :: ks, .cons h t => by rw [List.map_cons, h.key, Rps.keys t]
theorem Rp.tupk {F : Hp} {v : V} {k : List Key} (h : Rp F v (tupD k)) : ∃ b, v = .ref b ∧ F b = some (.tup (k.map kV)) := by
  obtain ⟨a, xs, rfl, hF, rx⟩ := Rp.tup_inv h
  exact ⟨a, rfl, by rw [← rx.keys]; exact hF⟩
section
variable {c : Fc} {X : Cx} {a b e o : Expr} {es : List Expr} {te ta tb : VTE} {tas : VTA} {pos apos p : Pos}
/-- slot i holds a dict: what stands at k -/
def hasD (env : Ev) (i : Nat) (d : Dt) (r : Option Dt) : Prop := (∃ kvs k, env[i]? = some (.ow (.dK kvs)) ∧ d = keyD k ∧ r = valD kvs k) ∨ ∃ kvs k, env[i]? = some (.ow (.dT kvs)) ∧ d = tupD k ∧ r = valD kvs k
def isDk (env : Ev) (i : Nat) : Prop := (∃ kvs, env[i]? = some (.ow (.dK kvs))) ∨ ∃ kvs, env[i]? = some (.ow (.dT kvs))
theorem Rel.slotA {F H : Hp} {σ : L2.St} {env : Ev} {n i : Nat} {k : Con} (r : Rel c F H σ env n) (e : env[i]? = some (.ow k)) : ∃ a o, σ[i]? = some (some (.ref a)) ∧ H a = some o ∧ OwOk F a o k := by
  obtain ⟨a, o, g1, _, _, _, g5, g6⟩ := r.sl i _ e
  exact ⟨a, o, g1, g5, g6⟩
theorem hasD.get {F H : Hp} {σ : L2.St} {env : Ev} {n i : Nat} {y : V} {d : Dt} {r : Option Dt} (rr : Rel c F H σ env n) (ry : Rp F y d) (h : hasD env i d r) : ∃ a v, σ[i]? = some (some (.ref a)) ∧ DGet H a y v ∧ ((v = none ∧ r = none) ∨ ∃ x z, v = some x ∧ r = some z ∧ Rp F x z) := by
  rcases h with ⟨kvs, k, e, rfl, rfl⟩ | ⟨kvs, k, e, rfl, rfl⟩
  · obtain ⟨a, o, g1, g5, ks, rfl, pr⟩ := rr.slotA e
    rw [ry.key]
    refine ⟨a, valV ks k, g1, .inl ⟨ks, k, .inl g5, rfl, rfl⟩, ?_⟩
    rcases pr.val (k := k) with ⟨h1, h2⟩ | ⟨x, z, h1, h2, h3⟩
    · exact .inl ⟨h1, h2⟩
    · exact .inr ⟨x, z, h1, h2, h3⟩
  · obtain ⟨a, o, g1, g5, ks, rfl, pr⟩ := rr.slotA e
    obtain ⟨bb, rfl, hb⟩ := ry.tupk
    refine ⟨a, valV ks k, g1, .inr ⟨ks, k, bb, .inl g5, rfl, rr.sub _ _ hb, rfl⟩, ?_⟩
    rcases pr.val (k := k) with ⟨h1, h2⟩ | ⟨x, z, h1, h2, h3⟩
    · exact .inl ⟨h1, h2⟩
    · exact .inr ⟨x, z, h1, h2, h3⟩
theorem isDk.at {F H : Hp} {σ : L2.St} {env : Ev} {n i : Nat} (rr : Rel c F H σ env n) (h : isDk env i) : ∃ a, σ[i]? = some (some (.ref a)) := by
  rcases h with ⟨kvs, e⟩ | ⟨kvs, e⟩
  · obtain ⟨a, _, g, _⟩ := rr.slotA e
    exact ⟨a, g⟩
  · obtain ⟨a, _, g, _⟩ := rr.slotA e
    exact ⟨a, g⟩
/-- k in d -/
def vDIn (neg : Bool) (i : Nat) (te : VTE) : VTE := fun env n Q => te env n fun d env1 n1 => ∃ r, hasD env1 i d r ∧ Q (.bl (if neg then !r.isSome else r.isSome)) env1 n1
theorem dnotin_of {i : Nat} {σ : L2.St} {H : Hp} {R : VK} (h : tOf c (vDIn true i te) σ H R) : tDNotIn (tOf c te) (tVar i) σ H R := by
  obtain ⟨F, env, n, Q, rr, h, k⟩ := h
  refine ⟨F, env, n, _, rr, h, fun y H1 F1 d env1 n1 r1 u1 p1 q1 => ?_⟩
  obtain ⟨r, hd, q1⟩ := q1
  obtain ⟨a, v, e1, g, hv⟩ := hd.get r1 p1
  refine ⟨_, e1, a, v, rfl, g, ?_⟩
  have : v.isSome = r.isSome := by rcases hv with ⟨rfl, rfl⟩ | ⟨x, z, rfl, rfl, _⟩ <;> rfl
  rw [this]
  exact k _ H1 F1 _ env1 n1 r1 u1 (.bl _) q1
theorem testB_of {te : VTE} {t : TE} (h : ∀ {σ H R}, tOf c te σ H R → t σ H R) {σ : L2.St} {H : Hp} {R : Bool → Hp → Prop} (q : cOf c (vB te) σ H R) : tB t σ H R := by
  obtain ⟨F, env, n, Q, rr, q, k⟩ := q
  refine h ⟨F, env, n, _, rr, q, fun v H' F' d env' n' r' u rp qd => ?_⟩
  obtain ⟨bb, rfl, qd⟩ := qd
  exact ⟨bb, rp.bl_inv, k bb H' F' env' n' r' u qd⟩
theorem vt_dnotin {i : Nat} (hu : X.A.units + 1 < cLine) (ha : PE X a (tOf c te)) (hb : PE X b (tVar i)) (h1 : behindInMarks .NotIn b = false := by rfl) : PT X (.Compare a [.NotIn] [b] pos) (cOf c (vB (vDIn true i te))) := PT.imp (pt_cmp (pc_dnotin hu ha hb) h1) fun _ _ _ => testB_of dnotin_of
/-- d[k] -/
def vDGet (i : Nat) (te : VTE) : VTE := fun env n Q => isDk env i ∧ te env n fun d env1 n1 => ∃ z, hasD env1 i d (some z) ∧ Q z env1 n1
theorem ve_dget {i : Nat} (hu : X.A.units + 1 < cLine) (ho : PE X o (tVar i)) (hi : PE X e (tOf c te)) (hs : NoSl e) : PE X (.Subscript o e pos) (tOf c (vDGet i te)) := PE.imp (pe_dget hu ho hi hs) fun σ H R ⟨F, env, n, Q, rr, ⟨h0, h⟩, k⟩ => by
  obtain ⟨a, ea⟩ := h0.at rr
  refine ⟨_, ea, F, env, n, _, rr, h, fun y H1 F1 d env1 n1 r1 u1 p1 q1 => ?_⟩
  obtain ⟨z, hd, q1⟩ := q1
  obtain ⟨a2, v, e1, g, hv⟩ := hd.get r1 p1
  rw [ea] at e1
  cases e1
  rcases hv with ⟨_, z2⟩ | ⟨x, z2, rfl, e2, rz⟩
  · cases z2
  · cases e2
    exact ⟨a, x, rfl, g, k _ H1 F1 _ env1 n1 r1 u1 rz q1⟩
/-- d[k] = v -/
def vDPut (i : Nat) (tk tv : VTE) : VTS := fun V env n => tv env n fun z env1 n1 => isDk env1 i ∧ tk env1 n1 fun d env2 n2 =>
  (∃ kvs k, env2[i]? = some (.ow (.dK kvs)) ∧ d = keyD k ∧ kvs.length ≤ 5000 ∧ V.nx (env2.set i (.ow (.dK (putD kvs k z)))) n2) ∨ (∃ kvs k, env2[i]? = some (.ow (.dT kvs)) ∧ d = tupD k ∧ kvs.length ≤ 5000 ∧ V.nx (env2.set i (.ow (.dT (putD kvs k z)))) n2)
theorem vs_dput {i : Nat} {v : Expr} {tk tv : VTE} {p2 : Pos} (hu : X.A.units + 1 < cLine) (ho : PE X o (tVar i)) (hi : PE X e (tOf c tk)) (hv : PE X v (tOf c tv)) (hs : swapsWith v (some (.Subscript o e p2)) pos.line X.env = pure false) : PS X (.Assign [.Subscript o e p2] v pos) (sOf c (vDPut i tk tv)) := PS.imp (ps_dput hu ho hi hv hs) fun D σ H ⟨F, env, n, V, rr, h, k⟩ => by
  refine ⟨F, env, n, _, rr, h, fun v H1 F1 z env1 n1 r1 u1 p1 q1 => ?_⟩
  obtain ⟨h0, q1⟩ := q1
  obtain ⟨a, ea⟩ := h0.at r1
  refine ⟨_, ea, F1, env1, n1, _, r1, q1, fun y H2 F2 d env2 n2 r2 u2 p2 q2 => ?_⟩
  rcases q2 with ⟨kvs, kk, e, rfl, hl, q2⟩ | ⟨kvs, kk, e, rfl, hl, q2⟩
  · obtain ⟨a2, o2, g1, g5, ks, rfl, pr⟩ := r2.slotA e
    rw [ea] at g1
    cases g1
    rw [p2.key]
    exact ⟨a, _, rfl, .inl ⟨ks, kk, g5, rfl, small1000 (by rw [pr.len]; exact hl), rfl⟩, k.nx F2 _ σ _ n2 (r2.write (k' := .dK (putD kvs kk z)) e ea ⟨_, rfl, pr.put (p1.up u2)⟩) (u1.trans u2) q2⟩
  · obtain ⟨a2, o2, g1, g5, ks, rfl, pr⟩ := r2.slotA e
    rw [ea] at g1
    cases g1
    obtain ⟨bb, rfl, hb⟩ := p2.tupk
    exact ⟨a, _, rfl, .inr ⟨ks, kk, bb, g5, rfl, r2.sub _ _ hb, small1000 (by rw [pr.len]; exact hl), rfl⟩, k.nx F2 _ σ _ n2 (r2.write (k' := .dT (putD kvs kk z)) e ea ⟨_, rfl, pr.put (p1.up u2)⟩) (u1.trans u2) q2⟩
/-- len(d), keys tuples -/
def vDLenT (i : Nat) : VTE := fun env n Q => ∃ kvs, env[i]? = some (.ow (.dT kvs)) ∧ Q (.int kvs.length) env n
theorem ve_dlenT {i : Nat} {p : Pos} (hg : Gl X "len") (hm : X.mg "len" = none) (ho : PE X o (tVar i)) (he : starEach [o] X.env = (false, eval o X.env) :: starEach [] X.env := by rfl) (hpl : (backTo pos (starEach [] X.env)).any (·.1) = false := by rfl) :
    PE X (.Call (.Name "len" p) [o] [] pos) (tOf c (vDLenT i)) := PE.imp (pe_callB call_len_dT hg hm PySem.boot_len (pa_cons ho pa_nil he) (by decide) (by decide) he hpl) fun σ H R ⟨F, env, n, Q, rr, ⟨kvs, e, q⟩, k⟩ => by
  obtain ⟨a, o, g1, g5, ks, rfl, pr⟩ := rr.slotA e
  exact ⟨_, g1, a, ks, rfl, g5, by rw [pr.len]; exact k _ H F _ env n rr (Up.refl F) (.int _) q⟩
/-- sorted(d) -/
def vDSortK (i : Nat) : VTN := fun env n Q => ∃ kvs is, env[i]? = some (.ow (.dK kvs)) ∧ kvs.map (·.1) = is.map Sum.inl ∧ is.length < 64 ∧ ∀ ns : List Int, ns.Perm is → ns.Pairwise (· ≤ ·) → Q (.lst (ns.map Dt.int)) env n
theorem vn_dsortK {i : Nat} {p : Pos} (hc : X.calm = true) (hg : Gl X "sorted") (hm : X.mg "sorted" = none) (ho : PE X o (tVar i)) (he : starEach [o] X.env = (false, eval o X.env) :: starEach [] X.env := by rfl) (hpl : (backTo pos (starEach [] X.env)).any (·.1) = false := by rfl) :
    PE X (.Call (.Name "sorted" p) [o] [] pos) (nOf c (vDSortK i)) := PE.imp (pe_callB (cr_sortedK hc) hg hm (by decide +kernel) (pa_cons ho pa_nil he) (by decide) (by decide) he hpl) fun σ H R ⟨F, env, n, Q, rr, ⟨kvs, is, e, hk, hl, q⟩, k⟩ => by
  obtain ⟨a, o, g1, g5, ks, rfl, pr⟩ := rr.slotA e
  exact ⟨_, g1, a, ks, is, rfl, g5, by rw [pr.keys]; exact hk, hl, fun ns p h1 h2 np => nOf_new rr (Up.refl F) np (kk := .lst (ns.map Dt.int)) ⟨_, rfl, Rps.ints ns⟩ (q ns h1 h2) k⟩
def vDSortT (i : Nat) : VTN := fun env n Q => ∃ kvs ks d B, env[i]? = some (.ow (.dT kvs)) ∧ kvs.map (·.1) = ks.map ikey ∧ ks.length < 64 ∧ 1 ≤ d ∧ (∀ k ∈ ks, k.length = d ∧ TS.Bd B k) ∧ ∀ ls : List (List Int), ls.Perm ks → ls.Pairwise (fun q r => TS.code B q ≤ TS.code B r) → Q (.lst (ls.map fun l => .tup (l.map Dt.int))) env n
end
end VL
namespace VL
open PySem PySem.Spec PyProof.Rows L2 HM
section
variable {c : Fc} {X : Cx} {a b e o : Expr} {es : List Expr} {te ta tb : VTE} {tas : VTA} {pos apos p : Pos}
theorem Rel.addTs {F H : Hp} {σ : L2.St} {env : Ev} {n : Nat} : ∀ {L : List (Addr × List Int)} (r : Rel c F H σ env n), (∀ q ∈ L, H q.1 = some (.tup (q.2.map V.int))) → ∃ F', Rel c F' H σ env n ∧ Up F F' ∧ Rps F' (L.map fun q => V.ref q.1) (L.map fun q => Dt.tup (q.2.map Dt.int))
  | [], r, _ => ⟨F, r, Up.refl F, .nil⟩
  | q :: L, r, h => by
    obtain ⟨r1, u1⟩ := r.addT (h q List.mem_cons_self)
    obtain ⟨F', r2, u2, rp⟩ := Rel.addTs (L := L) r1 fun p hp => h p (List.mem_cons_of_mem _ hp)
    exact ⟨F', r2, u1.trans u2, .cons (.tup (u2 _ _ upd_same) (Rps.ints _)) rp⟩
theorem vn_dsortT {i : Nat} {p : Pos} (hc : X.calm = true) (hg : Gl X "sorted") (hm : X.mg "sorted" = none) (ho : PE X o (tVar i)) (he : starEach [o] X.env = (false, eval o X.env) :: starEach [] X.env := by rfl) (hpl : (backTo pos (starEach [] X.env)).any (·.1) = false := by rfl) :
    PE X (.Call (.Name "sorted" p) [o] [] pos) (nOf c (vDSortT i)) := PE.imp (pe_callB (cr_sortedDT hc) hg hm (by decide +kernel) (pa_cons ho pa_nil he) (by decide) (by decide) he hpl) fun σ H R ⟨F, env, n, Q, rr, ⟨kvs, ks, d, B, e, hk, hl, hd, hB, q⟩, k⟩ => by
  obtain ⟨a, o, g1, g5, kws, rfl, pr⟩ := rr.slotA e
  refine ⟨_, g1, a, kws, ks, d, B, rfl, g5, by rw [pr.keys]; exact hk, hl, hd, hB, fun L p h1 h2 h3 np => ?_⟩
  obtain ⟨F', r', u', rp⟩ := rr.addTs h3
  have e1 : L.map (fun q => Dt.tup (q.2.map Dt.int)) = (L.map (·.2)).map fun l => Dt.tup (l.map Dt.int) := by rw [List.map_map]; rfl
  rw [e1] at rp
  exact nOf_new r' u' np (kk := .lst ((L.map (·.2)).map fun l => Dt.tup (l.map Dt.int))) ⟨_, rfl, rp⟩ (q (L.map (·.2)) h1 (List.pairwise_map.mpr h2)) k
end
section
variable {am : Am} {F0 H0 : Hp} {X : Cx} {a b e o : Expr} {te ta tb tk tv : VTE} {pos : Pos}
theorem Rel.laid {c : Fc} {F H : Hp} {σ : L2.St} {env : Ev} {n : Nat} {p : Addr} (r : Rel c F H σ env n) (np : H p = none) (o : HO) : Rel (c.wth p o) F (upd H p o) σ env n ∧ c.H0 p = none ∧ c.F0 p = none ∧ ¬ c.am.sp p := by
  obtain ⟨h0, ns, nf⟩ := r.new0 np
  refine ⟨(r.lay np o).push upd_same nf ns fun j k' e z => ?_, h0, ?_, ns⟩
  · obtain ⟨a2, o2, g1, _, _, _, g5, _⟩ := r.sl j _ e
    rw [g1] at z
    cases z
    rw [g5] at np
    cases np
  · cases e : c.F0 p with
    | none => rfl
    | some o => rw [r.up0 p o e] at nf; cases nf
/-- a kept thing is written, and is new -/
theorem nOf_wth {σ : L2.St} {H F F1 : Hp} {env : Ev} {n : Nat} {p : Addr} {o o' : HO} {kk : Con} {Q : Con → Ev → Nat → Prop} {R : VK} {c : Fc} (nto : NT o) (r : Rel (c.wth p o) F H σ env n) (h0 : c.H0 p = none) (hF0 : c.F0 p = none) (ns : ¬ c.am.sp p) (u : Up F1 F) (w : OwOk F p o' kk) (q : Q kk env n)
    (k : ∀ a o H' F' kk env' n', Rel c F' H' σ env' n' → Up F1 F' → F' a = none → c.H0 a = none → ¬ c.am.sp a → H' a = some o → OwOk F' a o kk → (∀ (j : Nat) k', env'[j]? = some (.ow k') → σ[j]? ≠ some (some (.ref a))) → Q kk env' n' → R (.ref a) H') (nf : ∀ oc x, o ≠ .frz oc (.own x) := by intro _ _ z; cases z) : R (.ref p) (upd H p o') := by
  obtain ⟨r7, eD, fD, nD7⟩ := Rel.pop nto r h0 hF0 ns
  have r8 : Rel c F (upd H p o') σ env n := by
    refine ⟨fun b o e => ?_, r7.spf, r7.amb' (fun b hb => upd_ne fun z => ns (z ▸ hb)) (codeK_upd fun oc x z => nf oc x (by rw [eD] at z; exact Option.some.inj z)), r7.up0, r7.out0, fun b o e nb => ?_, r7.len, fun j s e => ?_, r7.apart⟩
    · rw [upd_ne fun z => by rw [z, fD] at e; cases e]; exact r7.sub b o e
    · rw [upd_ne fun z => by rw [z, h0] at e; cases e]; exact r7.keep0 b o e nb
    · have q := r7.sl j s e
      cases s with
      | no => trivial
      | fz d => exact q
      | ow kk =>
        obtain ⟨a, o, g1, g2, g3, g4, g5, g6⟩ := q
        exact ⟨a, o, g1, g2, g3, g4, by rw [upd_ne fun z => nD7 j kk e (by rw [g1, z])]; exact g5, g6⟩
  exact k p o' _ F kk env n r8 u fD h0 ns upd_same w nD7 q
/-- {k: v}, k a tuple; k a number or a text -/
def vDispT (tk tv : VTE) : VTN := fun env n Q => tk env n fun d env1 n1 => tv env1 n1 fun z env2 n2 => ∃ k, d = tupD k ∧ Q (.dT [(k, z)]) env2 n2
theorem vn_dispT {ke ve : Expr} (hu : X.A.units + 1 < cLine) (hk : ∀ F0 H0, PE X ke (tOf ⟨am, F0, H0⟩ tk)) (hv : ∀ F0 H0, PE X ve (tOf ⟨am, F0, H0⟩ tv)) : PE X (.Dict [some ke] [ve] pos) (nOf ⟨am, F0, H0⟩ (vDispT tk tv)) :=
  PE.imp (pe_dispT (tk := fun σ H R => ∃ F0 H0, tOf ⟨am, F0, H0⟩ tk σ H R) (tv := fun σ H R => ∃ F0 H0, tOf ⟨am, F0, H0⟩ tv σ H R) hu
    ⟨fun pins s σ H Q I ⟨F0, H0, q⟩ => (hk F0 H0).run pins s σ H Q I q⟩ ⟨fun pins s σ H Q I ⟨F0, H0, q⟩ => (hv F0 H0).run pins s σ H Q I q⟩) fun σ H R ⟨F, env, n, Q, rr, q, k⟩ p np => by
  obtain ⟨r1, h0, hF0, ns⟩ := rr.laid np (.dT [])
  refine ⟨F0, upd H0 p (.dT []), F, env, n, _, r1, q, fun x H2 F2 d env2 n2 r2 u2 p2 q2 => ⟨F0, upd H0 p (.dT []), F2, env2, n2, _, r2, q2, fun y H3 F3 z env3 n3 r3 u3 p3 q3 => ?_⟩⟩
  obtain ⟨kk, rfl, q3⟩ := q3
  obtain ⟨bb, rfl, hb⟩ := (p2.up u3).tupk
  obtain ⟨r7, eD, _, _⟩ := Rel.pop (c := ⟨am, F0, H0⟩) (fun _ z => by cases z) r3 h0 hF0 ns
  exact ⟨bb, kk, rfl, r3.sub _ _ hb, eD, nOf_wth (c := ⟨am, F0, H0⟩) (fun _ z => by cases z) r3 h0 hF0 ns (u2.trans u3) (kk := .dT [(kk, z)]) ⟨[(kk, y)], rfl, .cons ⟨rfl, p3⟩ .nil⟩ q3 k⟩
def vDispK (tk tv : VTE) : VTN := fun env n Q => tk env n fun d env1 n1 => tv env1 n1 fun z env2 n2 => ∃ k, d = keyD k ∧ Q (.dK [(k, z)]) env2 n2
theorem vn_dispK {ke ve : Expr} (hk : ∀ F0 H0, PE X ke (tOf ⟨am, F0, H0⟩ tk)) (hv : ∀ F0 H0, PE X ve (tOf ⟨am, F0, H0⟩ tv)) : PE X (.Dict [some ke] [ve] pos) (nOf ⟨am, F0, H0⟩ (vDispK tk tv)) :=
  PE.imp (pe_disp (pps_cons (tk := fun σ H R => ∃ F0 H0, tOf ⟨am, F0, H0⟩ tk σ H R) (tv := fun σ H R => ∃ F0 H0, tOf ⟨am, F0, H0⟩ tv σ H R) ⟨fun pins s σ H Q I ⟨F0, H0, q⟩ => (hk F0 H0).run pins s σ H Q I q⟩ ⟨fun pins s σ H Q I ⟨F0, H0, q⟩ => (hv F0 H0).run pins s σ H Q I q⟩ pps_nil) rfl rfl (by simp) (by simp)) fun σ H R ⟨F, env, n, Q, rr, q, k⟩ p np => by
  obtain ⟨r1, h0, hF0, ns⟩ := rr.laid np (.dK [])
  refine ⟨F0, upd H0 p (.dK []), F, env, n, _, r1, q, fun x H2 F2 d env2 n2 r2 u2 p2 q2 => ⟨F0, upd H0 p (.dK []), F2, env2, n2, _, r2, q2, fun y H3 F3 z env3 n3 r3 u3 p3 q3 => ?_⟩⟩
  obtain ⟨kk, rfl, q3⟩ := q3
  rw [p2.key]
  obtain ⟨r7, eD, _, _⟩ := Rel.pop (c := ⟨am, F0, H0⟩) (fun _ z => by cases z) r3 h0 hF0 ns
  refine ⟨eD, [(kk, y)], rfl, by simp, ?_⟩
  have em : mergeK [] [(kk, y)] = [(kk, y)] := by simp [mergeK, putK]
  rw [em]
  exact nOf_wth (c := ⟨am, F0, H0⟩) (fun _ z => by cases z) r3 h0 hF0 ns (u2.trans u3) (kk := .dK [(kk, z)]) ⟨[(kk, y)], rfl, .cons ⟨rfl, p3⟩ .nil⟩ q3 k
end
section
variable {c : Fc} {X : Cx} {a b e o : Expr} {es : List Expr} {te ta tb : VTE} {tas : VTA} {tn : VTN} {pos apos cpos p : Pos}
/-- s.add(k) -/
def vSAddW (w : World) (i : Nat) (te : VTE) : VTE := fun env n Q => (∃ S m, env[i]? = some (.ow (.set w S m))) ∧ te env n fun d env1 n1 => ∃ S m, ∃ k : Int, env1[i]? = some (.ow (.set w S m)) ∧ d = .int k ∧ m ≤ 1000 ∧ Q .non (env1.set i (.ow (.set w (fun j => S j || decide (j = k)) (if S k = true then m else m + 1)))) n1
theorem ve_sadd0 {i : Nat} (ho : PE X o (tVar i)) (ha : PE X e (tOf c te))
    (hbase : attributeBase o "add" X.env (eval o X.env) = eval o X.env := by rfl)
    (hfew : ((backTo cpos (starEach [e] X.env)).all (fun x => !x.1) && (backToKw cpos (keywordEach [] X.env)).all (fun x => x.1.isSome)
      && decide (([e] : List Expr).length + ([] : List Keyword).length + (if ([] : List Keyword).isEmpty then 0 else 1) < 30)) = true := by rfl)
    (hline : (apos.endLine == cpos.line) = true := by rfl) (hs : starEach [e] X.env = (false, eval e X.env) :: starEach [] X.env := by rfl) (hplain : (backTo cpos (starEach [] X.env)).any (·.1) = false := by rfl) :
    PE X (.Call (.Attribute o "add" apos) [e] [] cpos) (tOf c (vSAddW X.w i te)) := PE.imp (pe_sadd ho (pa_cons ha pa_nil hs) hbase hfew hline hs hplain) fun σ H R ⟨F, env, n, Q, rr, ⟨⟨S, m, e0⟩, h⟩, k⟩ => by
  obtain ⟨a, o, g1, g5, ow⟩ := rr.slotA e0
  have ow' : o = SetO X.w a S m := ow
  subst ow'
  refine ⟨_, g1, ⟨a, S, m, rfl, g5⟩, F, env, n, _, rr, h, fun v H1 F1 d env1 n1 r1 u1 p1 q1 => ?_⟩
  obtain ⟨S1, m1, kk, e1, rfl, hm, q1⟩ := q1
  obtain ⟨a2, o2, g2, g6, ow2⟩ := r1.slotA e1
  have ow2' : o2 = SetO X.w a2 S1 m1 := ow2
  subst ow2'
  rw [g1] at g2
  cases g2
  rw [p1.int_inv]
  exact ⟨a, kk, S1, m1, rfl, rfl, g6, by unfold scanBound; omega, k _ _ F1 _ _ n1 (r1.write (k' := .set X.w (fun j => S1 j || decide (j = kk)) (if S1 kk = true then m1 else m1 + 1)) e1 g1 rfl) u1 .non q1⟩
/-- k in s, k not in s -/
def vSIn (w : World) (neg : Bool) (i : Nat) (te : VTE) : VTE := fun env n Q => te env n fun d env1 n1 => ∃ S m, ∃ k : Int, env1[i]? = some (.ow (.set w S m)) ∧ d = .int k ∧ Q (.bl (if neg then !S k else S k)) env1 n1
theorem snotin_of {i : Nat} {w : World} {σ : L2.St} {H : Hp} {R : VK} (h : tOf c (vSIn w true i te) σ H R) : tOp (rSNotIn w) (tOf c te) (tVar i) σ H R := by
  obtain ⟨F, env, n, Q, rr, h, k⟩ := h
  refine ⟨F, env, n, _, rr, h, fun y H1 F1 d env1 n1 r1 u1 p1 q1 => ?_⟩
  obtain ⟨S, m, kk, e1, rfl, q1⟩ := q1
  obtain ⟨a2, o2, g2, g6, ow2⟩ := r1.slotA e1
  have ow2' : o2 = SetO w a2 S m := ow2
  subst ow2'
  exact ⟨_, g2, kk, a2, S, m, p1.int_inv, rfl, g6, k _ H1 F1 _ env1 n1 r1 u1 (.bl _) q1⟩
theorem vt_snotin0 {i : Nat} (ha : PE X a (tOf c te)) (hb : PE X b (tVar i)) (hm : behindInMarks .NotIn b = false) : PT X (.Compare a [.NotIn] [b] pos) (cOf c (vB (vSIn X.w true i te))) := PT.imp (pt_cmpR or_snotin ha hb hm) fun _ _ _ => test_of snotin_of
/-- set(xs) -/
def dSetI (w : World) : RCN := fun ds Q => ∃ ns : List Int, ds = [.lst (ns.map Dt.int)] ∧ ns.length ≤ 1000 ∧ ∀ m, m ≤ ns.length → Q (.set w (fun j => decide (j ∈ ns)) m)
theorem lft_setI {K : PySem.W.Frag} {w : World} : LftN (rSetI K w) (dSetI w) := fun F H vs ds Q R u rp ⟨ns, h, hl, q⟩ k => by
  subst h
  obtain ⟨v, rfl, p⟩ := rp.one
  obtain ⟨a, xs, rfl, hF, rx⟩ := p.lst_inv
  rw [rx.of_ints] at hF
  exact ⟨a, ns, rfl, .inl (.inl (u _ _ hF)), hl, fun b m np hm => k b _ (.set w (fun j => decide (j ∈ ns)) m) np rfl (q m hm)⟩
/-- sorted(a set just made) -/
def vSortS (w : World) (tn : VTN) : VTN := fun env n Q => tn env n fun k env1 n1 => ∃ S m, k = .set w S m ∧ m < 64 ∧ ∀ ns : List Int, ns.Pairwise (· < ·) → (∀ j : Int, j ∈ ns ↔ S j = true) → ns.length = m → Q (.lst (ns.map Dt.int)) env1 n1
theorem vn_sortS0 {p : Pos} (hc : X.calm = true) (hg : Gl X "sorted") (hm : X.mg "sorted" = none) (ho : PE X o (nOf c tn)) (he : starEach [o] X.env = (false, eval o X.env) :: starEach [] X.env := by rfl) (hpl : (backTo pos (starEach [] X.env)).any (·.1) = false := by rfl) :
    PE X (.Call (.Name "sorted" p) [o] [] pos) (nOf c (vSortS X.w tn)) := PE.imp (pe_callB (cr_sortedSet hc) hg hm (by decide +kernel) (pa_cons ho pa_nil he) (by decide) (by decide) he hpl) fun σ H R ⟨F, env, n, Q, rr, h, k⟩ => by
  refine ⟨F, env, n, _, rr, h, fun a o H' F' kk env' n' r' u hF h0 ns hH w ha q => ?_⟩
  obtain ⟨S, m, rfl, hlt, q⟩ := q
  have w' : o = SetO X.w a S m := w
  subst w'
  exact ⟨a, S, m, rfl, hH, hlt, fun ns p h1 h2 h3 np => nOf_new r' u np (kk := .lst (ns.map Dt.int)) ⟨_, rfl, Rps.ints ns⟩ (q ns h1 h2 h3) k⟩
theorem cr_setW (w : World) (hw : X.w = w) (hc : X.calm = true) : CallR X (.type "set") (rSetI X.K w) := hw ▸ cr_setI hc
theorem ve_sadd {i : Nat} (w : World) (hw : X.w = w) (ho : PE X o (tVar i)) (ha : PE X e (tOf c te))
    (hbase : attributeBase o "add" X.env (eval o X.env) = eval o X.env := by rfl)
    (hfew : ((backTo cpos (starEach [e] X.env)).all (fun x => !x.1) && (backToKw cpos (keywordEach [] X.env)).all (fun x => x.1.isSome)
      && decide (([e] : List Expr).length + ([] : List Keyword).length + (if ([] : List Keyword).isEmpty then 0 else 1) < 30)) = true := by rfl)
    (hline : (apos.endLine == cpos.line) = true := by rfl) (hs : starEach [e] X.env = (false, eval e X.env) :: starEach [] X.env := by rfl) (hplain : (backTo cpos (starEach [] X.env)).any (·.1) = false := by rfl) :
    PE X (.Call (.Attribute o "add" apos) [e] [] cpos) (tOf c (vSAddW w i te)) := by
  subst hw
  exact ve_sadd0 ho ha hbase hfew hline hs hplain
theorem vt_snotin {i : Nat} (w : World) (hw : X.w = w) (ha : PE X a (tOf c te)) (hb : PE X b (tVar i)) (hm : behindInMarks .NotIn b = false) : PT X (.Compare a [.NotIn] [b] pos) (cOf c (vB (vSIn w true i te))) := by
  subst hw
  exact vt_snotin0 ha hb hm
theorem vn_sortS {p : Pos} (w : World) (hw : X.w = w) (hc : X.calm = true) (hg : Gl X "sorted") (hm : X.mg "sorted" = none) (ho : PE X o (nOf c tn)) (he : starEach [o] X.env = (false, eval o X.env) :: starEach [] X.env := by rfl) (hpl : (backTo pos (starEach [] X.env)).any (·.1) = false := by rfl) :
    PE X (.Call (.Name "sorted" p) [o] [] pos) (nOf c (vSortS w tn)) := by
  subst hw
  exact vn_sortS0 hc hg hm ho he hpl
end
end VL
namespace VL
open PySem PySem.Spec PyProof.Rows L2 HM
section
variable {c : Fc} {X : Cx} {a b d e o : Expr} {es : List Expr} {te ta tb tc : VTE} {tas : VTA} {tn : VTN} {pos apos cpos p : Pos} {x : Str}
/-- int(truth) -/
def dIntB : RCD := fun ds Q => ∃ b, ds = [.bl b] ∧ Q (.int (if b then 1 else 0))
theorem lft_intB : LftC (fun xs H Q => (∃ i, xs = [.int i] ∧ Q (.int i) H) ∨ ∃ k, xs = [.bl k] ∧ Q (.int (if k then 1 else 0)) H) dIntB := fun F H vs ds Q R u rp ⟨i, h, q⟩ k => by
  subst h
  obtain ⟨v, rfl, p⟩ := rp.one
  rw [p.bl_inv]
  exact .inr ⟨i, rfl, k _ _ (.int _) q⟩
theorem ve_intB (hg : Gl X "int") (hm : X.mg "int" = none) (h : PE X a (tOf c ta)) (he : starEach [a] X.env = (false, eval a X.env) :: starEach [] X.env := by rfl) (hpl : (backTo pos (starEach [] X.env)).any (·.1) = false := by rfl) : PE X (.Call (.Name "int" p) [a] [] pos) (tOf c (vCB dIntB (vCons ta vNil))) := ve_tyC call_int1 lft_intB hg hm (by decide +kernel) (va_cons h va_nil he) (by decide) (by decide) he hpl
theorem ve_m {i : Nat} {r : RM} {m : RMD} (h : PE X e (tBM X.K "list" r (tVar i) (aOf c tas))) (L : LftM r m) : PE X e (tOf c (vM i m tas)) := PE.imp h fun _ _ _ => m_of L
theorem ve_m0 {i : Nat} {r : RM} {m : RMD} (h : PE X e (tBM0 X.K "list" r (tVar i))) (L : LftM r m) : PE X e (tOf c (vM i m vNil)) := PE.imp h fun _ _ _ => m0_of L
/-- x = a new list, which is still from then on -/
def vSetF (i : Nat) (tn : VTN) : VTS := fun V env n => tn env n fun k env1 n1 => ∃ ds, k = .lst ds ∧ V.nx (env1.set i (.fz (.lst ds))) n1
theorem Rel.frzNew {F H : Hp} {σ : L2.St} {env : Ev} {n : Nat} {a : Addr} {xs : List V} {ds : List Dt} (r : Rel c F H σ env n) (hF : F a = none) (h0 : c.H0 a = none) (ns : ¬ c.am.sp a) (hH : H a = some (.lst xs)) (rx : Rps F xs ds) (ha : ∀ (j : Nat) k', env[j]? = some (.ow k') → σ[j]? ≠ some (some (.ref a))) :
    Rel c (upd F a (.lst xs)) H σ env n ∧ Rp (upd F a (.lst xs)) (.ref a) (.lst ds) := by
  refine ⟨⟨fun b ob e => ?_, fun b hb => ?_, r.ambU (up_lay hF), r.up0.trans (up_lay hF), fun b ob h1 nt h2 => ?_, r.keep0, r.len, fun i s e => ?_, r.apart⟩, .lst upd_same (rx.up (up_lay hF))⟩
  · by_cases z : b = a
    · subst z; rw [upd_same] at e; cases e; exact hH
    · rw [upd_ne z] at e; exact r.sub b ob e
  · rw [upd_ne (fun (z : b = a) => ns (by rw [← z]; exact hb))]; exact r.spf b hb
  · rw [upd_ne (fun (z : b = a) => by rw [z, h0] at h1; cases h1)]; exact r.out0 b ob h1 nt h2
  · have q := r.sl i s e
    cases s with
    | no => trivial
    | fz d => exact let ⟨v, g1, g2⟩ := q; ⟨v, g1, g2.up (up_lay hF)⟩
    | ow kk =>
      obtain ⟨a2, o2, g1, g2, g3, g4, g5, g6⟩ := q
      refine ⟨a2, o2, g1, ?_, g3, g4, g5, g6.up (up_lay hF)⟩
      rw [upd_ne fun z2 => ha i kk e (by rw [g1, z2])]
      exact g2
theorem setF_of {i : Nat} {σ : L2.St} {H : Hp} {D : Ends} (h : sOf c (vSetF i tn) D σ H) : tAsg (nOf c tn) (gName i) D σ H := by
  obtain ⟨F, env, n, V, r, q, k⟩ := h
  refine ⟨F, env, n, _, r, q, fun a o H' F' kk env' n' r' w hF h0 ns hH ow ha qd => ?_⟩
  obtain ⟨ds, rfl, qd⟩ := qd
  obtain ⟨xs, rfl, rx⟩ := ow
  obtain ⟨r2, rp⟩ := r'.frzNew hF h0 ns hH rx ha
  exact k.nx _ H' _ _ n' (r2.setF rp) (w.trans (up_lay hF)) qd
end
section
variable {am : Am} {F0 H0 : Hp} {X : Cx}
theorem vs_setLcF {i : Nat} {y : Str} {py : Pos} {elt tg iter : Expr} {ifs : List Expr} {scope : Scope} {own : List (Str × Nat)} {pos spos : Pos} {wi : VTI} {g : TG} {gv : VTG} {tt : VTT} {te : VTE} (hc : X.calm = true) (hN : X.N.Nodup) (hy : X.N[i]? = some y) (hyl : X.env.scope.names.lookup y = some .local)
    (hsw : swapsWith (.ListComp elt [⟨tg, iter, ifs, 0⟩] scope pos) (some (.Name y py)) spos.line X.env = pure true) (hi : PI X tg iter (iOf ⟨am, F0, H0⟩ wi)) (ok : BlkOk X.N X.env.scope scope own) (hgk : TgOk g gv (own.map (·.2)))
    (hg : ∀ (s : Shared) (H : Hp) (C : Addr) (cl : List (Str × Addr)) (fp : List Addr), PG (X.blk s H scope (compEnvC scope cl C X.env) fp) tg g)
    (ht : ∀ (F0 H0 : Hp) (s : Shared) (H : Hp) (C : Addr) (cl : List (Str × Addr)) (fp : List Addr), PTs (X.blk s H scope (compEnvC scope cl C X.env) fp) ifs (cOf ⟨am, F0, H0⟩ tt))
    (he : ∀ (F0 H0 : Hp) (s : Shared) (H : Hp) (C : Addr) (cl : List (Str × Addr)) (fp : List Addr), PE (X.blk s H scope (compEnvC scope cl C X.env) fp) elt (tOf ⟨am, F0, H0⟩ te)) (hs : ∀ x, foldedSetIterable iter X.env x = pure x := by intro _; rfl) :
    PS X (.Assign [.Name y py] (.ListComp elt [⟨tg, iter, ifs, 0⟩] scope pos) spos) (sOf ⟨am, F0, H0⟩ (vSetF i (vLc wi gv tt te (own.map (·.2))))) :=
  PS.imp (ps_setLc (tt := fun σ H R => ∃ F0 H0, cOf ⟨am, F0, H0⟩ tt σ H R) (te := fun σ H R => ∃ F0 H0, tOf ⟨am, F0, H0⟩ te σ H R) hc hN hy hyl hsw hi ok hg
    (fun s H C cl fp => ⟨fun pins s' σ H' Q I ⟨F0, H0, q⟩ => (ht F0 H0 s H C cl fp).run pins s' σ H' Q I q⟩) (fun s H C cl fp => ⟨fun pins s' σ H' Q I ⟨F0, H0, q⟩ => (he F0 H0 s H C cl fp).run pins s' σ H' Q I q⟩) hs)
    fun D σ H h => by
      have h2 := setF_of h
      exact lc_of hgk (fun F0 H0 _ _ _ q => ⟨F0, H0, q⟩) (fun F0 H0 _ _ _ q => ⟨F0, H0, q⟩) h2
end
end VL
namespace VL
open PySem PySem.Spec PyProof.Rows L2 HM
mutual
def pl : Dt → Bool
  | .int _ => true
  | .lst ds => pls ds
  | .tup ds => pls ds
  | _ => false
def pls : List Dt → Bool
  | [] => true
  | d :: ds => pl d && pls ds
end
mutual
def dep : Dt → Nat
  | .lst ds => deps ds + 1
  | .tup ds => deps ds + 1
  | .tuP ds => deps ds + 1
  | _ => 0
def deps : List Dt → Nat
  | [] => 0
  | d :: ds => max (dep d) (deps ds)
end
mutual
theorem pl_isPy : ∀ {d : Dt}, pl d = true → isPy d = true
  | .int _, _ => rfl
  | .lst ds, h => pls_isPy (ds := ds) h
  | .tup ds, h => pls_isPy (ds := ds) h
  | .non, h => by cases h
  | .bl _, h => by cases h
  | .str _, h => by cases h
  | .ty _, h => by cases h
  | .obj _, h => by cases h
  | .dic _ _, h => by cases h
  | .dik _ _, h => by cases h
  | .tuP _, h => by cases h
theorem pls_isPy : ∀ {ds : List Dt}, pls ds = true → isPys ds = true
  | [], _ => rfl
  | d :: ds, h => by
    have h' : (pl d && pls ds) = true := h
    rw [Bool.and_eq_true] at h'
    show (isPy d && isPys ds) = true
    rw [pl_isPy h'.1, pls_isPy h'.2]
    rfl
end
mutual
theorem pl_lay : ∀ {d : Dt}, pl d = true → (py d).canLay0 = true ∧ (py d).depth = dep d
  | .int _, _ => ⟨rfl, rfl⟩
  | .lst ds, h => by
    obtain ⟨h1, h2⟩ := pls_lay (ds := ds) h
    exact ⟨h1, by show PyData.depthAll (pys ds) + 1 = deps ds + 1; rw [h2]⟩
  | .tup ds, h => by
    obtain ⟨h1, h2⟩ := pls_lay (ds := ds) h
    exact ⟨h1, by show PyData.depthAll (pys ds) + 1 = deps ds + 1; rw [h2]⟩
  | .non, h => by cases h
  | .bl _, h => by cases h
  | .str _, h => by cases h
  | .ty _, h => by cases h
  | .obj _, h => by cases h
  | .dic _ _, h => by cases h
  | .dik _ _, h => by cases h
  | .tuP _, h => by cases h
theorem pls_lay : ∀ {ds : List Dt}, pls ds = true → PyData.canLayAll0 (pys ds) = true ∧ PyData.depthAll (pys ds) = deps ds
  | [], _ => ⟨rfl, rfl⟩
  | d :: ds, h => by
    have h' : (pl d && pls ds) = true := h
    rw [Bool.and_eq_true] at h'
    obtain ⟨a1, a2⟩ := pl_lay h'.1
    obtain ⟨b1, b2⟩ := pls_lay h'.2
    refine ⟨?_, ?_⟩
    · show ((py d).canLay0 && PyData.canLayAll0 (pys ds)) = true
      rw [a1, b1]
      rfl
    · show max (py d).depth (PyData.depthAll (pys ds)) = max (dep d) (deps ds)
      rw [a2, b2]
end
theorem pl_shaped {d : Dt} (h : pl d = true) (hd : dep d ≤ 64) : SeqAt.shaped (py d) = true := by
  obtain ⟨a1, a2⟩ := pl_lay h
  show ((py d).canLay0 && decide ((py d).depth ≤ 64)) = true
  rw [a1, a2, decide_eq_true hd]
  rfl
mutual
theorem pl_eqv : ∀ {d e : Dt}, pl d = true → pl e = true → (PyData.eqv (py d) (py e) = true ↔ d = e)
  | .int i, .int j, _, _ => by
    show PyData.eqv (.int i) (.int j) = true ↔ _
    have e : PyData.eqv (.int i) (.int j) = (i == j) := by simp [PyData.eqv]
    rw [e, beq_iff_eq]
    exact ⟨fun h => by rw [h], fun h => by injection h⟩
  | .int i, .lst es, _, _ => by
    have e : PyData.eqv (py (.int i)) (py (.lst es)) = false := by simp [py, PyData.eqv]
    rw [e]
    exact ⟨(fun h => nomatch h), (fun h => nomatch h)⟩
  | .int i, .tup es, _, _ => by
    have e : PyData.eqv (py (.int i)) (py (.tup es)) = false := by simp [py, PyData.eqv]
    rw [e]
    exact ⟨(fun h => nomatch h), (fun h => nomatch h)⟩
  | .lst ds, .int i, _, _ => by
    have e : PyData.eqv (py (.lst ds)) (py (.int i)) = false := by simp [py, PyData.eqv]
    rw [e]
    exact ⟨(fun h => nomatch h), (fun h => nomatch h)⟩
  | .tup ds, .int i, _, _ => by
    have e : PyData.eqv (py (.tup ds)) (py (.int i)) = false := by simp [py, PyData.eqv]
    rw [e]
    exact ⟨(fun h => nomatch h), (fun h => nomatch h)⟩
  | .lst ds, .tup es, _, _ => by
    have e : PyData.eqv (py (.lst ds)) (py (.tup es)) = false := by simp [py, PyData.eqv]
    rw [e]
    exact ⟨(fun h => nomatch h), (fun h => nomatch h)⟩
  | .tup ds, .lst es, _, _ => by
    have e : PyData.eqv (py (.tup ds)) (py (.lst es)) = false := by simp [py, PyData.eqv]
    rw [e]
    exact ⟨(fun h => nomatch h), (fun h => nomatch h)⟩
  | .lst ds, .lst es, h1, h2 => by
    have e : PyData.eqv (py (.lst ds)) (py (.lst es)) = PyData.eqvAll (pys ds) (pys es) := by simp [py, PyData.eqv]
    rw [e, pls_eqv (ds := ds) (es := es) h1 h2]
    exact ⟨fun h => by rw [h], fun h => by injection h⟩
  | .tup ds, .tup es, h1, h2 => by
    have e : PyData.eqv (py (.tup ds)) (py (.tup es)) = PyData.eqvAll (pys ds) (pys es) := by simp [py, PyData.eqv]
    rw [e, pls_eqv (ds := ds) (es := es) h1 h2]
    exact ⟨fun h => by rw [h], fun h => by injection h⟩
  | .non, _, h, _ => by cases h
  | .bl _, _, h, _ => by cases h
  | .str _, _, h, _ => by cases h
  | .ty _, _, h, _ => by cases h
  | .obj _, _, h, _ => by cases h
  | .dic _ _, _, h, _ => by cases h
  | .dik _ _, _, h, _ => by cases h
  | .tuP _, _, h, _ => by cases h
  | _, .non, _, h => by cases h
  | _, .bl _, _, h => by cases h
  | _, .str _, _, h => by cases h
  | _, .ty _, _, h => by cases h
  | _, .obj _, _, h => by cases h
  | _, .dic _ _, _, h => by cases h
  | _, .dik _ _, _, h => by cases h
  | _, .tuP _, _, h => by cases h
theorem pls_eqv : ∀ {ds es : List Dt}, pls ds = true → pls es = true → (PyData.eqvAll (pys ds) (pys es) = true ↔ ds = es)
  | [], [], _, _ => by simp [pys, PyData.eqvAll]
  | [], e :: es, _, _ => by simp [pys, PyData.eqvAll]
  | d :: ds, [], _, _ => by simp [pys, PyData.eqvAll]
  | d :: ds, e :: es, h1, h2 => by
    have h1' : (pl d && pls ds) = true := h1
    have h2' : (pl e && pls es) = true := h2
    rw [Bool.and_eq_true] at h1' h2'
    have z : PyData.eqvAll (pys (d :: ds)) (pys (e :: es)) = (PyData.eqv (py d) (py e) && PyData.eqvAll (pys ds) (pys es)) := by simp [pys, PyData.eqvAll]
    rw [z, Bool.and_eq_true, pl_eqv h1'.1 h2'.1, pls_eqv h1'.2 h2'.2, List.cons.injEq]
end
theorem dEqD_pl {x y : Dt} {Q : Dt → Prop} (px : pl x = true) (qy : pl y = true) (dx : dep x ≤ 64) (dy : dep y ≤ 64) (h : ∀ b : Bool, (b = true ↔ x = y) → Q (.bl b)) : dEqD x y Q :=
  ⟨pl_isPy px, pl_isPy qy, pl_shaped px dx, pl_shaped qy dy, h _ (pl_eqv px qy)⟩
theorem dNeD_pl {x y : Dt} {Q : Dt → Prop} (px : pl x = true) (qy : pl y = true) (dx : dep x ≤ 64) (dy : dep y ≤ 64) (h : ∀ b : Bool, (b = true ↔ x ≠ y) → Q (.bl b)) : dNeD x y Q :=
  ⟨pl_isPy px, pl_isPy qy, pl_shaped px dx, pl_shaped qy dy, h _ (by
    have := pl_eqv px qy
    cases e : PyData.eqv (py x) (py y) with
    | true => rw [e] at this; simp [this.mp rfl]
    | false =>
      rw [e] at this
      have hn : x ≠ y := fun z => by have := this.mpr z; cases this
      simp [hn])⟩
theorem pls_map {α : Type} {f : α → Dt} (h : ∀ a, pl (f a) = true) : ∀ l : List α, pls (l.map f) = true
  | [] => rfl
  | a :: l => by
    show (pl (f a) && pls (l.map f)) = true
    rw [h a, pls_map h l]
    rfl
theorem deps_map {α : Type} {f : α → Dt} {k : Nat} (h : ∀ a, dep (f a) ≤ k) : ∀ l : List α, deps (l.map f) ≤ k
  | [] => Nat.zero_le _
  | a :: l => Nat.max_le.mpr ⟨h a, deps_map h l⟩
end VL
namespace VL
open PySem PySem.Spec PyProof.Rows L2 HM
theorem wipeE_at (env : Ev) (i : Nat) : ∀ vs : List Nat, (wipeE env vs)[i]? = if i ∈ vs ∧ i < env.length then some .no else env[i]?
  | [] => by simp [wipeE]
  | v :: vs => by
    unfold wipeE
    by_cases z : i = v
    · subst z
      by_cases hl : i < env.length
      · rw [List.getElem?_set_self (by rw [wipeE_length]; exact hl), if_pos ⟨by simp, hl⟩]
      · rw [if_neg (fun h => hl h.2), List.getElem?_eq_none (by rw [List.length_set, wipeE_length]; omega), List.getElem?_eq_none (by omega)]
    · rw [List.getElem?_set_ne (Ne.symm z), wipeE_at env i vs]
      simp [z]
theorem wipeE_set {env : Ev} {i : Nat} {x : Sl} {vs : List Nat} (h : i ∈ vs) : wipeE (env.set i x) vs = wipeE env vs := by
  refine List.ext_getElem? fun j => ?_
  rw [wipeE_at, wipeE_at, List.length_set]
  by_cases z : j = i
  · subst z
    by_cases hl : j < env.length
    · rw [if_pos ⟨h, hl⟩, if_pos ⟨h, hl⟩]
    · rw [if_neg (fun q => hl q.2), if_neg (fun q => hl q.2), List.getElem?_eq_none (by rw [List.length_set]; omega), List.getElem?_eq_none (by omega)]
  · rw [List.getElem?_set_ne (Ne.symm z)]
theorem wipeE_idem (env : Ev) (vs : List Nat) : wipeE (wipeE env vs) vs = wipeE env vs := by
  refine List.ext_getElem? fun j => ?_
  rw [wipeE_at, wipeE_length, wipeE_at]
  by_cases h : j ∈ vs ∧ j < env.length
  · rw [if_pos h, if_pos h]
  · rw [if_neg h, if_neg h]
theorem restE_at (env1 env : Ev) (i : Nat) : ∀ vs : List Nat, (restE env1 env vs)[i]? = if i ∈ vs ∧ i < env.length then some (env1.getD i .no) else env[i]?
  | [] => by simp [restE]
  | v :: vs => by
    unfold restE
    by_cases z : i = v
    · subst z
      by_cases hl : i < env.length
      · rw [List.getElem?_set_self (by rw [restE_length]; exact hl), if_pos ⟨by simp, hl⟩]
      · rw [if_neg (fun h => hl h.2), List.getElem?_eq_none (by rw [List.length_set, restE_length]; omega), List.getElem?_eq_none (by omega)]
    · rw [List.getElem?_set_ne (Ne.symm z), restE_at env1 env i vs]
      simp [z]
theorem rest_wipe (env : Ev) (vs : List Nat) : restE env (wipeE env vs) vs = env := by
  refine List.ext_getElem? fun j => ?_
  rw [restE_at, wipeE_length, wipeE_at]
  by_cases h : j ∈ vs ∧ j < env.length
  · rw [if_pos h, List.getD_eq_getElem?_getD, List.getElem?_eq_getElem h.2]
    rfl
  · rw [if_neg h, if_neg h]
/-- [e for x in xs], e without draws: by what e is at each place -/
theorem lc_map {te : VTE} {vs : List Nat} {xs : List Dt} {env1 : Ev} {n1 : Nat} {Q : Con → Ev → Nat → Prop} {i : Nat} (f : Nat → Dt) (hi : i ∈ vs) (no : ∀ i ∈ vs, ∀ k, env1[i]? ≠ some (.ow k)) (hl : xs.length ≤ 5000)
    (h : ∀ (j : Nat) (x : Dt), xs[j]? = some x → ∀ R : Dt → Ev → Nat → Prop, R (f j) ((wipeE env1 vs).set i (.fz x)) n1 → te ((wipeE env1 vs).set i (.fz x)) n1 R) (q : Q (.lst ((List.range xs.length).map f)) env1 n1) : LcBody (vgName i) vYes te vs xs env1 n1 Q := by
  refine ⟨no, hl, fun j acc env n => acc = (List.range j).map f ∧ env = wipeE env1 vs ∧ n = n1, ⟨rfl, rfl, rfl⟩, fun j x acc env n hx hP => ?_, fun acc env n _ hP => ?_⟩
  · obtain ⟨rfl, rfl, rfl⟩ := hP
    show te _ _ _
    refine h j x hx _ ⟨by rw [List.range_succ, List.map_append]; rfl, by rw [wipeE_set hi, wipeE_idem], rfl⟩
  · obtain ⟨rfl, rfl, rfl⟩ := hP
    rw [rest_wipe]
    exact q
/-- [e for x in xs], e by draws -/
theorem lc_any {te : VTE} {vs : List Nat} {xs : List Dt} {env1 : Ev} {n1 : Nat} {Q : Con → Ev → Nat → Prop} {i : Nat} (P : Nat → List Dt → Prop) (hi : i ∈ vs) (no : ∀ i ∈ vs, ∀ k, env1[i]? ≠ some (.ow k)) (hl : xs.length ≤ 5000) (p0 : P 0 [])
    (h : ∀ (j : Nat) (x : Dt) (acc : List Dt), xs[j]? = some x → P j acc → ∀ R : Dt → Ev → Nat → Prop, (∀ y, P (j + 1) (acc ++ [y]) → R y ((wipeE env1 vs).set i (.fz x)) n1) → te ((wipeE env1 vs).set i (.fz x)) n1 R) (q : ∀ acc, P xs.length acc → Q (.lst acc) env1 n1) : LcBody (vgName i) vYes te vs xs env1 n1 Q := by
  refine ⟨no, hl, fun j acc env n => P j acc ∧ env = wipeE env1 vs ∧ n = n1, ⟨p0, rfl, rfl⟩, fun j x acc env n hx hP => ?_, fun acc env n _ hP => ?_⟩
  · obtain ⟨hp, rfl, rfl⟩ := hP
    show te _ _ _
    refine h j x acc hx hp _ fun y hy => ⟨hy, by rw [wipeE_set hi, wipeE_idem], rfl⟩
  · obtain ⟨hp, rfl, rfl⟩ := hP
    rw [rest_wipe]
    exact q acc hp
/-- [e for a, b in xs] -/
theorem lc_map2 {te : VTE} {vs : List Nat} {xs : List Dt} {env1 : Ev} {n1 : Nat} {Q : Con → Ev → Nat → Prop} {i i2 : Nat} (f : Nat → Dt) (hi : i ∈ vs) (hi2 : i2 ∈ vs) (no : ∀ i ∈ vs, ∀ k, env1[i]? ≠ some (.ow k)) (hl : xs.length ≤ 5000)
    (h : ∀ (j : Nat) (x : Dt), xs[j]? = some x → ∃ u v, x = .tup [u, v] ∧ ∀ R : Dt → Ev → Nat → Prop, R (f j) (((wipeE env1 vs).set i (.fz u)).set i2 (.fz v)) n1 → te (((wipeE env1 vs).set i (.fz u)).set i2 (.fz v)) n1 R) (q : Q (.lst ((List.range xs.length).map f)) env1 n1) :
    LcBody (vgTup 2 (vgCons (vgName i) (vgCons (vgName i2) vgNil))) vYes te vs xs env1 n1 Q := by
  refine ⟨no, hl, fun j acc env n => acc = (List.range j).map f ∧ env = wipeE env1 vs ∧ n = n1, ⟨rfl, rfl, rfl⟩, fun j x acc env n hx hP => ?_, fun acc env n _ hP => ?_⟩
  · obtain ⟨rfl, rfl, rfl⟩ := hP
    obtain ⟨u, v, rfl, h2⟩ := h j x hx
    refine ⟨_, rfl, rfl, _, _, rfl, _, _, rfl, rfl, ?_⟩
    show te _ _ _
    refine h2 _ ⟨by rw [List.range_succ, List.map_append]; rfl, by rw [wipeE_set hi2, wipeE_set hi, wipeE_idem], rfl⟩
  · obtain ⟨rfl, rfl, rfl⟩ := hP
    rw [rest_wipe]
    exact q
theorem noOw1 {env : Ev} {i : Nat} {s : Sl} (h : env[i]? = some s) (hs : ∀ k, s ≠ .ow k) : ∀ j ∈ [i], ∀ k, env[j]? ≠ some (.ow k) := fun j hj k e => by
  rw [List.mem_singleton.mp hj, h] at e
  exact hs k (Option.some.inj e)
theorem noOw2 {env : Ev} {i j : Nat} {s s2 : Sl} (h : env[i]? = some s) (h2 : env[j]? = some s2) (hs : ∀ k, s ≠ .ow k) (hs2 : ∀ k, s2 ≠ .ow k) : ∀ j' ∈ [i, j], ∀ k, env[j']? ≠ some (.ow k) := fun j' hj k e => by
  rcases List.mem_cons.mp hj with rfl | hj
  · rw [h] at e; exact hs k (Option.some.inj e)
  · rw [List.mem_singleton.mp hj, h2] at e; exact hs2 k (Option.some.inj e)
theorem no_ow (k : Con) : Sl.no ≠ .ow k := nofun
theorem fz_ow (d : Dt) (k : Con) : Sl.fz d ≠ .ow k := nofun
theorem vseq_set {i : Nat} {te : VTE} {B : VTS} {V : VEn} {env : Ev} {n : Nat} (h : te env n fun d env1 n1 => B V (env1.set i (.fz d)) n1) : vSeq (vSet i te) B V env n := h
theorem vseq_setN {i : Nat} {tn : VTN} {B : VTS} {V : VEn} {env : Ev} {n : Nat} (h : tn env n fun k env1 n1 => B V (env1.set i (.ow k)) n1) : vSeq (vSetN i tn) B V env n := h
/-- cut: what is so behind the first row -/
theorem vcut {A B : VTS} {V : VEn} {env : Ev} {n : Nat} (M : Ev → Nat → Prop) (h1 : ∀ N : Ev → Nat → Prop, (∀ e n', M e n' → N e n') → A { V with nx := N } env n) (h2 : ∀ e n', M e n' → B V e n') : vSeq A B V env n := h1 _ h2
theorem rngD_len (lo : Int) (n : Nat) : (rngD lo n).length = n := by simp [rngD]
theorem rngD_get {lo : Int} {n i : Nat} {x : Dt} (h : (rngD lo n)[i]? = some x) : x = .int (lo + (i : Int)) ∧ i < n := by
  have hl := (List.getElem?_eq_some_iff.mp h).1
  rw [rngD_len] at hl
  unfold rngD at h
  rw [List.getElem?_map, List.getElem?_range hl] at h
  exact ⟨(Option.some.inj h).symm, hl⟩
theorem rngD_get0 {n i : Nat} {x : Dt} (h : (rngD 0 n)[i]? = some x) : x = .int (i : Int) ∧ i < n := by
  obtain ⟨h1, h2⟩ := rngD_get h
  rw [Int.zero_add] at h1
  exact ⟨h1, h2⟩
section
variable {c : Fc} {X : Cx} {es : List Expr} {e : Expr} {pos : Pos} {ds : List Dt} {d : Dt} {t t' : VTE}
theorem ve_weak (h : PE X e (tOf c t)) (w : ∀ env n Q, t' env n Q → t env n Q) : PE X e (tOf c t') := PE.imp h fun σ H R ⟨F, env, n, Q, rr, q, k⟩ => ⟨F, env, n, Q, rr, w env n Q q, k⟩
def vKs (ds : List Dt) : VTA := fun env n Q => Q ds env n
theorem ka_nil : PA X [] (aOf c (vKs [])) := va_nil
theorem ka_cons (h : PE X e (tOf c (vC d))) (hr : PA X es (aOf c (vKs ds))) (hs : starEach (e :: es) X.env = (false, eval e X.env) :: starEach es X.env := by rfl) : PA X (e :: es) (aOf c (vKs (d :: ds))) := va_cons h hr hs
theorem ve_tupK {x1} (h : PA X es (aOf c (vKs ds))) (hl : ds.length ≤ 5000) : PE X (.Tuple es x1 pos) (tOf c (vC (.tup ds))) := ve_weak (ve_tup h) fun env n Q q => ⟨hl, q⟩
theorem ve_lstK (h : PA X es (aOf c (vKs ds))) (hl : ds.length ≤ 5000) : PE X (.List es pos) (tOf c (vC (.lst ds))) := ve_weak (ve_new (vn_lst h)) fun env n Q q => ⟨hl, _, rfl, q⟩
end
end VL
namespace VL
open PySem PySem.Spec PyProof.Rows L2 HM
end VL
namespace VL
open PySem PySem.Spec PyProof.Rows L2 HM
open Classical in
/-- H0, and rows r 0, .., r (n - 1) at A 0, .., A (n - 1) -/
noncomputable def mat (H0 : Hp) (n : Nat) (A : Nat → Addr) (r : Nat → List Int) : Hp := fun a => if h : ∃ i, i < n ∧ A i = a then some (.lst ((r h.choose).map V.int)) else H0 a
structure MatOk (am : Am) (F0 H0 : Hp) (n : Nat) (A : Nat → Addr) : Prop where
  inj : ∀ i j, i < n → j < n → A i = A j → i = j
  h0 : ∀ i, i < n → H0 (A i) = none
  f0 : ∀ i, i < n → F0 (A i) = none
  ns : ∀ i, i < n → ¬ am.sp (A i)
section
variable {am : Am} {F0 H0 F H : Hp} {n t : Nat} {A : Nat → Addr} {r r' : Nat → List Int} {σ : L2.St} {env : Ev} {a : Addr}
theorem mat_at (inj : ∀ i j, i < n → j < n → A i = A j → i = j) {i : Nat} (hi : i < n) : mat H0 n A r (A i) = some (.lst ((r i).map V.int)) := by
  have h : ∃ j, j < n ∧ A j = A i := ⟨i, hi, rfl⟩
  unfold mat
  rw [dif_pos h, inj _ i h.choose_spec.1 hi h.choose_spec.2]
theorem mat_out (h : ∀ i, i < n → A i ≠ a) : mat H0 n A r a = H0 a := by
  unfold mat
  rw [dif_neg fun ⟨i, hi, e⟩ => h i hi e]
theorem mat_zero : mat H0 0 A r = H0 := funext fun a => mat_out fun i hi => by omega
theorem mat_some {o : HO} (h : mat H0 n A r a = some o) : (∃ i, i < n ∧ A i = a) ∨ ((∀ i, i < n → A i ≠ a) ∧ H0 a = some o) := by
  by_cases e : ∃ i, i < n ∧ A i = a
  · exact .inl e
  · have e' : ∀ i, i < n → A i ≠ a := fun i hi z => e ⟨i, hi, z⟩
    exact .inr ⟨e', by rw [mat_out e'] at h; exact h⟩
theorem mat_eq (inj : ∀ i j, i < n → j < n → A i = A j → i = j) (h : ∀ i, i < n → r i = r' i) : mat H0 n A r = mat H0 n A r' := funext fun a => by
  by_cases e : ∃ i, i < n ∧ A i = a
  · obtain ⟨i, hi, rfl⟩ := e
    rw [mat_at inj hi, mat_at inj hi, h i hi]
  · have e' : ∀ i, i < n → A i ≠ a := fun i hi z => e ⟨i, hi, z⟩
    rw [mat_out e', mat_out e']
theorem upd_comm {f : Hp} {p q : Addr} {x y : HO} (h : p ≠ q) : upd (upd f p x) q y = upd (upd f q y) p x := funext fun a => by
  by_cases e1 : a = p
  · subst e1; rw [upd_ne h, upd_same, upd_same]
  · rw [upd_ne e1]
    by_cases e2 : a = q
    · subst e2; rw [upd_same, upd_same]
    · rw [upd_ne e2, upd_ne e2, upd_ne e1]
def addA (n : Nat) (A : Nat → Addr) (p : Addr) : Nat → Addr := fun i => if i = n then p else A i
theorem addA_old {p : Addr} {i : Nat} (h : i < n) : addA n A p i = A i := if_neg (by omega)
theorem addA_new {p : Addr} : addA n A p n = p := if_pos rfl
theorem MatOk.add {p : Addr} (m : MatOk am F0 H0 n A) (hp : mat H0 n A r p = none) (hf : F0 p = none) (hs : ¬ am.sp p) : MatOk am F0 H0 (n + 1) (addA n A p) := by
  have ne : ∀ i, i < n → A i ≠ p := fun i hi z => by rw [← z, mat_at m.inj hi] at hp; cases hp
  have h0 : H0 p = none := by rw [mat_out ne] at hp; exact hp
  refine ⟨fun i j hi hj e => ?_, fun i hi => ?_, fun i hi => ?_, fun i hi => ?_⟩
  · by_cases ei : i = n
    · by_cases ej : j = n
      · omega
      · rw [ei, addA_new, addA_old (by omega)] at e
        exact absurd e.symm (ne j (by omega))
    · by_cases ej : j = n
      · rw [ej, addA_new, addA_old (by omega)] at e
        exact absurd e (ne i (by omega))
      · rw [addA_old (by omega), addA_old (by omega)] at e
        exact m.inj i j (by omega) (by omega) e
  · by_cases ei : i = n
    · rw [ei, addA_new]; exact h0
    · rw [addA_old (by omega)]; exact m.h0 i (by omega)
  · by_cases ei : i = n
    · rw [ei, addA_new]; exact hf
    · rw [addA_old (by omega)]; exact m.f0 i (by omega)
  · by_cases ei : i = n
    · rw [ei, addA_new]; exact hs
    · rw [addA_old (by omega)]; exact m.ns i (by omega)
theorem mat_add {p : Addr} (m : MatOk am F0 H0 n A) (hp : mat H0 n A r p = none) : upd (mat H0 n A r) p (.lst ((r n).map V.int)) = mat H0 (n + 1) (addA n A p) r := funext fun a => by
  have ne : ∀ i, i < n → A i ≠ p := fun i hi z => by rw [← z, mat_at m.inj hi] at hp; cases hp
  have inj' : ∀ i j, i < n + 1 → j < n + 1 → addA n A p i = addA n A p j → i = j := fun i j hi hj e => by
    by_cases ei : i = n
    · by_cases ej : j = n
      · omega
      · rw [ei, addA_new, addA_old (by omega)] at e
        exact absurd e.symm (ne j (by omega))
    · by_cases ej : j = n
      · rw [ej, addA_new, addA_old (by omega)] at e
        exact absurd e (ne i (by omega))
      · rw [addA_old (by omega), addA_old (by omega)] at e
        exact m.inj i j (by omega) (by omega) e
  by_cases e1 : a = p
  · subst e1
    have := mat_at (H0 := H0) (r := r) inj' (Nat.lt_succ_self n)
    rw [addA_new] at this
    rw [upd_same, this]
  · rw [upd_ne e1]
    by_cases e : ∃ i, i < n ∧ A i = a
    · obtain ⟨i, hi, rfl⟩ := e
      have := mat_at (H0 := H0) (r := r) inj' (show i < n + 1 by omega)
      rw [addA_old hi] at this
      rw [mat_at m.inj hi, this]
    · have e' : ∀ i, i < n → A i ≠ a := fun i hi z => e ⟨i, hi, z⟩
      rw [mat_out e', mat_out fun i hi => ?_]
      by_cases ei : i = n
      · rw [ei, addA_new]; exact fun z => e1 z.symm
      · rw [addA_old (by omega)]; exact e' i (by omega)
/-- a row is written -/
theorem Rel.row (m : MatOk am F0 H0 n A) (q : Rel ⟨am, F0, mat H0 n A r⟩ F H σ env t) {i : Nat} (hi : i < n) (l : List Int) : Rel ⟨am, F0, mat H0 n A (fun j => if j = i then l else r j)⟩ F (upd H (A i) (.lst (l.map V.int))) σ env t := by
  have hm : mat H0 n A r (A i) = some (.lst ((r i).map V.int)) := mat_at m.inj hi
  have fi : F (A i) = none := q.out0 (A i) _ hm (fun _ z => by cases z) (m.f0 i hi)
  have out : ∀ b, b ≠ A i → mat H0 n A (fun j => if j = i then l else r j) b = mat H0 n A r b := fun b hb => by
    by_cases e : ∃ j, j < n ∧ A j = b
    · obtain ⟨j, hj, rfl⟩ := e
      rw [mat_at m.inj hj, mat_at m.inj hj, if_neg fun z => hb (by rw [z])]
    · have e' : ∀ j, j < n → A j ≠ b := fun j hj z => e ⟨j, hj, z⟩
      rw [mat_out e', mat_out e']
  refine ⟨fun b u e => ?_, q.spf, q.amb' (fun b hb => upd_ne fun z => m.ns i hi (z ▸ hb)) (codeK_upd fun oc x z => by rw [q.keep0 (A i) _ hm (m.ns i hi)] at z; cases z), q.up0, fun b ob h1 nt h2 => ?_, fun b u e nb => ?_, q.len, fun j s e => ?_, q.apart⟩
  · rw [upd_ne fun z => by rw [z, fi] at e; cases e]; exact q.sub b u e
  · by_cases z : b = A i
    · rw [z]; exact fi
    · have h1' : mat H0 n A (fun j => if j = i then l else r j) b = some ob := h1
      rw [out b z] at h1'
      exact q.out0 b ob h1' nt h2
  · have e' : mat H0 n A (fun j => if j = i then l else r j) b = some u := e
    by_cases z : b = A i
    · rw [z, mat_at m.inj hi, if_pos rfl] at e'
      rw [z, upd_same]; exact e'
    · rw [out b z] at e'
      rw [upd_ne z]; exact q.keep0 b u e' nb
  · have qs := q.sl j s e
    cases s with
    | no => trivial
    | fz d => exact qs
    | ow kk =>
      obtain ⟨a2, o2, g1, g2, g3, g4, g5, g6⟩ := qs
      have g3' : mat H0 n A r a2 = none := g3
      have z : a2 ≠ A i := fun z => by rw [z, hm] at g3'; cases g3'
      exact ⟨a2, o2, g1, g2, (out a2 z).trans g3', g4, by rw [upd_ne z]; exact g5, g6⟩
open Classical in
/-- all rows are still from now on -/
theorem Rel.rowsF (m : MatOk am F0 H0 n A) (q : Rel ⟨am, F0, mat H0 n A r⟩ F H σ env t) : ∃ F', Up F F' ∧ Rel ⟨am, F0, H0⟩ F' H σ env t ∧ ∀ i, i < n → Rp F' (.ref (A i)) (.lst ((r i).map Dt.int)) := by
  have fi : ∀ i, i < n → F (A i) = none := fun i hi => q.out0 (A i) _ (mat_at m.inj hi) (fun _ z => by cases z) (m.f0 i hi)
  have hi' : ∀ i, i < n → H (A i) = some (.lst ((r i).map V.int)) := fun i hi => q.keep0 (A i) _ (mat_at m.inj hi) (m.ns i hi)
  have up : Up F (mat F n A r) := fun b o e => by
    rw [mat_out fun i hi z => by rw [← z, fi i hi] at e; cases e]
    exact e
  have inv : ∀ b o, mat F n A r b = some o → (∃ i, i < n ∧ A i = b ∧ o = .lst ((r i).map V.int)) ∨ ((∀ i, i < n → A i ≠ b) ∧ F b = some o) := fun b o e => by
    rcases mat_some e with ⟨i, hi, rfl⟩ | ⟨h1, h2⟩
    · rw [mat_at m.inj hi] at e
      exact .inl ⟨i, hi, rfl, (Option.some.inj e).symm⟩
    · exact .inr ⟨h1, h2⟩
  refine ⟨mat F n A r, up, ⟨fun b o e => ?_, fun b hb => ?_, q.ambU up, q.up0.trans up, fun b ob h1 nt h2 => ?_, fun b u e nb => ?_, q.len, fun j s e => ?_, q.apart⟩, fun i hi => .lst (mat_at m.inj hi) (Rps.ints _)⟩
  · rcases inv b o e with ⟨i, hi, rfl, rfl⟩ | ⟨_, h2⟩
    · exact hi' i hi
    · exact q.sub b o h2
  · rw [mat_out (a := b) fun i hi (z : A i = b) => m.ns i hi (by rw [z]; exact hb)]; exact q.spf b hb
  · have h1' : H0 b = some ob := h1
    have ne : ∀ i, i < n → A i ≠ b := fun i hi z => by rw [← z, m.h0 i hi] at h1'; cases h1'
    rw [mat_out ne]
    exact q.out0 b ob (by show mat H0 n A r b = some ob; rw [mat_out ne]; exact h1') nt h2
  · have h1' : H0 b = some u := e
    have ne : ∀ i, i < n → A i ≠ b := fun i hi z => by rw [← z, m.h0 i hi] at h1'; cases h1'
    exact q.keep0 b u (by show mat H0 n A r b = some u; rw [mat_out ne]; exact h1') nb
  · have qs := q.sl j s e
    cases s with
    | no => trivial
    | fz d => exact let ⟨v, g1, g2⟩ := qs; ⟨v, g1, g2.up up⟩
    | ow kk =>
      obtain ⟨a2, o2, g1, g2, g3, g4, g5, g6⟩ := qs
      have g3' : mat H0 n A r a2 = none := g3
      have ne : ∀ i, i < n → A i ≠ a2 := fun i hi z => by rw [← z, mat_at m.inj hi] at g3'; cases g3'
      refine ⟨a2, o2, g1, by rw [mat_out ne]; exact g2, by show H0 a2 = none; rw [mat_out ne] at g3'; exact g3', g4, g5, g6.up up⟩
end
structure XEn where
  nx : Hp → Ev → Nat → Prop
  rt : Hp → Dt → Nat → Prop
  bk : Hp → Ev → Nat → Prop := fun _ _ _ => False
  ct : Hp → Ev → Nat → Prop := fun _ _ _ => False
abbrev XTS := XEn → Hp → Ev → Nat → Prop
structure EnX (am : Am) (F0 F : Hp) (V : XEn) (D : Ends) : Prop where
  nx : ∀ H0 F' H' σ' env' n', Rel ⟨am, F0, H0⟩ F' H' σ' env' n' → Up F F' → V.nx H0 env' n' → D.nx σ' H'
  rt : ∀ H0 F' H' σ' env' n' v d, Rel ⟨am, F0, H0⟩ F' H' σ' env' n' → Up F F' → Rp F' v d → V.rt H0 d n' → D.rt v H'
  bk : ∀ H0 F' H' σ' env' n', Rel ⟨am, F0, H0⟩ F' H' σ' env' n' → Up F F' → V.bk H0 env' n' → D.bk σ' H'
  ct : ∀ H0 F' H' σ' env' n', Rel ⟨am, F0, H0⟩ F' H' σ' env' n' → Up F F' → V.ct H0 env' n' → D.ct σ' H'
theorem EnX.up {am : Am} {F0 F F' : Hp} {V : XEn} {D : Ends} (h : EnX am F0 F V D) (u : Up F F') : EnX am F0 F' V D :=
  ⟨fun H0 F2 H' σ' env' n' r w => h.nx H0 F2 H' σ' env' n' r (u.trans w), fun H0 F2 H' σ' env' n' v d r w => h.rt H0 F2 H' σ' env' n' v d r (u.trans w), fun H0 F2 H' σ' env' n' r w => h.bk H0 F2 H' σ' env' n' r (u.trans w), fun H0 F2 H' σ' env' n' r w => h.ct H0 F2 H' σ' env' n' r (u.trans w)⟩
def sX (am : Am) (F0 : Hp) (ts : XTS) : TS := fun D σ H => ∃ H0 F env n V, Rel ⟨am, F0, H0⟩ F H σ env n ∧ ts V H0 env n ∧ EnX am F0 F V D
section
variable {am : Am} {F0 : Hp} {X : Cx} {s : Stmt} {ss body : List Stmt} {pos : Pos}
def xLift (ts : VTS) : XTS := fun V H0 env n => ts ⟨V.nx H0, V.rt H0, V.bk H0, V.ct H0⟩ env n
theorem xs_lift {ts : VTS} (h : ∀ H0, PS X s (sOf ⟨am, F0, H0⟩ ts)) : PS X s (sX am F0 (xLift ts)) := ⟨fun pins s σ H D I ⟨H0, F, env, n, V, r, q, k⟩ => (h H0).run pins s σ H D I ⟨F, env, n, _, r, q, ⟨fun F' H' σ' env' n' r' u q' => k.nx H0 F' H' σ' env' n' r' u q', fun F' H' σ' env' n' v d r' u rv q' => k.rt H0 F' H' σ' env' n' v d r' u rv q', fun F' H' σ' env' n' r' u q' => k.bk H0 F' H' σ' env' n' r' u q', fun F' H' σ' env' n' r' u q' => k.ct H0 F' H' σ' env' n' r' u q'⟩⟩⟩
def xSeq (A B : XTS) : XTS := fun V H0 env n => A { V with nx := fun H1 env1 n1 => B V H1 env1 n1 } H0 env n
end
end VL
namespace VL
open PySem PySem.Spec PyProof.Rows L2 HM
section
variable {am : Am} {F0 : Hp} {X : Cx} {st : Stmt} {rest body : List Stmt} {pos : Pos} {t u : XTS}
theorem xss_cons (h1 : PS X st (sX am F0 t)) (h2 : PSs X rest (sX am F0 u)) : PSs X (st :: rest) (sX am F0 (xSeq t u)) := PSs.imp (pss_cons h1 h2) fun D σ H ⟨H0, F, env, n, V, r, q, k⟩ =>
  ⟨H0, F, env, n, _, r, q, ⟨fun H1 F' H' σ' env' n' r' w q' => ⟨H1, F', env', n', V, r', q', k.up w⟩, k.rt, k.bk, k.ct⟩⟩
theorem xss_one (h1 : PS X st (sX am F0 t)) : PSs X [st] (sX am F0 t) := pss_one h1
/-- back to what was there when entered -/
def xOut (H0 : Hp) (t : XTS) : VTS := fun V env n => t { nx := fun H1 e n => H1 = H0 ∧ V.nx e n, rt := fun H1 d n => H1 = H0 ∧ V.rt d n, bk := fun H1 e n => H1 = H0 ∧ V.bk e n, ct := fun H1 e n => H1 = H0 ∧ V.ct e n } H0 env n
theorem xss_out {H0 : Hp} (h : PSs X body (sX am F0 t)) : PSs X body (sOf ⟨am, F0, H0⟩ (xOut H0 t)) := PSs.imp h fun D σ H ⟨F, env, n, V, r, q, k⟩ => ⟨H0, F, env, n, _, r, q,
  ⟨fun H1 F' H' σ' env' n' r' w q' => by obtain ⟨rfl, q'⟩ := q'; exact k.nx F' H' σ' env' n' r' w q', fun H1 F' H' σ' env' n' v d r' w rv q' => by obtain ⟨rfl, q'⟩ := q'; exact k.rt F' H' σ' env' n' v d r' w rv q',
   fun H1 F' H' σ' env' n' r' w q' => by obtain ⟨rfl, q'⟩ := q'; exact k.bk F' H' σ' env' n' r' w q', fun H1 F' H' σ' env' n' r' w q' => by obtain ⟨rfl, q'⟩ := q'; exact k.ct F' H' σ' env' n' r' w q'⟩⟩
def xFor (wi : VTI) (g : VTG) (tb : XTS) : XTS := fun V H0 env n => wi env n fun xs env1 n1 => ∃ P : Nat → Hp → Ev → Nat → Prop, P 0 H0 env1 n1 ∧
  (∀ i x H0 env n, xs[i]? = some x → P i H0 env n → g x env n fun env2 n2 => tb { nx := P (i + 1), ct := P (i + 1), bk := V.nx, rt := V.rt } H0 env2 n2) ∧ ∀ H0 env n, P xs.length H0 env n → V.nx H0 env n
theorem xs_for {tg iter : Expr} {wi : VTI} {g : VTG} {tb : XTS} (hp : PassesOwn (model X.prog X.w) X.A X.env X.xe) (hc : X.calm = true) (hi : ∀ H0, PI X tg iter (iOf ⟨am, F0, H0⟩ wi)) (hg : ∀ H0, PG X tg (gOf ⟨am, F0, H0⟩ g)) (hb : PSs X body (sX am F0 tb))
    (hs : ∀ x, foldedSetIterable iter X.env x = pure x := by intro _; rfl) : PS X (.For tg iter body [] pos) (sX am F0 (xFor wi g tb)) :=
  PS.imp (ps_for (wi := fun σ H R => ∃ H0, iOf ⟨am, F0, H0⟩ wi σ H R) (g := fun v σ H R => ∃ H0, gOf ⟨am, F0, H0⟩ g v σ H R) hp hc ⟨fun pins s σ H Q I ⟨H0, q⟩ => (hi H0).run pins s σ H Q I q⟩ ⟨fun pins s σ H v u Q I r ⟨H0, q⟩ => (hg H0).run pins s σ H v u Q I r q⟩ hb hs) fun D σ H ⟨H0, F, env, n, V, r, q, k⟩ => by
  refine ⟨H0, F, env, n, _, r, q, fun J H1 F1 xs env1 n1 r1 u1 wk q1 => ?_⟩
  obtain ⟨P, p0, turn, fin⟩ := q1
  refine ⟨fun i m σ H => m = xs.length - i ∧ i ≤ xs.length ∧ ∃ H0 F' env n, Rel ⟨am, F0, H0⟩ F' H σ env n ∧ Up F1 F' ∧ P i H0 env n, ⟨_, rfl, Nat.zero_le _, H0, F1, env1, n1, r1, Up.refl F1, p0⟩, ?_⟩
  rintro i m σ2 H2 ⟨rfl, hi, Hb, F2, env2, n2, r2, u2, p2⟩
  obtain ⟨wg, ws⟩ := wk ⟨am, F0, Hb⟩ rfl F2 H2 σ2 env2 n2 r2 u2 i
  by_cases hlt : i < xs.length
  · obtain ⟨go, yl⟩ := wg hlt
    refine .inr ⟨go, fun σ' H' => ∃ H0 F' env n, Rel ⟨am, F0, H0⟩ F' H' σ' env n ∧ Up F1 F' ∧ P (i + 1) H0 env n, fun σ' H' h => ⟨xs.length - (i + 1), by omega, rfl, hlt, h⟩, fun x H3 y => ?_⟩
    obtain ⟨F3, d, r3, u3, ed, rd⟩ := yl x H3 y
    refine ⟨Hb, F3, env2, n2, d, _, r3, rd, turn i d Hb env2 n2 ed p2, fun σ4 H4 F4 env4 n4 r4 u4 q4 => ?_⟩
    have u14 := (u2.trans u3).trans u4
    exact ⟨Hb, F4, env4, n4, _, r4, q4, ⟨fun H0 F5 H5 σ5 env5 n5 r5 u5 q5 => ⟨H0, F5, env5, n5, r5, u14.trans u5, q5⟩, (k.up (u1.trans u14)).rt, (k.up (u1.trans u14)).nx, fun H0 F5 H5 σ5 env5 n5 r5 u5 q5 => ⟨H0, F5, env5, n5, r5, u14.trans u5, q5⟩⟩⟩
  · have e : i = xs.length := by omega
    subst e
    exact .inl ⟨ws (Nat.le_refl _), k.nx Hb F2 H2 σ2 env2 n2 r2 (u1.trans u2) (fin Hb env2 n2 p2)⟩
def objD (n : Nat) (A : Nat → Addr) : List Dt := (List.range n).map fun i => Dt.obj (A i)
def xRow (to ti tv : VTE) : XTS := fun V H0 env n => tv env n fun d env1 n1 => to env1 n1 fun o env2 n2 => ti env2 n2 fun y env3 n3 => ∃ (Hb : Hp) (m : Nat) (A : Nat → Addr) (r : Nat → List Int) (i k : Nat) (z : Int),
  H0 = mat Hb m A r ∧ MatOk am F0 Hb m A ∧ o = .obj (A i) ∧ i < m ∧ y = .int (k : Int) ∧ k < (r i).length ∧ d = .int z ∧ V.nx (mat Hb m A (fun j => if j = i then (r i).set k z else r j)) env3 n3
theorem set_ints (l : List Int) (k : Nat) (z : Int) : (l.map V.int).set k (V.int z) = (l.set k z).map V.int := (List.map_set ..).symm
theorem xs_row {o i v : Expr} {to ti tv : VTE} {p2 : Pos} (ho : ∀ H0, PE X o (tOf ⟨am, F0, H0⟩ to)) (hi : ∀ H0, PE X i (tOf ⟨am, F0, H0⟩ ti)) (hv : ∀ H0, PE X v (tOf ⟨am, F0, H0⟩ tv)) (ha : ∀ v, assign (.Subscript o i p2) X.env v = (do
      let ov ← holding [v] (eval o X.env)
      let iv ← holding [v, ov] (eval i X.env)
      standAt p2
      holding [v, ov, iv] (setItem ov iv v)
      release [v, ov, iv] []) := by intro _; rfl) (hs : swapsWithSole [.Subscript o i p2] v pos.line X.env = pure false := by rfl) (hw : swappedStores [.Subscript o i p2] v X.env = pure none := by rfl)
    (h1 : (assignEach [.Subscript o i p2] X.env).map (·.2) = [assign (.Subscript o i p2) X.env] := by rfl) : PS X (.Assign [.Subscript o i p2] v pos) (sX am F0 (xRow (am := am) (F0 := F0) to ti tv)) :=
  PS.imp (ps_asg (te := fun σ H R => ∃ H0, tOf ⟨am, F0, H0⟩ tv σ H R) ⟨fun pins s σ H Q I ⟨H0, q⟩ => (hv H0).run pins s σ H Q I q⟩ (pg_sub (to := fun σ H R => ∃ H0, tOf ⟨am, F0, H0⟩ to σ H R) (ti := fun σ H R => ∃ H0, tOf ⟨am, F0, H0⟩ ti σ H R) ⟨fun pins s σ H Q I ⟨H0, q⟩ => (ho H0).run pins s σ H Q I q⟩ ⟨fun pins s σ H Q I ⟨H0, q⟩ => (hi H0).run pins s σ H Q I q⟩ set_list ha) hs hw h1) fun D σ H ⟨H0, F, env, n, V, rr, q, k⟩ => by
  refine ⟨H0, F, env, n, _, rr, q, fun v H1 F1 d env1 n1 r1 u1 rv q1 => ?_⟩
  refine ⟨H0, F1, env1, n1, _, r1, q1, fun o H2 F2 d2 env2 n2 r2 u2 ro q2 => ?_⟩
  refine ⟨H0, F2, env2, n2, _, r2, q2, fun y H3 F3 d3 env3 n3 r3 u3 ry q3 => ?_⟩
  obtain ⟨Hb, m, A, rw_, i, kk, z, rfl, mo, rfl, him, rfl, hk, rfl, q3⟩ := q3
  have hA : H3 (A i) = some (.lst ((rw_ i).map L2.V.int)) := r3.keep0 (A i) _ (mat_at mo.inj him) (mo.ns i him)
  have eo : o = .ref (A i) := by cases ro; rfl
  have r4 := Rel.row mo r3 him ((rw_ i).set kk z)
  rw [rv.int_inv]
  refine ⟨A i, (rw_ i).map L2.V.int, _, kk, eo, ry.int_inv, hA, ixN_nat (by rw [List.length_map]; exact hk), ?_⟩
  rw [set_ints]
  exact k.nx _ F3 _ σ env3 n3 r4 ((u1.trans u2).trans u3) q3
def xRetRows (j : Nat) : XTS := fun V H0 env n => ∃ (Hb : Hp) (m : Nat) (A : Nat → Addr) (r : Nat → List Int), H0 = mat Hb m A r ∧ MatOk am F0 Hb m A ∧ env[j]? = some (.ow (.lst (objD m A))) ∧ V.rt Hb (.lst ((List.range m).map fun i => .lst ((r i).map Dt.int))) n
theorem rps_objs {F : Hp} {A : Nat → Addr} {r : Nat → List Int} : ∀ {l : List Nat} {xs : List V}, Rps F xs (l.map fun i => Dt.obj (A i)) → (∀ i ∈ l, Rp F (.ref (A i)) (.lst ((r i).map Dt.int))) → Rps F xs (l.map fun i => .lst ((r i).map Dt.int))
  | [], _, .nil, _ => .nil
  | i :: l, _, .cons h t, hr => by
    cases h
    exact .cons (hr i List.mem_cons_self) (rps_objs t fun j hj => hr j (List.mem_cons_of_mem _ hj))
theorem xs_retRows {j : Nat} {x : Str} {p : Pos} (h : PE X (.Name x p) (tVar j)) : PS X (.Return (some (.Name x p)) pos) (sX am F0 (xRetRows (am := am) (F0 := F0) j)) := PS.imp (ps_ret h) fun D σ H ⟨H0, F, env, n, V, rr, ⟨Hb, m, A, r, e0, mo, e, q⟩, k⟩ => by
  subst e0
  obtain ⟨F1, u1, r1, hr⟩ := Rel.rowsF mo rr
  obtain ⟨a, F2, e2, u2, rp, r2⟩ := r1.freeze e
  refine ⟨.ref a, e2, ?_⟩
  obtain ⟨a', xs, ea, hF, rx⟩ := rp.lst_inv
  cases ea
  exact k.rt Hb F2 H σ _ n (.ref a) _ r2 (u1.trans u2) (.lst hF (rps_objs rx fun i hi => (hr i (List.mem_range.mp hi)).up u2)) q
end
end VL
namespace VL
open PySem PySem.Spec PyProof.Rows L2 HM
theorem Rel.rest2 {c1 c : Fc} {F1 H1 F H : Hp} {σ : L2.St} {env1 env : Ev} {n1 n : Nat} {vs : List Nat} (r1 : Rel c1 F1 H1 σ env1 n1) (u : Up F1 F) (no : ∀ i ∈ vs, ∀ k, env1[i]? ≠ some (.ow k)) (r : Rel c F H (L2.wipe σ vs) env n) : Rel c F H σ (restE env1 env vs) n := by
  have hl : σ.length = env.length := by rw [← r.len, wipe_length]
  refine ⟨r.sub, r.spf, r.amb, r.up0, r.out0, r.keep0, by rw [restE_length]; exact hl, fun i s e => ?_, fun i j a k k' hij e1 e2 e3 => ?_⟩
  · rcases restE_get e with ⟨rfl, h2⟩ | ⟨h1, h2⟩
    · cases e4 : env1[i]? with
      | none =>
        have : env1.getD i .no = .no := by rw [List.getD_eq_getElem?_getD, e4]; rfl
        rw [this]; trivial
      | some s =>
        have : env1.getD i .no = s := by rw [List.getD_eq_getElem?_getD, e4]; rfl
        rw [this]
        have q := r1.sl i s e4
        cases s with
        | no => trivial
        | fz d => exact let ⟨v, g1, g2⟩ := q; ⟨v, g1, g2.up u⟩
        | ow k => exact absurd e4 (no i h2 k)
    · have q := r.sl i s h1
      rw [wipe_out h2] at q
      exact q
  · have f : ∀ {i : Nat} {k : Con}, (restE env1 env vs)[i]? = some (.ow k) → i ∉ vs ∧ env[i]? = some (.ow k) := fun {i k} e => by
      rcases restE_get e with ⟨h1, h2⟩ | ⟨h1, h2⟩
      · cases e4 : env1[i]? with
        | none =>
          have : env1.getD i .no = .no := by rw [List.getD_eq_getElem?_getD, e4]; rfl
          rw [this] at h1; cases h1
        | some s =>
          have : env1.getD i .no = s := by rw [List.getD_eq_getElem?_getD, e4]; rfl
          rw [this] at h1
          rw [← h1] at e4
          exact absurd e4 (no i h2 k)
      · exact ⟨h2, h1⟩
    obtain ⟨n1, f1⟩ := f e1
    obtain ⟨n2, f2⟩ := f e2
    have q := r.apart i j a k k' hij f1 f2 (by rw [wipe_out n1]; exact e3)
    rw [wipe_out n2] at q
    exact q
/-- a kept thing is written -/
theorem Rel.rewr {σ : L2.St} {H F : Hp} {env : Ev} {n : Nat} {p : Addr} {o : HO} {c : Fc} (nto : NT o) (r : Rel (c.wth p o) F H σ env n) (h0 : c.H0 p = none) (hF0 : c.F0 p = none) (ns : ¬ c.am.sp p) (o' : HO) (nf : ∀ oc x, o ≠ .frz oc (.own x) := by intro _ _ z; cases z) : Rel (c.wth p o') F (upd H p o') σ env n := by
  obtain ⟨r7, eD, fD, nD7⟩ := Rel.pop nto r h0 hF0 ns
  have r8 : Rel c F (upd H p o') σ env n := by
    refine ⟨fun b o e => ?_, r7.spf, r7.amb' (fun b hb => upd_ne fun z => ns (z ▸ hb)) (codeK_upd fun oc x z => nf oc x (by rw [eD] at z; exact Option.some.inj z)), r7.up0, r7.out0, fun b o e nb => ?_, r7.len, fun j s e => ?_, r7.apart⟩
    · rw [upd_ne fun z => by rw [z, fD] at e; cases e]; exact r7.sub b o e
    · rw [upd_ne fun z => by rw [z, h0] at e; cases e]; exact r7.keep0 b o e nb
    · have q := r7.sl j s e
      cases s with
      | no => trivial
      | fz d => exact q
      | ow kk =>
        obtain ⟨a, o, g1, g2, g3, g4, g5, g6⟩ := q
        exact ⟨a, o, g1, g2, g3, g4, by rw [upd_ne fun z => nD7 j kk e (by rw [g1, z])]; exact g5, g6⟩
  exact r8.push upd_same fD ns nD7
def refV (n : Nat) (A : Nat → Addr) : List V := (List.range n).map fun i => V.ref (A i)
theorem rps_refs {F : Hp} {A : Nat → Addr} : ∀ l : List Nat, Rps F (l.map fun i => V.ref (A i)) (l.map fun i => Dt.obj (A i))
  | [] => .nil
  | i :: l => .cons (.obj _) (rps_refs l)
theorem refV_add {n : Nat} {A : Nat → Addr} {p : Addr} : refV (n + 1) (addA n A p) = refV n A ++ [.ref p] := by
  unfold refV
  rw [List.range_succ, List.map_append]
  refine congr (congrArg _ (List.map_congr_left fun i hi => ?_)) ?_
  · rw [addA_old (List.mem_range.mp hi)]
  · show [V.ref (addA n A p n)] = _
    rw [addA_new]
section
variable {am : Am} {F0 : Hp} {X : Cx}
def xLcRows (j iv : Nat) (wi : VTI) (tn : VTN) (vs : List Nat) : XTS := fun V H0 env n => wi env n fun xs env1 n1 => (∀ i ∈ vs, ∀ k, env1[i]? ≠ some (.ow k)) ∧ xs.length ≤ 5000 ∧ iv ∈ vs ∧ ∃ r : Nat → List Int,
  (∀ i x, xs[i]? = some x → ∀ R : Con → Ev → Nat → Prop, R (.lst ((r i).map Dt.int)) ((wipeE env1 vs).set iv (.fz x)) n1 → tn ((wipeE env1 vs).set iv (.fz x)) n1 R) ∧
  ∀ A, MatOk am F0 H0 xs.length A → V.nx (mat H0 xs.length A r) (env1.set j (.ow (.lst (objD xs.length A)))) n1
theorem lcRows_of {H0 : Hp} {j iv : Nat} {wi : VTI} {tn : VTN} {vs : List Nat} {F H : Hp} {σ : L2.St} {env : Ev} {n : Nat} {V : XEn} {D : Ends} (r : Rel ⟨am, F0, H0⟩ F H σ env n) (q : xLcRows (am := am) (F0 := F0) j iv wi tn vs V H0 env n) (k : EnX am F0 F V D) :
    tAsg (tLc (fun σ H R => ∃ H0, iOf ⟨am, F0, H0⟩ wi σ H R) (gName iv) (fun σ H R => R true H) (fun σ H R => ∃ H0, nOf ⟨am, F0, H0⟩ tn σ H R) vs) (gName j) D σ H := by
  refine ⟨H0, F, env, n, _, r, q, fun J H1 F1 xs env1 n1 r1 u1 wk q1 => ?_⟩
  obtain ⟨no, hlen, hiv, rr, he, fin⟩ := q1
  intro L nL
  obtain ⟨h0, ns, nf⟩ := r1.new0 nL
  have hF0 : F0 L = none := by
    cases e : F0 L with
    | none => rfl
    | some o => rw [r1.up0 L o e] at nf; cases nf
  refine ⟨fun i m H => m = xs.length - i ∧ i ≤ xs.length ∧ ∃ F' A, MatOk am F0 H0 i A ∧ mat H0 i A rr L = none ∧ Rel (Fc.wth ⟨am, F0, mat H0 i A rr⟩ L (.lst (refV i A))) F' H (L2.wipe σ vs) (wipeE env1 vs) n1 ∧ Up F1 F', ⟨_, rfl, Nat.zero_le _, F1, fun _ => L, ⟨fun i j hi => by omega, fun i hi => by omega, fun i hi => by omega, fun i hi => by omega⟩, by rw [mat_zero]; exact h0, ?_, Up.refl F1⟩, ?_⟩
  · rw [mat_zero]
    refine ((r1.wipe vs).lay nL _).push upd_same nf ns fun j k' e z => ?_
    obtain ⟨a, o, g1, _, _, _, g5, _⟩ := (r1.wipe vs).sl j _ e
    rw [g1] at z
    cases z
    rw [g5] at nL
    cases nL
  · rintro i m H2 ⟨rfl, hi, F2, A, mo, hL, r2, u2⟩
    obtain ⟨wg, ws⟩ := wk (Fc.wth ⟨am, F0, mat H0 i A rr⟩ L (.lst (refV i A))) rfl F2 H2 _ _ n1 r2 u2 i
    by_cases hlt : i < xs.length
    · obtain ⟨go, yl⟩ := wg hlt
      refine .inr ⟨go, fun H => ∃ F' A, MatOk am F0 H0 (i + 1) A ∧ mat H0 (i + 1) A rr L = none ∧ Rel (Fc.wth ⟨am, F0, mat H0 (i + 1) A rr⟩ L (.lst (refV (i + 1) A))) F' H (L2.wipe σ vs) (wipeE env1 vs) n1 ∧ Up F1 F', fun H' hN => ⟨xs.length - (i + 1), by omega, rfl, hlt, hN⟩, fun x H3 y => ?_⟩
      obtain ⟨F3, d, r3, u3, ed, rd⟩ := yl x H3 y
      have hw : L2.wipe ((L2.wipe σ vs).set iv (some x)) vs = L2.wipe σ vs := by
        rw [wipe_set hiv]
        exact List.ext_getElem? fun j => by
          rw [wipe_get, wipe_get, wipe_length]
          by_cases h : j ∈ vs ∧ j < σ.length
          · rw [if_pos h, if_pos h]
          · rw [if_neg h, if_neg h]
      refine ⟨hw, ?_⟩
      show (if true = true then _ else _)
      rw [if_pos rfl]
      refine ⟨upd (mat H0 i A rr) L (.lst (refV i A)), F3, (wipeE env1 vs).set iv (.fz d), n1, fun k env' n' => k = .lst ((rr i).map Dt.int) ∧ env' = (wipeE env1 vs).set iv (.fz d) ∧ n' = n1, r3.setF rd, he i d ed _ ⟨rfl, rfl, rfl⟩, ?_⟩
      rintro a o H4 F4 kk env4 n4 r4 u4 hF h0a nsa hH w ha ⟨rfl, rfl, rfl⟩
      obtain ⟨xs', rfl, rx⟩ := w
      have ex := rx.of_ints
      subst ex
      have h0a' : upd (mat H0 i A rr) L (.lst (refV i A)) a = none := h0a
      have aL : a ≠ L := fun z => by rw [z, upd_same] at h0a'; cases h0a'
      rw [upd_ne aL] at h0a'
      have f0a : F0 a = none := by
        cases e : F0 a with
        | none => rfl
        | some o => rw [r4.up0 a o e] at hF; cases hF
      have mo' := mo.add (r := rr) h0a' f0a nsa
      have r5 := r4.push hH hF nsa ha
      have ec : Fc.wth ⟨am, F0, upd (mat H0 i A rr) L (.lst (refV i A))⟩ a (.lst ((rr i).map L2.V.int)) = Fc.wth ⟨am, F0, mat H0 (i + 1) (addA i A a) rr⟩ L (.lst (refV i A)) := by
        show (⟨am, F0, upd (upd (mat H0 i A rr) L (.lst (refV i A))) a (.lst ((rr i).map L2.V.int))⟩ : Fc) = ⟨am, F0, upd (mat H0 (i + 1) (addA i A a) rr) L (.lst (refV i A))⟩
        rw [upd_comm (Ne.symm aL), mat_add mo h0a']
      have r5' : Rel (Fc.wth ⟨am, F0, upd (mat H0 i A rr) L (.lst (refV i A))⟩ a (.lst ((rr i).map L2.V.int))) F4 H4 ((L2.wipe σ vs).set iv (some x)) ((wipeE env1 vs).set iv (.fz d)) n4 := r5
      rw [ec] at r5'
      have hL' : mat H0 (i + 1) (addA i A a) rr L = none := by
        rw [← mat_add mo h0a', upd_ne (Ne.symm aL)]; exact hL
      have eD : H4 L = some (.lst (refV i A)) := r5'.keep0 L _ (show upd _ L _ L = _ from upd_same) ns
      refine ⟨refV i A, eD, small1000 (by simp [refV]; omega), F4, addA i A a, mo', hL', ?_, (u2.trans u3).trans u4⟩
      have r6 := Rel.rewr (c := ⟨am, F0, mat H0 (i + 1) (addA i A a) rr⟩) (fun _ z => by cases z) r5' hL' hF0 ns (.lst (refV i A ++ [.ref a]))
      rw [refV_add]
      have r7 := r6.wipe2 hw
      rw [wipeE_set hiv, wipeE_idem] at r7
      exact r7
    · have e : i = xs.length := by omega
      subst e
      refine .inl ⟨ws (Nat.le_refl _), ?_⟩
      obtain ⟨r7, eD, fD, nD7⟩ := Rel.pop (c := ⟨am, F0, mat H0 xs.length A rr⟩) (fun _ z => by cases z) r2 hL hF0 ns
      have r8 := r1.rest2 u2 no r7
      rw [rest_wipe] at r8
      have nD8 : ∀ (j : Nat) k', env1[j]? = some (.ow k') → σ[j]? ≠ some (some (.ref L)) := fun j k' e z => by
        have hj : j ∉ vs := fun hj => no j hj k' e
        refine nD7 j k' ?_ (by rw [wipe_out hj]; exact z)
        rw [wipeE_at, if_neg fun h => hj h.1]
        exact e
      exact k.nx _ F2 H2 _ _ n1 (r8.setO (i := j) fD hL ns eD (k := .lst (objD xs.length A)) ⟨_, rfl, rps_refs _⟩ nD8) (u1.trans u2) (fin A mo)
theorem xs_setLcRows {i iv : Nat} {y : Str} {py : Pos} {elt tg iter : Expr} {scope : Scope} {own : List (Str × Nat)} {pos spos : Pos} {wi : VTI} {tn : VTN} (hc : X.calm = true) (hN : X.N.Nodup) (hy : X.N[i]? = some y) (hyl : X.env.scope.names.lookup y = some .local)
    (hsw : swapsWith (.ListComp elt [⟨tg, iter, [], 0⟩] scope pos) (some (.Name y py)) spos.line X.env = pure true) (hi : ∀ H0, PI X tg iter (iOf ⟨am, F0, H0⟩ wi)) (ok : BlkOk X.N X.env.scope scope own)
    (hg : ∀ (s : Shared) (H : Hp) (C : Addr) (cl : List (Str × Addr)) (fp : List Addr), PG (X.blk s H scope (compEnvC scope cl C X.env) fp) tg (gName iv))
    (he : ∀ (H0 : Hp) (s : Shared) (H : Hp) (C : Addr) (cl : List (Str × Addr)) (fp : List Addr), PE (X.blk s H scope (compEnvC scope cl C X.env) fp) elt (nOf ⟨am, F0, H0⟩ tn)) (hs : ∀ x, foldedSetIterable iter X.env x = pure x := by intro _; rfl) :
    PS X (.Assign [.Name y py] (.ListComp elt [⟨tg, iter, [], 0⟩] scope pos) spos) (sX am F0 (xLcRows (am := am) (F0 := F0) i iv wi tn (own.map (·.2)))) :=
  PS.imp (ps_setLc (wi := fun σ H R => ∃ H0, iOf ⟨am, F0, H0⟩ wi σ H R) (tt := fun σ H R => R true H) (te := fun σ H R => ∃ H0, nOf ⟨am, F0, H0⟩ tn σ H R) hc hN hy hyl hsw ⟨fun pins s σ H Q I ⟨H0, q⟩ => (hi H0).run pins s σ H Q I q⟩ ok hg
    (fun s H C cl fp => pts_nil) (fun s H C cl fp => ⟨fun pins s' σ H' Q I ⟨H0, q⟩ => (he H0 s H C cl fp).run pins s' σ H' Q I q⟩) hs)
    fun D σ H ⟨H0, F, env, n, V, r, q, k⟩ => lcRows_of r q k
end
section
variable {P : Program} {w : World} {K : PySem.W.Frag} {mg : Str → Option Value} {base : Heap} {am : Am} {gd : Around → Prop} {x qual : Str} {st : Stmt} {f : Addr} {fd : FuncData} {N ps : List Str} {k : Nat} {sp : VSp}
/-- a def that lets no exception out, its reading by what was there when entered -/
theorem vfn_ofX (F : Fun K x qual st f fd) (S : FnScope N ps (defScope st)) (len : ∀ ds n Q E, sp ds n Q E → ds.length = ps.length)
    (body : ∃ ts : Hp → Hp → VTS, (∀ (cdv : Value) (A : Around) (out : List Env) (s : Shared) (H : Hp) (E : XK) (F0 H0 : Hp), fd.code = cdv → gd A → Room k (A.deeper (envOfC qual (defScope st) s.heap.objs.size f cdv)) → PSs (cxOf CX0 P w K mg base N qual (defScope st) f cdv A out s H E).nox (defBody st) (sOf ⟨am, F0, H0⟩ (ts F0 H0))) ∧
      ∀ F0 H0 ds n Q E, sp ds n Q E → ts F0 H0 { nx := fun _ n' => Q .non n', rt := Q } (startE N ds) n) : VFn gd P w K mg base CX0 (k + 1) f fd ps am sp := by
  obtain ⟨ts, hts, hsp⟩ := body
  refine pfn_of F S (fun vs H Q E h => ?_) (fun cdv A out s H vs Q E hcd hgd hr h => ?_)
  · obtain ⟨F0, ds, n, Q', E', _, _, _, r, h, _⟩ := h
    rw [r.len]
    exact len ds n Q' E' h
  · obtain ⟨F0, ds, n, Q', E', u, hs, ha, r, h, kq, ke⟩ := h
    refine ⟨_, hts cdv A out s H E F0 H hcd hgd hr, F0, startE N ds, n, _, rel_start u hs ha r, hsp F0 H ds n Q' E' h, ⟨fun F' H' σ' env' n' r' _ q => kq .non F' H' .non n' r'.out .non q, fun F' H' σ' env' n' v d r' _ rv q => kq v F' H' d n' r'.out rv q, fun _ _ _ _ _ _ _ z => z.elim, fun _ _ _ _ _ _ _ z => z.elim⟩⟩
end
end VL
namespace VL
open PySem PySem.Spec PyProof.Rows L2 HM
def zipD (xs ys : List Dt) : List Dt := List.zipWith (fun a b => Dt.tup [a, b]) xs ys
theorem zipD_get {xs ys : List Dt} {i : Nat} {z : Dt} (h : (zipD xs ys)[i]? = some z) : ∃ a b, xs[i]? = some a ∧ ys[i]? = some b ∧ z = .tup [a, b] := by
  unfold zipD at h
  rw [List.getElem?_zipWith] at h
  cases ea : xs[i]? with
  | none => rw [ea] at h; cases h
  | some a =>
    cases eb : ys[i]? with
    | none => rw [ea, eb] at h; cases h
    | some b =>
      rw [ea, eb] at h
      exact ⟨a, b, rfl, rfl, (Option.some.inj h).symm⟩
theorem zipD_len (xs ys : List Dt) : (zipD xs ys).length = min xs.length ys.length := by unfold zipD; rw [List.length_zipWith]
section
variable {c : Fc} {X : Cx} {te : VTE} {tas : VTA}
theorem wk_zipT {K : PySem.W.Frag} {F : Hp} {a b : Addr} {xs ys : List V} {ds es : List Dt} (h : F a = some (.tup xs)) (rx : Rps F xs ds) (h2 : F b = some (.tup ys)) (ry : Rps F ys es) : Wk c.am (RZ.ItzT K a b) F (zipD ds es) := fun c _ F1 H σ env n r u i => by
  have hA : SqT K H a xs := .inl (.inl (r.sub _ _ (u _ _ h)))
  have hB : SqT K H b ys := .inl (.inl (r.sub _ _ (u _ _ h2)))
  refine ⟨fun hi => ?_, fun hi => ⟨xs, ys, hA, hB, ?_⟩⟩
  · obtain ⟨da, db, ea, eb, ez⟩ := zipD_get (List.getElem?_eq_getElem hi)
    obtain ⟨v, e1, p1⟩ := rx.get ea
    obtain ⟨v2, e2, p2⟩ := ry.get eb
    refine ⟨⟨xs, ys, v, v2, hA, hB, e1, e2⟩, fun x H' y => ?_⟩
    obtain ⟨T, x1, y1, rfl, nT, rfl, hx, hy⟩ := y
    have q1 := hx xs hA
    have q2 := hy ys hB
    rw [e1] at q1
    rw [e2] at q2
    cases q1
    cases q2
    obtain ⟨_, _, nf⟩ := r.new0 nT
    exact ⟨upd F1 T (.tup [v, v2]), _, r.layF nT _, up_lay nf, List.getElem?_eq_getElem hi, by rw [ez]; exact .tup upd_same (.cons ((p1.up u).up (up_lay nf)) (.cons ((p2.up u).up (up_lay nf)) .nil))⟩
  · rw [zipD_len] at hi
    rw [rx.len, ry.len]
    omega
theorem wk_zipL {K : PySem.W.Frag} {F : Hp} {a b : Addr} {xs ys : List V} {ds es : List Dt} (h : F a = some (.lst xs)) (rx : Rps F xs ds) (h2 : F b = some (.lst ys)) (ry : Rps F ys es) : Wk c.am (Itz K a b) F (zipD ds es) := fun c _ F1 H σ env n r u i => by
  have hA : SqL K H a xs := .inl (.inl (r.sub _ _ (u _ _ h)))
  have hB : SqL K H b ys := .inl (.inl (r.sub _ _ (u _ _ h2)))
  refine ⟨fun hi => ?_, fun hi => ⟨xs, ys, hA, hB, ?_⟩⟩
  · obtain ⟨da, db, ea, eb, ez⟩ := zipD_get (List.getElem?_eq_getElem hi)
    obtain ⟨v, e1, p1⟩ := rx.get ea
    obtain ⟨v2, e2, p2⟩ := ry.get eb
    refine ⟨⟨xs, ys, v, v2, hA, hB, e1, e2⟩, fun x H' y => ?_⟩
    obtain ⟨T, x1, y1, rfl, nT, rfl, hx, hy⟩ := y
    have q1 := hx xs hA
    have q2 := hy ys hB
    rw [e1] at q1
    rw [e2] at q2
    cases q1
    cases q2
    obtain ⟨_, _, nf⟩ := r.new0 nT
    exact ⟨upd F1 T (.tup [v, v2]), _, r.layF nT _, up_lay nf, List.getElem?_eq_getElem hi, by rw [ez]; exact .tup upd_same (.cons ((p1.up u).up (up_lay nf)) (.cons ((p2.up u).up (up_lay nf)) .nil))⟩
  · rw [zipD_len] at hi
    rw [rx.len, ry.len]
    omega
def viZip (ta : VTA) : VTI := fun env n Q => ta env n fun ds env1 n1 => ∃ xs ys, (ds = [.tup xs, .tup ys] ∨ ds = [.lst xs, .lst ys]) ∧ Q (zipD xs ys) env1 n1
theorem vi_zip {e e2 : Expr} {p pos tpos : Pos} {elts : List Expr} {kk : Nat} (hg : Gl X "zip") (hm : X.mg "zip" = none) (ha : PA X [e, e2] (aOf c tas))
    (hs : starEach [e, e2] X.env = (false, eval e X.env) :: starEach [e2] X.env := by rfl) (hpl : (backTo pos (starEach [e2] X.env)).any (·.1) = false := by rfl) :
    PI X (.Tuple elts kk tpos) (.Call (.Name "zip" p) [e, e2] [] pos) (iOf c (viZip tas)) := PI.imp (RZ.pi_zipA hg hm ha hs hpl) fun σ H R ⟨F, env, n, Q, r, q, k⟩ => ⟨F, env, n, _, r, q, fun vs H' F' ds env' n' r' w rp qd => by
  obtain ⟨xs, ys, e, qd⟩ := qd
  rcases e with rfl | rfl
  · obtain ⟨v, v2, rfl, p1, p2⟩ := rp.two
    obtain ⟨a, us, rfl, hF, rx⟩ := p1.tup_inv
    obtain ⟨b, us2, rfl, hF2, ry⟩ := p2.tup_inv
    exact ⟨a, b, us, us2, rfl, .inr ⟨.inl (.inl (r'.sub _ _ hF)), .inl (.inl (r'.sub _ _ hF2)), k _ H' F' _ env' n' r' w (wk_zipT hF rx hF2 ry) qd⟩⟩
  · obtain ⟨v, v2, rfl, p1, p2⟩ := rp.two
    obtain ⟨a, us, rfl, hF, rx⟩ := p1.lst_inv
    obtain ⟨b, us2, rfl, hF2, ry⟩ := p2.lst_inv
    exact ⟨a, b, us, us2, rfl, .inl ⟨.inl (.inl (r'.sub _ _ hF)), .inl (.inl (r'.sub _ _ hF2)), k _ H' F' _ env' n' r' w (wk_zipL hF rx hF2 ry) qd⟩⟩⟩
end
end VL
namespace VL
open PySem PySem.Spec PyProof.Rows L2 HM
section
variable {P : Program} {w : World} {K : PySem.W.Frag} {mg : Str → Option Value} {base : Heap} {am : Am} {gd : Around → Prop} {f : Addr} {fd : FuncData} {ps : List Str} {k : Nat} {sp sp' : VSp} {CX : CXT}
/-- a promise that asks more -/
theorem VFn.imp (h : VFn gd P w K mg base CX k f fd ps am sp) (i : ∀ ds n Q E, sp' ds n Q E → sp ds n Q E) : VFn gd P w K mg base CX k f fd ps am sp' :=
  ⟨fun vs H Q E ⟨F, ds, n, Q', E', h1, h2, h3, h4, h5, h6⟩ => h.len vs H Q E ⟨F, ds, n, Q', E', h1, h2, h3, h4, i _ _ _ _ h5, h6⟩,
   fun A out s H args us vs Q E hg hr hb hu hI ⟨F, ds, n, Q', E', h1, h2, h3, h4, h5, h6⟩ => h.go A out s H args us vs Q E hg hr hb hu hI ⟨F, ds, n, Q', E', h1, h2, h3, h4, i _ _ _ _ h5, h6⟩⟩
end
end VL
namespace VL
open PySem PySem.Spec PyProof.Rows L2 HM
theorem PrK.get {κ : Type} {F : Hp} : ∀ {a : List (κ × V)} {b : List (κ × Dt)} {i : Nat} {k : κ} {v : V}, PrK F a b → a[i]? = some (k, v) → ∃ q, b[i]? = some q ∧ Rp F v q.2
  | _, _, _, _, _, .nil, e => by simp at e
  | _, q :: _, 0, _, _, .cons h _, e => by simp at e; subst e; exact ⟨q, rfl, h.2⟩
  | _, _, i + 1, k, v, .cons _ t, e => by
    obtain ⟨q, h1, h2⟩ := PrK.get (i := i) (k := k) (v := v) t (by simpa using e)
    exact ⟨q, by simpa using h1, h2⟩
end VL
namespace HG
open PySem PySem.Spec PyProof.Rows L2 HM GenW
/-- the frame of a generator expression: A where it runs; s, H what stood when it was made; fp its iterator's objects; pn its own object -/
abbrev gx (X : Cx) (A : Around) (s : Shared) (H : Hp) (cenv : Env) (fp : List Addr) (pn : List (Addr × Obj)) : Cx :=
  { X with A := A, s_0 := s, H_0 := H, env := cenv, outer := X.stack, stack := cenv :: X.stack, ex := fp, fn := fun _ => false, pn := pn, xe := fun _ _ => False }
section
variable {X : Cx} {pins : List (Addr × Obj)} {σ : L2.St} {H : Hp} {s : Shared}
theorem gen_start {scope : Scope} {own : List (Str × Nat)} {fp : List Addr} {A : Around} {code : Value} {C : Addr} {pn ip : List (Addr × Obj)} {s2 : Shared} {m0 : Str → Option Value} (I : Inv X pins σ H s) (ok : BlkOk X.N X.env.scope scope own) (hN : X.N.Nodup) (nc : ∀ y ∈ scope.names, y.2 ≠ .cell)
    (hfp : ∀ b ∈ fp, FpOk X pins H b ∧ b < s.heap.objs.size) (hC : s.heap.objs.size ≤ C) (hA : X.calm = true → A.handled = none) (hfr : A.frames = some (genEnv scope (cloFrom X.env.cells scope.names []) C code builtinsNs X.env :: X.stack))
    (kp : ∀ b o, s.heap.get? b = some o → s2.heap.get? b = some o) (hns : s2.heap.Ns C m0) (os : s2.os = s.os) (bare : AllBare s2.gens)
    (hp : ∀ p ∈ pn ++ ip, s2.heap.get? p.1 = some p.2 ∧ H p.1 = none ∧ p.1 ≠ C ∧ p.1 ∉ frs X.stack ∧ ∀ v, p.2.data ≠ .cell v) :
    Inv (gx X A s H (genEnv scope (cloFrom X.env.cells scope.names []) C code builtinsNs X.env) fp pn) ip (wipe σ (own.map (·.2))) H s2 := by
  have hfree : ∀ y ∈ scope.names, y.2 = .free → ∃ c, X.env.cells.lookup y.1 = some c := fun y hy e => by
    rcases ok.free y hy e with k | k
    · exact I.ok.has _ (.inl k)
    · exact I.ok.has _ (.inr k)
  generalize hcenv : genEnv scope (cloFrom X.env.cells scope.names []) C code builtinsNs X.env = cenv at hfr
  have hL : cenv.locals = C := by rw [← hcenv]; rfl
  have hcl : cenv.cells = cloFrom X.env.cells scope.names [] := by rw [← hcenv]; rfl
  have hsc : cenv.scope = scope := by rw [← hcenv]; rfl
  have cm : ∀ {y c}, cenv.cells.lookup y = some c → X.env.cells.lookup y = some c ∧ c < s.heap.objs.size := fun {y c} e => by
    rw [hcl] at e
    rcases cloFrom_mem (PySem.mem_of_lookup e) with hm | ⟨h1, rfl⟩
    · cases hm
    · obtain ⟨c, hc⟩ := hfree _ h1 rfl
      rw [hc]
      obtain ⟨w, z⟩ := I.cell _ _ hc
      exact ⟨rfl, z.lt⟩
  have look : ∀ {y}, scope.names.lookup y = some .free → ∃ c, cenv.cells.lookup y = some c ∧ X.env.cells.lookup y = some c := fun {y} hl => by
    obtain ⟨c', e'⟩ := mem_lookup (cloFrom_has (cells := X.env.cells) (acc := []) (PySem.mem_of_lookup hl))
    rw [← hcl] at e'
    exact ⟨c', e', (cm e').1⟩
  have okB : (gx X A s H cenv fp pn).Ok := by
    refine ⟨I.ok.mod, by show cenv.scope.kind = _; rw [hsc]; exact ok.kind, by show cenv.globals = _; rw [← hcenv]; exact I.ok.glob, by show cenv.builtins = _; rw [← hcenv]; rfl, by show s.heap.objs.size ≤ cenv.locals; rw [hL]; exact hC,
      fun y z c e1 e2 => I.ok.inj y z c (cm e1).1 (cm e2).1, fun y hy => ?_, fun y c z _ => (by cases z), hA, hfr, .inr ⟨rfl, by show cenv.frame = some cenv.locals; rw [← hcenv]; rfl⟩, fun b hb => ⟨?_, fun y c e => (hfp b hb).1.2.2.2.2.1 y c (cm e).1⟩, I.bs, Nat.le_trans I.ok.bsz I.sz, fun b o e hb => ?_, fun b hb z => ?_, I.stack, I.stkFree⟩
    · show ∃ c, cenv.cells.lookup y = some c
      rcases hy with hy | hy
      · have hy : cenv.kindOf y = some .cell := hy
        unfold Env.kindOf at hy
        rw [hsc] at hy
        exact absurd rfl (nc _ (PySem.mem_of_lookup hy))
      · have hy : cenv.kindOf y = some .free := hy
        unfold Env.kindOf at hy
        rw [hsc] at hy
        obtain ⟨c, h1, _⟩ := look hy
        exact ⟨c, h1⟩
    · show b ≠ cenv.locals
      rw [hL]; exact Nat.ne_of_lt (Nat.lt_of_lt_of_le (hfp b hb).2 hC)
    · rcases (hfp b hb).1.2.2.2.1 with z | z
      · exact I.ok.noex b o e z
      · exact absurd (Nat.lt_of_lt_of_le (Heap.lt_size e) (Nat.le_trans I.ok.bsz z)) (Nat.lt_irrefl _)
    · rcases List.mem_cons.mp (I.stkSub b z) with z | z
      · exact (hfp b hb).1.2.1 z
      · exact (hfp b hb).1.2.2.1 z
  refine ⟨okB, os, bare, Un.kept kp, ⟨m0, by show s2.heap.Ns cenv.locals m0; rw [hL]; exact hns, fun i y av e1 e2 e3 => ?_⟩, fun y c e => ?_, ?_, fun y c e => I.freeC y c (cm e).1, fun p hp' => ?_, I.hok.kept kp, by rw [wipe_length]; exact I.len⟩
  · obtain ⟨e2, hne⟩ := wipe_some e2
    have hfr2 : scope.names.lookup y = some .free := by
      have e3 : Vis cenv.scope y := e3
      rw [hsc] at e3
      have no : ∀ {k : NameKind}, scope.names.lookup y = some k → ¬ (k = .local ∨ k = .cell) := fun {k} e hh => by
        rcases ok.own _ (PySem.mem_of_lookup e) hh with e' | e'
        · obtain ⟨p, hp, hpy⟩ := List.mem_map.mp e'
          have e3 := ok.ix p hp
          have : p.1 = y := hpy
          rw [this] at e3
          exact hne (List.mem_map.mpr ⟨p, hp, nodup_ix hN e3 e1⟩)
        · exact e' (List.mem_of_getElem? e1)
      rcases e3 with e3 | e3 | e3
      · exact absurd (.inl rfl) (no e3)
      · exact absurd (.inr rfl) (no e3)
      · exact e3
    obtain ⟨m, hn, hl⟩ := I.loc
    have hvis : Vis X.env.scope y := (ok.free _ (PySem.mem_of_lookup hfr2) rfl).elim (fun k => .inr (.inl k)) (fun k => .inr (.inr k))
    obtain ⟨w, r, q⟩ := hl i y av e1 e2 hvis
    refine ⟨w, r, .inr ⟨.inr (by show cenv.scope.names.lookup y = _; rw [hsc]; exact hfr2), ?_⟩⟩
    obtain ⟨c, h1, h2⟩ := look hfr2
    rcases q with ⟨k, _⟩ | ⟨_, c', e', z⟩
    · have k : X.env.scope.names.lookup y = some .local := k
      rcases ok.free _ (PySem.mem_of_lookup hfr2) rfl with k' | k' <;> rw [show X.env.scope.names.lookup y = _ from k'] at k <;> cases k
    · rw [h2] at e'; cases e'
      exact ⟨c, h1, z.keeps kp⟩
  · obtain ⟨w, z⟩ := I.cell y c (cm e).1
    exact ⟨w, z.keeps kp⟩
  · show H cenv.locals = none
    rw [hL]; exact I.hok.fresh hC
  · obtain ⟨p1, p2, p3, p4, p5⟩ := hp p hp'
    exact ⟨p1, p2, by show p.1 ≠ cenv.locals; rw [hL]; exact p3, p4, p5⟩
end
end HG
namespace HG
open PySem PySem.Spec PyProof.Rows L2 HM GenW
section
variable {X : Cx}
abbrev geLoop (elt tg iter : Expr) (ifs : List Expr) (scope : Scope) (pos : Pos) (it : Addr) (cenv : Env) : Code := .compLoop (.GeneratorExp elt [⟨tg, iter, ifs, 0⟩] scope pos) 0 (.ref it) .none cenv
theorem over_frames {A : Around} {elt tg iter : Expr} {ifs : List Expr} {scope : Scope} {pos : Pos} {it : Addr} {cenv : Env} {l : List Env} (h : A.frames = some l) : (A.over (geLoop elt tg iter ifs scope pos it cenv) []).frames = some (cenv :: l) := by
  show pushEnvs [cenv] (pushEnvs [] A.frames) = _
  rw [h]
  rfl
theorem over_room {A : Around} {elt tg iter : Expr} {ifs : List Expr} {scope : Scope} {pos : Pos} {it : Addr} {cenv : Env} {k : Nat} (r : Room (k + 1) A) : Room k (A.over (geLoop elt tg iter ifs scope pos it cenv) []) :=
  ⟨r.hd, by have := r.dp; show A.depth + 0 + 1 + 3 * k + 5 < _; omega, by have := r.un; show A.units + 0 + 3 + 16 * k + 200 < _; omega⟩
theorem seg_geLoop {elt tg iter : Expr} {ifs : List Expr} {scope : Scope} {pos : Pos} {it : Addr} {fp : List Addr} {tn : Nat → Heap → Prop} {J : It} {A : Around} {sc : Shared} {Hc : Hp} {cenv : Env} {a S : Addr} {g : Nat} {go : Obj} {σ : L2.St} {vs : List Nat} {cont : List V → Hp → Prop} {gt : TG} {tt : TT} {te : TE} {W : Nat → Nat → List V → Hp → Prop} {E : XK}
    (hc : X.calm = true) (hco : cenv.scope.isCoroutine = false) (T : Turn X.prog X.w X.K tg J fp it tn)
    (pg : PG (gx X (A.over (geLoop elt tg iter ifs scope pos it cenv) []) sc Hc cenv fp [(a, go)]) tg gt) (pt : PTs (gx X (A.over (geLoop elt tg iter ifs scope pos it cenv) []) sc Hc cenv fp [(a, go)]) ifs tt) (pe : PE (gx X (A.over (geLoop elt tg iter ifs scope pos it cenv) []) sc Hc cenv fp [(a, go)]) elt te)
    (hgo : ∀ h : Heap, h.get? a = some go → h.IsGen a g) (haS : a ≠ S) (hfa : ∀ b ∈ fp, b ≠ a ∧ b ≠ S) (hAp : Apart (gx X (A.over (geLoop elt tg iter ifs scope pos it cenv) []) sc Hc cenv fp [(a, go)]) S)
    (turn : ∀ i m ys H, W i m ys H → (J.stop i H ∧ cont ys H) ∨ (J.go i H ∧ ∃ Nx : List V → Hp → Prop, (∀ ys' H', Nx ys' H' → ∃ m', m' < m ∧ W (i + 1) m' ys' H') ∧ ∀ x H', J.yld i H x H' → gt x (wipe σ vs) H' fun σ2 H2 => wipe σ2 vs = wipe σ vs ∧ tt σ2 H2 fun b H3 =>
      if b = true then te σ2 H3 fun y H4 => ys.length < sizeLine ∧ Nx (ys ++ [y]) H4 else Nx ys H3)) :
    ∀ (m i n : Nat) (ys : List V) (H : Hp) (s₀ s : Shared), n + ys.length = sizeLine → GI (gx X (A.over (geLoop elt tg iter ifs scope pos it cenv) []) sc Hc cenv fp [(a, go)]) S [] ys (wipe σ vs) H s → tn i s.heap → (∀ b ∈ fp, H b = none) → W i m ys H →
      Seg (model X.prog X.w) A (REnd X.prog X.w X.stack Hc sc fp S a g cont E) (YItem sc S a g) n s₀ (geLoop elt tg iter ifs scope pos it cenv) ((model X.prog X.w).den (geLoop elt tg iter ifs scope pos it cenv)) [] s := by
  generalize hXg : gx X (A.over (geLoop elt tg iter ifs scope pos it cenv) []) sc Hc cenv fp [(a, go)] = Xg at pg pt pe hAp
  have xA : Xg.A = A.over (geLoop elt tg iter ifs scope pos it cenv) [] := by rw [← hXg]
  have xP : Xg.prog = X.prog := by rw [← hXg]
  have xw : Xg.w = X.w := by rw [← hXg]
  have xK : Xg.K = X.K := by rw [← hXg]
  have xc : Xg.calm = true := by rw [← hXg]; exact hc
  have xpn : Xg.pn = [(a, go)] := by rw [← hXg]
  have xex : Xg.ex = fp := by rw [← hXg]
  have xenv : Xg.env = cenv := by rw [← hXg]
  have xxe : ∀ e s, ¬ Xg.xe e s := fun e s z => by rw [← hXg] at z; exact z
  have stat : ∀ {σ' : L2.St} {H' : Hp} {s' : Shared} {ip : List (Addr × Obj)}, Inv Xg ip σ' H' s' → (∀ b ∈ fp, H' b = none) → (∀ p ∈ ip, ∀ b ∈ fp, p.1 ≠ b) → ∀ b ∈ fp, FpOk Xg ip H' b := fun {σ' H' s' ip} I' hn hi b hb =>
    ⟨hn b hb, (I'.ok.exf b (by rw [xex]; exact hb)).1, I'.ok.exfs b (by rw [xex]; exact hb), .inl (by rw [xex]; exact hb), fun x c e => (I'.ok.exf b (by rw [xex]; exact hb)).2 x c e, fun p hp => by
      rcases List.mem_append.mp hp with z | z
      · rw [xpn] at z
        rw [List.mem_singleton.mp z]
        exact Ne.symm (hfa b hb).1
      · exact hi p z b hb⟩
  have hpn : ∀ p ∈ Xg.pn, p.1 ≠ S := fun p hp => by
    rw [xpn] at hp
    rw [List.mem_singleton.mp hp]
    exact haS
  intro m
  induction m using Nat.strongRecOn with
  | ind m ih =>
  intro i n ys H s₀ s hn hI st hfn w
  show Seg _ A _ _ _ s₀ _ ((compTurn (.GeneratorExp elt [⟨tg, iter, ifs, 0⟩] scope pos) 0 (.ref it) .none cenv).onRaise (leaving cenv)) [] s
  rw [compTurn_gen, Sem.onRaise_eq_wrap]
  refine seg_bind_wrap (wpAny_standAt ?_)
  obtain ⟨hS0, hSL, hSf, _⟩ := hI.at
  obtain ⟨acc, c, ra, I⟩ := hI
  have hip : ∀ p ∈ [(S, lstObj acc c)], ∀ b ∈ fp, p.1 ≠ b := fun p hp b hb => by rw [List.mem_singleton.mp hp]; exact Ne.symm (hfa b hb).2
  rcases turn i m ys H w with ⟨stop, qq⟩ | ⟨gof, Nx, hNx, step⟩
  · have td := T.done Xg xP xw xK xc i [(S, lstObj acc c)] s _ H (fun _ _ => False) I (stat I hfn hip) st stop
    rw [xA] at td
    refine seg_bind_wrap (wpAny_mono td (fun r s6 ⟨hr, I6⟩ => ?_) fun _ _ e => e.elim)
    subst hr
    have e6 : s6.heap.get? S = some (lstObj acc c) := (I6.pin (S, lstObj acc c) (List.mem_append_right _ List.mem_cons_self)).1
    refine seg_end (.ok .next) (.inl ⟨.inr rfl, H, ys, acc, c, ?_, I6.bare, ?_, ?_, hS0, e6, ra, by omega, qq⟩)
    · have := I6.os; rw [← hXg] at this; exact this
    · have := I6.base; rw [← hXg] at this; exact this
    · have := I6.hok; rw [← hXg] at this; exact this
  · have ti := T.item Xg xP xw xK xc i [(S, lstObj acc c)] s _ H (fun _ _ => False) I (stat I hfn hip) st gof
    rw [xA] at ti
    refine seg_bind_wrap (wpAny_mono ti (fun r s6 ⟨u, hr, h6⟩ => ?_) fun _ _ e => e.elim)
    subst hr
    refine seg_bind_wrap (wpAny_mono h6 (fun _ s7 ⟨x, H7, I7, r7, y7, st7, n7⟩ => ?_) fun _ _ e => e.elim)
    have I7' := I7.pinned (stat I7 n7 hip) (T.obj _ _ st7)
    have g1 := pg.run _ s7 _ H7 x u _ I7' r7 (step x H7 y7)
    rw [xA, xP, xw, xenv] at g1
    refine seg_bind_wrap (wpAny_mono g1 (fun _ s8 ⟨σ8, H8, I8, hw8, q8⟩ => ?_) fun e s' z => absurd z (xxe e s'))
    have g2 := pt.run _ s8 σ8 H8 _ I8 q8
    rw [xA, xP, xw, xenv] at g2
    refine seg_bind_wrap (wpAny_mono g2 (fun b s9 ⟨H9, I9, q9⟩ => ?_) fun e s' z => absurd z (xxe e s'))
    have hfpS : ∀ p ∈ pinsAt fp s7.heap, p.1 ≠ S := fun p hp => (hfa p.1 (of_pinsAt hp).1).2
    -- the turn's end
    have fin : ∀ {s' : Shared} {H' : Hp} {ys' : List V}, GI Xg S (pinsAt fp s7.heap) ys' σ8 H' s' → Nx ys' H' → ∀ (n : Nat) (s₀ : Shared), n + ys'.length = sizeLine →
        Seg (model X.prog X.w) A (REnd X.prog X.w X.stack Hc sc fp S a g cont E) (YItem sc S a g) n s₀ (geLoop elt tg iter ifs scope pos it cenv) ((model X.prog X.w).den (geLoop elt tg iter ifs scope pos it cenv)) [] s' := fun {s' H' ys'} hI' nx n s₀ hn' => by
      obtain ⟨m', hm, w'⟩ := hNx ys' H' nx
      obtain ⟨acc', c', ra', I'⟩ := hI'
      have pin' : ∀ b ∈ fp, ∀ o, s7.heap.get? b = some o → s'.heap.get? b = some o ∧ H' b = none := fun b hb o e =>
        let z := I'.pin (b, o) (List.mem_append_right _ (List.mem_cons_of_mem _ (mem_pinsAt hb e)))
        ⟨z.1, z.2.1⟩
      have hl : (wipe σ vs).length = σ8.length := by rw [← hw8, wipe_length]
      have I'' : Inv Xg [(S, lstObj acc' c')] σ8 H' s' := I'.pins_of fun p hp => I'.pin p (List.mem_append_right _ (by rw [List.mem_singleton.mp hp]; exact List.mem_cons_self))
      refine ih m' hm (i + 1) n ys' H' s₀ s' hn' ⟨acc', c', ra', I''.weak hl fun j v e => ?_⟩ (T.keep _ _ _ st7 fun b hb o e => (pin' b hb o e).1) (fun b hb => ?_) w'
      · rw [← hw8] at e
        exact (wipe_some e).1
      · obtain ⟨o, e, _⟩ := T.obj _ _ st7 b hb
        exact (pin' b hb o e).2
    cases b with
    | false =>
      simp only [Bool.false_eq_true, if_false] at q9 ⊢
      exact seg_again rfl (fin ⟨acc, c, ra, I9⟩ q9 n s₀ hn)
    | true =>
      simp only [if_true] at q9 ⊢
      have hy : ∀ v, yieldOut cenv v = yieldValue v := fun v => by simp only [yieldOut, hco, Bool.false_eq_true, if_false]
      simp only [hy]
      rw [Sem.bind_eq_wrap', Sem.bind_eq_wrap', Sem.wrap_wrap, Sem.wrap_wrap]
      have g3 := pe.run _ s9 σ8 H9 _ I9 q9
      rw [xA, xP, xw, xenv] at g3
      refine seg_wrap (wpAny_mono g3 (fun z s10 ⟨yv, H10, I10, r10, hlt, nx⟩ => ?_) fun e s' z => absurd z (xxe e s'))
      obtain ⟨n', rfl⟩ : ∃ n', n = n' + 1 := ⟨n - 1, by omega⟩
      have e10 : s10.heap.get? S = some (lstObj acc c) := (I10.pin (S, lstObj acc c) (List.mem_append_right _ List.mem_cons_self)).1
      have ea : s10.heap.get? a = some go := (I10.pin (a, go) (List.mem_append_left _ (by rw [xpn]; exact List.mem_cons_self))).1
      have hsz : acc.size = ys.length := by
        have e1 := ra.length
        have e2 : acc.toList.length = acc.size := by simp
        omega
      refine seg_at (seg_yield rfl rfl rfl ⟨?_, I10.bare, I10.nolimit, hgo _ ea, ⟨acc, c, e10, by omega⟩, fun s'' slept => ?_⟩)
      · have := I10.os; rw [← hXg] at this; exact this
      · exact seg_again rfl (fin (GI.woken hpn hfpS hAp ⟨acc, c, ra, I10⟩ r10 slept) nx n' s'' (by rw [List.length_append, List.length_singleton]; omega))
end
end HG
namespace HG
open PySem PySem.Spec PyProof.Rows L2 HM GenW
/-- what a generator expression will hand out: W by the turn, a measure, what is out; the table at P may have grown -/
def tGe (P : Addr) (wi : TI) (g : TG) (tt : TT) (te : TE) (vs : List Nat) : TGen := fun σ H cont => wi σ H fun J H1 => GxR.TabG H1 P ∧ ∀ H2, GxR.Tabbed P H1 H2 → ∃ W : Nat → Nat → List V → Hp → Prop, (∃ m, W 0 m [] H2) ∧ ∀ i m ys H, W i m ys H →
  (J.stop i H ∧ cont ys H) ∨ (J.go i H ∧ ∃ Nx : List V → Hp → Prop, (∀ ys' H', Nx ys' H' → ∃ m', m' < m ∧ W (i + 1) m' ys' H') ∧ ∀ x H', J.yld i H x H' → g x (wipe σ vs) H' fun σ2 H2 => wipe σ2 vs = wipe σ vs ∧ tt σ2 H2 fun b H3 =>
    if b = true then te σ2 H3 fun y H4 => ys.length < sizeLine ∧ Nx (ys ++ [y]) H4 else Nx ys H3)
/-- the names of a generator expression's frame -/
structure GeS (scope : Scope) : Prop where
  co : scope.isCoroutine = false
  cell : ∀ y ∈ scope.names, y.2 ≠ .cell
  dot : scope.names.lookup (".0" : Str) = some NameKind.local
section
variable {X : Cx}
theorem seg_geStart {A : Around} {R : GenEnd} {Y : Protocol} {n : Nat} {s₀ s : Shared} {elt tg iter : Expr} {ifs : List Expr} {scope : Scope} {pos : Pos} {it : Addr} {cenv : Env} {fp : List Addr} {tn : Nat → Heap → Prop} {J : It}
    (T : Turn X.prog X.w X.K tg J fp it tn) (st : tn 0 s.heap) (loop : Seg (model X.prog X.w) A R Y n s₀ (geLoop elt tg iter ifs scope pos it cenv) ((model X.prog X.w).den (geLoop elt tg iter ifs scope pos it cenv)) [] s) :
    Seg (model X.prog X.w) A R Y n s₀ (.compStart (.GeneratorExp elt [⟨tg, iter, ifs, 0⟩] scope pos) 0 (.ref it) .none cenv) ((model X.prog X.w).den (.compStart (.GeneratorExp elt [⟨tg, iter, ifs, 0⟩] scope pos) 0 (.ref it) .none cenv)) [] s := by
  show Seg _ A _ _ _ s₀ _ ((compStart (.GeneratorExp elt [⟨tg, iter, ifs, 0⟩] scope pos) 0 (.ref it) .none cenv).onRaise (leaving cenv)) [] s
  unfold compStart
  rw [Sem.onRaise_eq_wrap]
  show Seg _ A _ _ _ s₀ _ ((ask >>= _).wrap _ _ _ _) [] s
  refine seg_bind_wrap (wpAny_askSetting ?_)
  split
  · exact seg_again rfl loop
  · first
      | exact seg_bind_wrap (wpAny_rule (seg_bind_wrap (wpAny_standAt (seg_bind_wrap (T.self _ 0 s _ _ st (seg_again rfl loop))))))
      | (refine seg_bind_wrap (wpAny_rule ?_); show Seg _ A _ _ _ s₀ _ ((standAt iter.pos >>= _).wrap _ _ _ _) [] s; exact seg_bind_wrap (wpAny_standAt (seg_bind_wrap (T.self _ 0 s _ _ st (seg_again rfl loop)))))
/-- THE RULE: a generator expression, not begun -/
theorem pgen_ge {c P : Addr} {elt tg iter : Expr} {ifs : List Expr} {scope : Scope} {own : List (Str × Nat)} {gpos : Pos} {wi : TI} {gt : TG} {tt : TT} {te : TE} {k j : Nat} {E : XK}
    (hc : X.calm = true) (hN : X.N.Nodup) (hr : Room j X.A) (TB : GxR.TabB X.base X.mg c P) (hcode : X.env.code = .ref c) (ok : BlkOk X.N X.env.scope scope own) (Sc : GeS scope) (hi : PI X tg iter wi)
    (hg : ∀ (A : Around) (s : Shared) (H : Hp) (C : Addr) (code : Value) (fp : List Addr) (pn : List (Addr × Obj)), PG (gx X A s H (genEnv scope (cloFrom X.env.cells scope.names []) C code builtinsNs X.env) fp pn) tg gt)
    (ht : ∀ (A : Around) (s : Shared) (H : Hp) (C : Addr) (code : Value) (fp : List Addr) (pn : List (Addr × Obj)), Room k A → PTs (gx X A s H (genEnv scope (cloFrom X.env.cells scope.names []) C code builtinsNs X.env) fp pn) ifs tt)
    (he : ∀ (A : Around) (s : Shared) (H : Hp) (C : Addr) (code : Value) (fp : List Addr) (pn : List (Addr × Obj)), Room k A → PE (gx X A s H (genEnv scope (cloFrom X.env.cells scope.names []) C code builtinsNs X.env) fp pn) elt te)
    (hs : ∀ v, genFold iter X.env v = pure v := by intro _; rfl) : PGen X (k + 1) (.GeneratorExp elt [⟨tg, iter, ifs, 0⟩] scope gpos) (tGe P wi gt tt te (own.map (·.2))) E := by
  refine ⟨fun pins s σ H cont I h => ?_⟩
  have hfree : ∀ y ∈ scope.names, y.2 = .free → ∃ c, X.env.cells.lookup y.1 = some c := fun y hy e => by
    rcases ok.free y hy e with k | k
    · exact I.ok.has _ (.inl k)
    · exact I.ok.has _ (.inr k)
  refine wpAny_GeneratorExp_make Sc.co (closure_ok hfree) Sc.cell Sc.dot ok.kind (by have := hr.dp; omega) (L2.thn (hi.run pins s σ H _ I h) fun xv s1 hx => L2.thn hx fun itv s2 h2 => ?_) hs
  obtain ⟨it, fp, tn, J, H2, e, I2, T, st2, f2, ⟨ps, hP, htr⟩, q⟩ := h2
  subst e
  have hPs : s2.heap.get? P = some { cls := .none, data := .fields ps } := I2.hok P _ hP
  have cd : PySem.W.CodeHd s2.heap c P := TB.code.keeps fun b u e => I2.bk b u e
  refine ⟨I2.nolimit, ?_⟩
  have sz : ∀ b ∈ fp, b < s2.heap.objs.size := fun b hb => by
    obtain ⟨o, e, _⟩ := T.obj _ _ st2 b hb
    exact Heap.lt_size e
  have key : ∀ (code : Value) (h3 : Heap) (tk : Nat) (more : Array Value), Heap.ExtBut P s2.heap h3 → s2.heap.objs.size ≤ h3.objs.size → h3.get? P = some { cls := .none, data := .fields (ps ++ more) } → TriplesOk (ps ++ more).toList →
      wpAny (model X.prog X.w) X.A (builtinsFor X.env.globals X.env.builtins) (fun bi s₄ =>
        ∀ h', h'.Ns s₄.heap.objs.size (fun y => if y = ".0" then some (.ref it) else none) → Heap.SameBut s₄.heap.objs.size (s₄.heap.push { cls := .type "frame", data := .dict #[] }) h' →
          ∃ H1 sc ex, Inv X pins σ H1 sc ∧ ExOk X pins ex ∧ GMade X.prog X.w (k + 1) X.stack H1 sc ex cont E (.ref h'.objs.size) { s₄ with
            gens := s₄.gens.push (.fresh (.compStart (.GeneratorExp elt [⟨tg, iter, ifs, 0⟩] scope gpos) 0 (.ref it) .none (genEnv scope (cloFrom X.env.cells scope.names []) s₄.heap.objs.size code bi X.env))),
            toks := s₄.toks + 1 + 1 + 1,
            heap := h'.push { cls := .type "generator", data := .fields #[.int s₄.gens.size 0, .str "<genexpr>" (s₄.toks + 1), .str (X.env.qual ++ "<genexpr>") (s₄.toks + 1 + 1)] } }) X.xe { s2 with heap := h3, toks := tk } := by
    intro code h3 tk more hx hsz hP3 ht3
    obtain ⟨bm, ob, e1, e2, e3, e4, e5, e6, e7, e8⟩ := TB.bm
    refine wpAny_builtinsFor (m := X.mg) (by rw [I2.ok.glob]; exact ((I2.mod.glob.keeps I2.bk)).extBut hx TB.gP) e1 e2 (hx _ _ e4 (I2.bk _ _ e5)) e6 e7 e8 ?_
    intro h' hn' hs'
    have J3 : Inv X pins σ (upd H2 P (.tbl (ps ++ more))) { s2 with heap := h3, toks := tk } := GxR.inv_tab (more := more) (h' := h3) (g' := s2.gens) (d' := s2.drawn) (t' := tk) I2 hP (fun b u hb e => hx b u hb e) hP3 I2.bare
    generalize hs4 : ({ s2 with heap := h3, toks := tk } : Shared) = s4 at J3 hn' hs' ⊢
    have h4 : s4.heap = h3 := by rw [← hs4]
    have g4 : s4.gens = s2.gens := by rw [← hs4]
    generalize hH3 : upd H2 P (.tbl (ps ++ more)) = H3 at J3
    obtain ⟨W, ⟨m0, w0⟩, turn⟩ := q H3 (by rw [← hH3]; exact ⟨⟨ps ++ more, upd_same, ht3⟩, fun b hb => upd_ne hb⟩)
    have bP : ∀ b ∈ fp, b ≠ P := fun b hb z => by
      have := (f2 b hb).1
      rw [z, hP] at this
      cases this
    have n3 : ∀ b ∈ fp, H3 b = none := fun b hb => by rw [← hH3, upd_ne (bP b hb)]; exact (f2 b hb).1
    have hsz' : h'.objs.size = s4.heap.objs.size + 1 := by rw [hs'.1, Heap.size_push]
    have keep' : ∀ b o, s4.heap.get? b = some o → h'.get? b = some o := fun b o e => hs'.extBut b o (Nat.ne_of_lt (Heap.lt_size e)) (Heap.get?_push_of_some _ e)
    generalize hgo : ({ cls := .type "generator", data := .fields #[.int s4.gens.size 0, .str "<genexpr>" (s4.toks + 1), .str (X.env.qual ++ "<genexpr>") (s4.toks + 1 + 1)] } : Obj) = go
    have keep5 : ∀ b o, s4.heap.get? b = some o → (h'.push go).get? b = some o := fun b o e => Heap.get?_push_of_some _ (keep' b o e)
    have hpush : (h'.push go).get? h'.objs.size = some go := Heap.get?_push_size _ (by rw [← hgo]; rfl)
    have hgen : ∀ h : Heap, h.get? h'.objs.size = some go → h.IsGen h'.objs.size s4.gens.size := fun h e => ⟨go, _, _, e, by rw [← hgo], by rw [← hgo], by rw [← hgo]⟩
    refine ⟨H3, s4, fp, J3, fun b hb => ⟨(f2 b hb).2.2.2.1, (f2 b hb).2.1, (f2 b hb).2.2.2.2.1, (f2 b hb).2.2.2.2.2⟩, h'.objs.size, s4.gens.size, _, rfl, by omega, ?_, hgen _ hpush, Array.getElem?_push_size .., rfl, AllBare.push J3.bare rfl, J3.nolimit.keeps keep5, keep5, ?_⟩
    · show _ < (h'.push go).objs.size
      rw [Heap.size_push]; exact Nat.lt_succ_self _
    intro Aw S s6 hrw hfr hS hk6 hSo hos hba
    have hSz : h'.objs.size < S := by
      have z : (h'.push go).objs.size ≤ S := hS
      rw [Heap.size_push] at z
      exact z
    obtain ⟨cS, heS⟩ := hSo
    have h4' : s4.heap.objs.size < h'.objs.size := by omega
    have hS4 : s4.heap.objs.size < S := Nat.lt_trans h4' hSz
    have kp6 : ∀ b o, s4.heap.get? b = some o → s6.heap.get? b = some o := fun b o e => hk6 b o (keep5 b o e)
    have nfr : ∀ b, s4.heap.objs.size ≤ b → b ∉ frs X.stack := fun b hb z => by
      obtain ⟨_, o, e, _⟩ := J3.stack.mem z
      exact absurd (Nat.lt_of_lt_of_le (Heap.lt_size e) hb) (Nat.lt_irrefl _)
    have hfp4 : ∀ b ∈ fp, FpOk X pins H3 b ∧ b < s4.heap.objs.size := fun b hb => ⟨⟨n3 b hb, (f2 b hb).2⟩, Nat.lt_of_lt_of_le (sz b hb) (by rw [h4]; exact hsz)⟩
    have I6 : Inv (gx X (Aw.over (geLoop elt tg iter ifs scope gpos it (genEnv scope (cloFrom X.env.cells scope.names []) s4.heap.objs.size code builtinsNs X.env)) []) s4 H3 (genEnv scope (cloFrom X.env.cells scope.names []) s4.heap.objs.size code builtinsNs X.env) fp [(h'.objs.size, go)]) [(S, lstObj #[] cS)] (wipe σ (own.map (·.2))) H3 s6 := by
      refine gen_start J3 ok hN Sc.cell hfp4 (Nat.le_refl _) (fun _ => hrw.hd) (over_frames hfr) kp6 ((hn'.push go).keeps hk6) hos hba fun p hp => ?_
      rcases List.mem_append.mp hp with z | z
      · rw [List.mem_singleton.mp z]
        exact ⟨hk6 _ _ hpush, J3.hok.fresh (by omega), by show h'.objs.size ≠ s4.heap.objs.size; omega, nfr _ (by omega), fun v z2 => by rw [← hgo] at z2; cases z2⟩
      · rw [List.mem_singleton.mp z]
        exact ⟨heS, J3.hok.fresh (Nat.le_of_lt hS4), Nat.ne_of_gt hS4, nfr _ (Nat.le_of_lt hS4), fun v z2 => by cases z2⟩
    have st6 : tn 0 s6.heap := T.keep _ _ _ st2 fun b hb o e => kp6 b o (by rw [h4]; exact hx b o (bP b hb) e)
    refine seg_geStart T st6 (seg_geLoop (W := W) (σ := σ) (vs := own.map (·.2)) hc Sc.co T (hg _ _ _ _ _ _ _) (ht _ _ _ _ _ _ _ (over_room hrw)) (he _ _ _ _ _ _ _ (over_room hrw)) hgen (Nat.ne_of_lt hSz) (fun b hb => ?_) ⟨Nat.le_of_lt hS4, Nat.ne_of_gt hS4, fun y c e z => ?_⟩ turn m0 0 sizeLine [] H3 s6 s6 (Nat.add_zero _) ⟨#[], cS, .nil, I6⟩ st6 n3 w0)
    · have := (hfp4 b hb).2
      exact ⟨Nat.ne_of_lt (Nat.lt_trans this h4'), Nat.ne_of_lt (Nat.lt_trans this hS4)⟩
    · have e : (cloFrom X.env.cells scope.names []).lookup y = some c := e
      rcases cloFrom_mem (PySem.mem_of_lookup e) with hm | ⟨h1, rfl⟩
      · cases hm
      · obtain ⟨c, hc2⟩ := hfree _ h1 rfl
        rw [hc2] at z
        obtain ⟨v, zc⟩ := J3.cell _ _ hc2
        have h5 := zc.lt
        have z : c = S := z
        rw [z] at h5
        exact absurd (Nat.lt_trans h5 hS4) (Nat.lt_irrefl _)
  cases hf : codeAmong gpos ps.toList with
  | some cv =>
    refine wpAny_genexprCode_hit hcode (cd.code hPs htr) hf ?_
    have e0 : ps ++ (#[] : Array Value) = ps := by simp
    exact key cv s2.heap s2.toks #[] (Heap.ExtBut.refl _ _) (Nat.le_refl _) (by rw [e0]; exact hPs) (by rw [e0]; exact htr)
  | none =>
    refine wpAny_genexprCodeX hcode (cd.code hPs htr) (cd.tab hPs) hf fun c' h' tk hx hge hlt hco' _ htab' _ => ?_
    obtain ⟨o1, vs, f1, tf, fl, tgv, inF, tx, tt', op, _, _, _, _, _, _, _, _, _, htr', _⟩ := hco'
    exact key _ h' tk _ hx (Nat.le_trans hge (Nat.le_of_lt hlt)) htab'.2 htr'
end
end HG
namespace HG
open PySem PySem.Spec PyProof.Rows L2 HM GenW
abbrev noX : XK := fun _ _ _ => False
/-- all that a generator hands out -/
theorem collect_made {P : Program} {w : World} {outer : List Env} {H : Hp} {sc s : Shared} {ex : List Addr} {Q : List V → Hp → Prop} {A : Around} {k : Nat} {u : Value} {Q' : List Value → Shared → Prop} {E : Value → Shared → Prop}
    (hr : Room (k + 3) A) (hfr : A.frames = some outer) (h : GMade P w k outer H sc ex Q noX u s)
    (hQ : ∀ S s' acc c H' ys, s.heap.objs.size ≤ S → s'.heap.get? S = some (lstObj acc c) → Vals ys acc.toList → ys.length ≤ sizeLine → s'.os = sc.os → AllBare s'.gens → Un (frs outer) ex H H' sc.heap s'.heap → HOk P w H' s'.heap → H' S = none → Q ys H' → Q' acc.toList s') :
    wpAny (model P w) A (collect u) Q' E s := by
  obtain ⟨a, g, c, rfl, ha1, ha2, hg, hgs, hos, hb, hl, hkp, wake⟩ := h
  have hSa : s.heap.objs.size ≠ a := Nat.ne_of_gt ha2
  have hcl : cStatics < s.heap.objs.size := let ⟨_, hn, _⟩ := hl; hn.lt
  have hSc : s.heap.objs.size ≠ cStatics := Nat.ne_of_gt hcl
  unfold collect
  refine wpAny_bind (wpAny_runValue (codeAny_builtin F.entry_proto_collect ?_))
  rw [Around.under_plainId F.plain_proto_collect _]
  show wpAny _ A.in1 (newList [] >>= fun l => again (.builtin "list.__iadd__" ⟨[l, .ref a], []⟩)) _ _ s
  refine wpAny_bind (wpAny_newObj_type ?_)
  refine wpAny_pure ⟨plainId_quiet F.plain_list_iadd _, codeAny_builtin F.entry_list_iadd ?_⟩
  rw [Around.under_plainId F.plain_list_iadd _]
  have hS : (s.heap.push { cls := .type "list", data := .seq ([] : List Value).toArray }).get? s.heap.objs.size = some { cls := .type "list", data := .seq ([] : List Value).toArray } := Heap.get?_push_size _ rfl
  show wpAny _ A.in1 (Builtin.List.listExtendWith (.ref s.heap.objs.size) (.ref a) (.ref s.heap.objs.size)) _ _ _
  unfold Builtin.List.listExtendWith
  have up : ∀ (h : Heap) (f : Obj → Obj), (∀ b o, s.heap.get? b = some o → h.get? b = some o) → ∀ b o, s.heap.get? b = some o → (h.update s.heap.objs.size f).get? b = some o := fun h f q b o e =>
    (Heap.get?_update_other _ _ (Ne.symm (Nat.ne_of_lt (Heap.lt_size e)))).trans (q b o e)
  have k1 : ∀ b o, s.heap.get? b = some o → (s.heap.push { cls := .type "list", data := .seq ([] : List Value).toArray }).get? b = some o := fun b o e => Heap.get?_push_of_some _ e
  have gty : ∀ {h : Heap}, (∀ b o, s.heap.get? b = some o → h.get? b = some o) → h.IsGen a g := fun {h} q => hg.keeps q
  refine wpAny_bind (wpAny_typeOf (Heap.IsGen.typeIs (s := { s with heap := _ }) (gty k1)) ?_)
  have h1 : Builtin.List.listSameRef (.ref s.heap.objs.size) (.ref a) = false := by simp [Builtin.List.listSameRef, hSa]
  have h2 : (Value.type "generator" == Value.type "list") = false := by decide
  have h3 : (Value.type "generator" == Value.type "tuple") = false := by decide
  simp only [h1, h2, h3, Bool.or_false, Bool.false_eq_true, if_false]
  refine wpAny_bind (wpAny_pyIter_gen (s := { s with heap := _ }) (gty k1) ?_)
  refine wpAny_bind (wpAny_holding ?_)
  unfold Builtin.List.listLengthHint
  refine wpAny_bind (wpAny_specialOf (Heap.IsGen.typeIs (s := { s with heap := _ }) (gty k1)) F.gen_no_len ?_)
  show wpAny _ A.in1 (specialOf (Value.ref a) (Str.ofString "__length_hint__") >>= _) _ _ _
  refine wpAny_bind (wpAny_specialOf (Heap.IsGen.typeIs (s := { s with heap := _ }) (gty k1)) F.gen_no_hint ?_)
  refine wpAny_pure ?_
  show wpAny _ A.in1 (rule "list.extend.makes-room" >>= fun _ => Builtin.List.listTouch (.ref s.heap.objs.size) >>= fun _ =>
    again (.builtin "list.extend.loop" ⟨[.ref s.heap.objs.size, .ref a, .ref s.heap.objs.size], []⟩)) _ _ _
  refine wpAny_bind (wpAny_rule ?_)
  refine wpAny_bind ?_
  show wpAny _ A.in1 (updateSeq s.heap.objs.size (·.push .none) >>= fun _ => updateSeq s.heap.objs.size (·.pop)) _ _ _
  refine wpAny_bind (wpAny_updateSeq hS rfl ?_)
  have hS3 := Heap.get?_update_self (Obj.mapSeq (·.push Value.none)) hS rfl
  refine wpAny_updateSeq (hz := by seq_fits) hS3 rfl ?_
  have hS4 := Heap.get?_update_self (Obj.mapSeq (·.pop)) hS3 rfl
  have k4 := up _ (Obj.mapSeq (·.pop)) (up _ (Obj.mapSeq (·.push Value.none)) k1)
  refine wpAny_pure ⟨plainId_quiet F.plain_extend_loop _, ?_⟩
  refine drain (P := P) (w := w) (outer := outer) (H := H) (sc := sc) (ex := ex) (Q := Q) (EX := noX) (A := A) (g := g) hr.hd (by have := hr.dp; show A.depth < _; omega) hSa hSc
    (fun s' acc c H' ys q1 q2 q3 q4 q5 q6 q7 q8 q9 => ?_) (fun e s' hc => ?_)
    sizeLine _ (gty k4) (hl.keeps k4) ⟨_, hgs, rfl, ?_⟩
  · show wpAny _ A (load s.heap.objs.size >>= _) _ _ s'
    refine wpAny_bind (wpAny_load q1 ?_)
    exact wpAny_pure (hQ _ s' acc c H' ys (Nat.le_refl _) q1 q2 q3 q4 q5 q6 q7 q8 q9)
  · obtain ⟨_, _, _, _, _, _, _, _, _, _, _, _, hW⟩ := hc
    exact hW.elim
  refine wake _ _ _ ⟨hr.hd, ?_, ?_⟩ hfr (Nat.le_refl _) k4 ⟨_, hS4⟩ hos (allBare_setGen (s := { s with heap := _ }) hb rfl)
  · have := hr.dp
    show A.depth + 3 * k + 5 < _
    omega
  · have := hr.un
    show A.units + 1 + 1 + 16 * k + 200 < _
    omega
end HG
namespace HG
open PySem PySem.Spec PyProof.Rows L2 HM GenW
open AutoSeq1 (wpAny_loadPart')
theorem GMade.ty {P : Program} {w : World} {k : Nat} {outer : List Env} {H : Hp} {sc s : Shared} {ex : List Addr} {Q : List V → Hp → Prop} {E : XK} {u : Value} (h : GMade P w k outer H sc ex Q E u s) : s.TypeIs u "generator" := by
  obtain ⟨a, g, c, rfl, ha1, ha2, hg, _⟩ := h
  exact hg.typeIs
theorem GMade.sz {P : Program} {w : World} {k : Nat} {outer : List Env} {H : Hp} {sc s : Shared} {ex : List Addr} {Q : List V → Hp → Prop} {E : XK} {u : Value} (h : GMade P w k outer H sc ex Q E u s) : sc.heap.objs.size ≤ s.heap.objs.size := by
  obtain ⟨a, g, c, rfl, ha1, ha2, hg, _⟩ := h
  exact Nat.le_trans ha1 (Nat.le_of_lt ha2)
theorem code_tuple_made {P : Program} {w : World} {outer : List Env} {H : Hp} {sc s : Shared} {ex : List Addr} {Q : List V → Hp → Prop} {A : Around} {k : Nat} {u : Value} {Q₁ : Value → Shared → Prop} {E : Value → Shared → Prop}
    (hr : Room (k + 4) A) (hfr : A.frames = some outer) (h : GMade P w k outer H sc ex Q noX u s)
    (hQ : ∀ (S : Addr) (s' : Shared) (acc : Array Value) (c : Nat) (H' : Hp) (ys : List V), s.heap.objs.size ≤ S → s'.heap.get? S = some (lstObj acc c) → Vals ys acc.toList → ys.length ≤ sizeLine → s'.os = sc.os → AllBare s'.gens → Un (frs outer) ex H H' sc.heap s'.heap → HOk P w H' s'.heap → H' S = none → Q ys H' → Q₁ (.ref s'.heap.objs.size) { s' with heap := s'.heap.push { cls := .type "tuple", data := .seq acc } }) :
    codeAny (model P w) A (.call (.builtin "tuple.__new__") ⟨[.type "tuple", u], []⟩) (wants Q₁ E) s := by
  refine codeAny_of_tree ?_
  obtain ⟨a, g, c, rfl, h'⟩ := id h
  show wpAny _ A.in1 (do checkBuiltinCall "tuple.__new__" ⟨[.type "tuple", .ref a], []⟩; again (.builtin "tuple.__new__" ⟨[.type "tuple", .ref a], []⟩)) _ _ s
  refine wpAny_bind (wpAny_of_eq (F.newCall_tuple_1 _) (wpAny_pure ⟨plainId_quiet F.plain_tuple_new _, codeAny_builtin F.entry_tuple_new ?_⟩))
  rw [Around.under_plainId F.plain_tuple_new _]
  have hsub := sub_tuple_self
  have hinit := init_tuple_lookup
  have hmh := madeHere_tuple
  have hTI := GMade.ty h
  have hr1 : Room (k + 3) A.in1 := ⟨hr.hd, by have := hr.dp; show A.depth + _ + _ < _; omega, by have := hr.un; show A.units + 1 + _ + _ < _; omega⟩
  wp_walk using wpAny_typeOf hTI, collect_made hr1 hfr h
  intro S s' acc c' H' ys q0 q1 q2 q3 q4 q5 q6 q7 q8 q9
  show wpAny _ _ (Builtin.Tuple.tupleExact acc.toList.toArray >>= fun v => ret v) _ _ _
  unfold Builtin.Tuple.tupleExact
  have hsz : acc.size ≤ sizeLine := by
    have e1 := q2.length
    have e2 : acc.toList.length = acc.size := by simp
    omega
  refine wpAny_bind (wpAny_newObj_type ?_ (by show acc.toList.toArray.size ≤ sizeLine; simp only [Array.toArray_toList]; exact hsz))
  refine wpAny_pure ?_
  have e : acc.toList.toArray = acc := by simp
  rw [e]
  exact hQ S s' acc c' H' ys q0 q1 q2 q3 q4 q5 q6 q7 q8 q9
theorem call_tuple_made {P : Program} {w : World} {outer : List Env} {H : Hp} {sc s : Shared} {ex : List Addr} {Q : List V → Hp → Prop} {A : Around} {k : Nat} {u : Value} {Q' : Value → Shared → Prop} {E : Value → Shared → Prop}
    (hr : Room (k + 5) A) (hfr : A.frames = some outer) (h : GMade P w k outer H sc ex Q noX u s)
    (hQ : ∀ (S : Addr) (s' : Shared) (acc : Array Value) (c : Nat) (H' : Hp) (ys : List V), s.heap.objs.size ≤ S → s'.heap.get? S = some (lstObj acc c) → Vals ys acc.toList → ys.length ≤ sizeLine → s'.os = sc.os → AllBare s'.gens → Un (frs outer) ex H H' sc.heap s'.heap → HOk P w H' s'.heap → H' S = none → Q ys H' → Q' (.ref s'.heap.objs.size) { s' with heap := s'.heap.push { cls := .type "tuple", data := .seq acc } }) :
    wpAny (model P w) A (call (.type "tuple") [u]) Q' E s := by
  have hr1 : Room (k + 4) A.in1 := ⟨hr.hd, by have := hr.dp; show A.depth + _ + _ < _; omega, by have := hr.un; show A.units + 1 + _ + _ < _; omega⟩
  refine callType_codes (Q₁ := fun obj s₁ => s₁.TypeIs obj "tuple" ∧ Q' obj s₁) F.called_tuple (F.typeCall_tuple_1 _) F.entry_object_init
    (code_tuple_made hr1 hfr h fun S s' acc c H' ys q0 q1 q2 q3 q4 q5 q6 q7 q8 q9 => ⟨⟨_, Heap.get?_push_size _ rfl, rfl⟩, hQ S s' acc c H' ys q0 q1 q2 q3 q4 q5 q6 q7 q8 q9⟩) fun obj s₁ h₁ => ?_
  exact ⟨h₁.1, F.args_object_init_2 obj _, object_init_meets F.called_tuple.init.lookup F.called_tuple.made (by decide) P w A.in1 _ s₁ ⟨h₁.1, rfl, h₁.2⟩⟩
section
variable {X : Cx}
/-- tuple(.. for ..): a list of what came, and the tuple -/
def tTupGe (tg : TGen) : TE := fun σ H Q => tg σ H fun ys H2 => ∀ S T, H2 S = none → S ≠ T → H2 T = none → Q (.ref T) (upd (upd H2 S (.lst ys)) T (.tup ys))
theorem pe_tupGe {k : Nat} {e : Expr} {tg : TGen} {p pos : Pos} (h : PGen X k e tg noX) (hr : Room (k + 5) X.A) (hg : Gl X "tuple") (hm : X.mg "tuple" = none)
    (he : starEach [e] X.env = (false, eval e X.env) :: starEach [] X.env := by rfl) : PE X (.Call (.Name "tuple" p) [e] [] pos) (tTupGe tg) := by
  refine ⟨fun pins s σ H Q I hq => ?_⟩
  refine Call_ (ld_blt I hg hm boot_tuple (PyProof.Rows.callWith_type1 (PyProof.Rows.args_cons ?_ he) he rfl))
  refine L2.thn (h.run pins s σ H _ I hq) fun u s1 ⟨H1, sc, ex, I1, hex, hG⟩ => ?_
  refine PyProof.Rows.args_nil ?_
  refine call_tuple_made hr I1.ok.frames hG fun S s' acc c H' ys q0 q1 q2 q3 q4 q5 q6 q7 q8 q9 => ?_
  have J := Inv.drained I1 (Nat.le_trans (GMade.sz hG) q0) q3 q1 q2 hex q4 q5 q6 q7 q8
  have hST : S ≠ s'.heap.objs.size := Nat.ne_of_lt (Heap.lt_size q1)
  have J2 : Inv X pins σ (upd (upd H' S (.lst ys)) s'.heap.objs.size (.tup ys)) { s' with heap := s'.heap.push { cls := .type "tuple", data := .seq acc } } := by
    refine J.laid (t' := s'.toks) (fun b o e => Heap.get?_push_of_some _ e) (Nat.le_refl _) ⟨q3, acc.toList, q2, ?_⟩
    exact ⟨_, Heap.get?_push_size _ rfl, rfl, _, by simp; rfl⟩
  exact ⟨.ref s'.heap.objs.size, _, J2, rfl, q9 S _ q8 hST (q7.fresh (Nat.le_refl _))⟩
end
end HG
namespace HG
open PySem PySem.Spec PyProof.Rows L2 HM GenW
end HG
namespace HG
open PySem PySem.Spec PyProof.Rows L2 HM GenW
end HG
namespace HG
open PySem PySem.Spec PyProof.Rows L2 HM GenW
end HG
namespace HG
open PySem PySem.Spec PyProof.Rows L2 HM GenW
end HG
namespace VL
open PySem PySem.Spec PyProof.Rows L2 HM HG
/-- the table of generators at P runs along -/
structure TabIn (am : Am) (P : Addr) : Prop where
  sp : am.sp P
  rd : ∀ {n F H}, am.ok n F H → GxR.TabG H P
  wr : ∀ {n F H H'}, am.ok n F H → GxR.Tabbed P H H' → am.ok n F H'
section
variable {c : Fc} {F H H' : Hp} {σ : L2.St} {env : Ev} {n : Nat} {P : Addr}
theorem Rel.tab (T : TabIn c.am P) (r : Rel c F H σ env n) (h : GxR.Tabbed P H H') : Rel c F H' σ env n := by
  have hF : F P = none := r.spf P T.sp
  refine ⟨fun b u e => ?_, r.spf, T.wr r.amb h, r.up0, r.out0, fun b u e nb => ?_, r.len, fun i s e => ?_, r.apart⟩
  · rw [h.2 b fun z => by rw [z, hF] at e; cases e]; exact r.sub b u e
  · rw [h.2 b fun z => nb (by rw [z]; exact T.sp)]; exact r.keep0 b u e nb
  · have q := r.sl i s e
    cases s with
    | no => trivial
    | fz d => exact q
    | ow kk =>
      obtain ⟨a, o, g1, g2, g3, g4, g5, g6⟩ := q
      exact ⟨a, o, g1, g2, g3, g4, by rw [h.2 a fun z => g4 (by rw [z]; exact T.sp)]; exact g5, g6⟩
end
section
variable {c : Fc} {P : Addr}
/-- what a generator expression hands out, by trees -/
theorem ge_of {wi : VTI} {g : TG} {gv : VTG} {tt : VTT} {te : VTE} {vs : List Nat} (T : TabIn c.am P) (hg : TgOk g gv vs) {σ : L2.St} {H : Hp} {cont : List V → Hp → Prop} {F : Hp} {env : Ev} {n : Nat} {Q : Con → Ev → Nat → Prop} (r : Rel c F H σ env n) (q : vLc wi gv tt te vs env n Q)
    (k : ∀ ys H' F' ds env' n', Rel c F' H' σ env' n' → Up F F' → Rps F' ys ds → Q (.lst ds) env' n' → cont ys H') : tGe P (iOf c wi) g (cOf c tt) (tOf c te) vs σ H cont := by
  refine ⟨F, env, n, _, r, q, fun J H1 F1 xs env1 n1 r1 u1 wk q1 => ?_⟩
  obtain ⟨no, hlen, Pv, p0, turn, fin⟩ := q1
  refine ⟨T.rd r1.amb, fun H2 hT => ?_⟩
  have r2 := r1.tab T hT
  refine ⟨fun i m ys H => m = xs.length - i ∧ i ≤ xs.length ∧ ∃ F' acc env n, Rel c F' H (L2.wipe σ vs) env n ∧ Up F1 F' ∧ Rps F' ys acc ∧ acc.length ≤ i ∧ Pv i acc env n, ⟨_, rfl, Nat.zero_le _, F1, [], _, n1, r2.wipe vs, Up.refl F1, .nil, Nat.zero_le _, p0⟩, ?_⟩
  rintro i m ys H3 ⟨rfl, hi, F3, acc, env3, n3, r3, u3, ra, hal, p3⟩
  obtain ⟨wg, ws⟩ := wk c rfl F3 H3 _ env3 n3 r3 u3 i
  by_cases hlt : i < xs.length
  · obtain ⟨go, yl⟩ := wg hlt
    refine .inr ⟨go, fun ys' H' => ∃ F' acc env n, Rel c F' H' (L2.wipe σ vs) env n ∧ Up F1 F' ∧ Rps F' ys' acc ∧ acc.length ≤ i + 1 ∧ Pv (i + 1) acc env n, fun ys' H' hN => ⟨xs.length - (i + 1), by omega, rfl, hlt, hN⟩, fun x H4 y => ?_⟩
    obtain ⟨F4, d, r4, u4, ed, rd⟩ := yl x H4 y
    refine hg _ F4 H4 _ env3 n3 x d _ _ r4 rd (turn i d acc env3 n3 ed p3) fun σ5 env5 n5 r5 hw q5 => ?_
    have hw' : L2.wipe σ5 vs = L2.wipe σ vs := hw.trans (List.ext_getElem? fun j => by
      rw [wipe_get, wipe_get, wipe_length]
      by_cases h : j ∈ vs ∧ j < σ.length
      · rw [if_pos h, if_pos h]
      · rw [if_neg h, if_neg h])
    refine ⟨hw', F4, env5, n5, _, r5, q5, fun b H6 F6 env6 n6 r6 u6 q6 => ?_⟩
    cases b with
    | true =>
      refine ⟨F6, env6, n6, _, r6, q6, fun v H7 F7 d7 env7 n7 r7 u7 rv q7 => ?_⟩
      have hyl : ys.length ≤ 5000 := by rw [ra.len]; omega
      exact ⟨small1000 hyl, F7, acc ++ [d7], _, n7, r7.wipe2 hw', ((u3.trans u4).trans u6).trans u7, (((ra.up u4).up u6).up u7).append (.cons rv .nil), by rw [List.length_append]; exact Nat.succ_le_succ hal, q7⟩
    | false => exact ⟨F6, acc, _, n6, r6.wipe2 hw', (u3.trans u4).trans u6, (ra.up u4).up u6, Nat.le_succ_of_le hal, q6⟩
  · have e : i = xs.length := by omega
    subst e
    exact .inl ⟨ws (Nat.le_refl _), k ys H3 F3 acc _ n3 (r2.rest u3 no r3) (u1.trans u3) ra (fin acc env3 n3 hal p3)⟩
/-- tuple(e for x in xs ..) -/
def vTupGe (wi : VTI) (g : VTG) (tt : VTT) (te : VTE) (vs : List Nat) : VTE := fun env n Q => vLc wi g tt te vs env n fun k env' n' => ∃ ds, k = .lst ds ∧ Q (.tup ds) env' n'
theorem tupGe_of {wi : VTI} {g : TG} {gv : VTG} {tt : VTT} {te : VTE} {vs : List Nat} (T : TabIn c.am P) (hg : TgOk g gv vs) {σ : L2.St} {H : Hp} {R : VK} (h : tOf c (vTupGe wi gv tt te vs) σ H R) : tTupGe (tGe P (iOf c wi) g (cOf c tt) (tOf c te) vs) σ H R := by
  obtain ⟨F, env, n, Q, r, q, k⟩ := h
  refine ge_of T hg r q fun ys H' F' ds env' n' r' u ra qd S T' hS hST hT => ?_
  obtain ⟨ds', e, qd⟩ := qd
  cases e
  have r2 := r'.lay hS (.lst ys)
  have hT2 : upd H' S (.lst ys) T' = none := by rw [upd_ne (Ne.symm hST)]; exact hT
  obtain ⟨_, _, nf⟩ := r2.new0 hT2
  exact k _ _ (upd F' T' (.tup ys)) _ env' n' (r2.layF hT2 _) (u.trans (up_lay nf)) (.tup upd_same (ra.up (up_lay nf))) qd
variable {X : Cx}
theorem ve_tupGe {cc : Addr} {elt tg iter : Expr} {ifs : List Expr} {scope : Scope} {own : List (Str × Nat)} {gpos p pos : Pos} {wi : VTI} {g : TG} {gv : VTG} {tt : VTT} {te : VTE} {k : Nat} (T : TabIn c.am P) (hc : X.calm = true) (hN : X.N.Nodup) (hr : Room (k + 6) X.A) (hgl : Gl X "tuple") (hm : X.mg "tuple" = none) (TB : GxR.TabB X.base X.mg cc P) (hcode : X.env.code = .ref cc)
    (Sc : GeS scope) (hi : PI X tg iter (iOf c wi)) (ok : BlkOk X.N X.env.scope scope own) (hgk : TgOk g gv (own.map (·.2)))
    (hg : ∀ (A : Around) (s : Shared) (H : Hp) (C : Addr) (code : Value) (fp : List Addr) (pn : List (Addr × Obj)), PG (gx X A s H (genEnv scope (cloFrom X.env.cells scope.names []) C code builtinsNs X.env) fp pn) tg g)
    (ht : ∀ (A : Around) (s : Shared) (H : Hp) (C : Addr) (code : Value) (fp : List Addr) (pn : List (Addr × Obj)), Room k A → PTs (gx X A s H (genEnv scope (cloFrom X.env.cells scope.names []) C code builtinsNs X.env) fp pn) ifs (cOf c tt))
    (he : ∀ (A : Around) (s : Shared) (H : Hp) (C : Addr) (code : Value) (fp : List Addr) (pn : List (Addr × Obj)), Room k A → PE (gx X A s H (genEnv scope (cloFrom X.env.cells scope.names []) C code builtinsNs X.env) fp pn) elt (tOf c te))
    (hs : ∀ v, genFold iter X.env v = pure v := by intro _; rfl) (hse : starEach [.GeneratorExp elt [⟨tg, iter, ifs, 0⟩] scope gpos] X.env = (false, eval (.GeneratorExp elt [⟨tg, iter, ifs, 0⟩] scope gpos) X.env) :: starEach [] X.env := by rfl) :
    PE X (.Call (.Name "tuple" p) [.GeneratorExp elt [⟨tg, iter, ifs, 0⟩] scope gpos] [] pos) (tOf c (vTupGe wi gv tt te (own.map (·.2)))) :=
  PE.imp (pe_tupGe (pgen_ge hc hN hr TB hcode ok Sc hi hg ht he hs) hr hgl hm hse) fun σ H R => tupGe_of T hgk
end
end VL
namespace HG
open PySem PySem.Spec PyProof.Rows L2 HM GenW
end HG
namespace VL
open PySem PySem.Spec PyProof.Rows L2 HM HG
end VL
namespace HM
open PySem PySem.Spec PyProof.Rows L2
end HM
namespace VL
open PySem PySem.Spec PyProof.Rows L2 HM
theorem iteB {a b : Prop} {k : Bool} (h1 : k = true → a) (h2 : k = false → b) : if k = true then a else b := by
  cases k with
  | true => exact h1 rfl
  | false => exact h2 rfl
end VL
namespace VL
open PySem PySem.Spec PyProof.Rows L2 HM
end VL
namespace VL
open PySem PySem.Spec PyProof.Rows L2 HM
def nD (i : Nat) : Dt := .int (i : Int)
def nsD (l : List Nat) : List Dt := l.map nD
def rowD (n : Nat) (m : Nat → Nat) : Dt := .lst (nsD ((List.range n).map m))
def houD (n : Nat) (m : Nat → Nat → Nat) : Dt := .lst ((List.range n).map fun a => rowD n (m a))
theorem flats_int : ∀ ns : List Int, flats (ns.map Dt.int) = true
  | [] => rfl
  | n :: ns => by rw [List.map_cons]; show (true && flats (ns.map Dt.int)) = true; rw [flats_int ns]; rfl
theorem nsD_len (l : List Nat) : (nsD l).length = l.length := List.length_map _
theorem nsD_get {l : List Nat} {i : Nat} {x : Nat} (h : l[i]? = some x) : atI (nsD l) (i : Int) = some (nD x) := atI_nat (by unfold nsD; rw [List.getElem?_map, h]; rfl)
theorem nsD_ints (l : List Nat) : nsD l = (l.map fun i : Nat => (i : Int)).map Dt.int := by unfold nsD; rw [List.map_map]; rfl
theorem row_at {n : Nat} {m : Nat → Nat} {i : Nat} (h : i < n) : atI (nsD ((List.range n).map m)) (i : Int) = some (nD (m i)) := nsD_get (by rw [List.getElem?_map, List.getElem?_range h]; rfl)
theorem hou_at {n : Nat} {m : Nat → Nat → Nat} {i : Nat} (h : i < n) : atI ((List.range n).map fun a => rowD n (m a)) (i : Int) = some (rowD n (m i)) := atI_nat (by rw [List.getElem?_map, List.getElem?_range h]; rfl)
theorem nsD_inj : ∀ {a b : List Nat}, nsD a = nsD b → a = b
  | [], [], _ => rfl
  | [], _ :: _, h => by cases h
  | _ :: _, [], h => by cases h
  | x :: a, y :: b, h => by
    unfold nsD at h
    rw [List.map_cons, List.map_cons] at h
    injection h with h1 h2
    have : x = y := by
      unfold nD at h1
      injection h1 with h1
      omega
    rw [this, nsD_inj h2]
/-- what comes of some numbers, from 0 on -/
inductive Rch (m : Nat → Nat → Nat) (gs : List Nat) : Nat → Prop
  | zero : Rch m gs 0
  | step {a g : Nat} : Rch m gs a → g ∈ gs → Rch m gs (m a g)
theorem Rch.lt {n : Nat} {m : Nat → Nat → Nat} {gs : List Nat} (h0 : 0 < n) (hm : ∀ a b, a < n → b < n → m a b < n) (hg : ∀ g ∈ gs, g < n) : ∀ {x : Nat}, Rch m gs x → x < n
  | _, .zero => h0
  | _, .step h g => hm _ _ (Rch.lt h0 hm hg h) (hg _ g)
theorem Rch.mono {m : Nat → Nat → Nat} {gs hs : List Nat} (h : ∀ g ∈ gs, g ∈ hs) : ∀ {x : Nat}, Rch m gs x → Rch m hs x
  | _, .zero => .zero
  | _, .step a g => .step (Rch.mono h a) (h _ g)
/-- the part of some numbers: rising, all that comes of them -/
structure IsPt (m : Nat → Nat → Nat) (gs : List Nat) (l : List Nat) : Prop where
  up : l.Pairwise (· < ·)
  mem : ∀ x, x ∈ l ↔ Rch m gs x
theorem rising_eq {a b : List Nat} (ha : a.Pairwise (· < ·)) (hb : b.Pairwise (· < ·)) (h : ∀ x, x ∈ a ↔ x ∈ b) : a = b := by
  have na : a.Nodup := ha.imp fun h => Nat.ne_of_lt h
  have nb : b.Nodup := hb.imp fun h => Nat.ne_of_lt h
  refine List.Perm.eq_of_pairwise (le := (· < ·)) (fun x y _ _ h1 h2 => absurd (Nat.lt_trans h1 h2) (Nat.lt_irrefl _)) ha hb ((List.perm_ext_iff_of_nodup na nb).mpr h)
/-- what is found on the way -/
structure Fnd (m : Nat → Nat → Nat) (gs : List Nat) (fs : List Nat) (at_ : Nat) : Prop where
  nd : fs.Nodup
  rc : ∀ x ∈ fs, Rch m gs x
  ze : 0 ∈ fs
  cl : ∀ i x, i < at_ → fs[i]? = some x → ∀ g ∈ gs, m x g ∈ fs
theorem Fnd.start (m : Nat → Nat → Nat) (gs : List Nat) : Fnd m gs [0] 0 := ⟨by simp, fun x hx => by rw [List.mem_singleton.mp hx]; exact .zero, by simp, fun i x h => absurd h (Nat.not_lt_zero i)⟩
theorem Fnd.all {m : Nat → Nat → Nat} {gs fs : List Nat} (h : Fnd m gs fs fs.length) : ∀ x, x ∈ fs ↔ Rch m gs x := fun x => ⟨h.rc x, fun r => by
  induction r with
  | zero => exact h.ze
  | step _ hg ih =>
    obtain ⟨i, hi, e⟩ := List.getElem_of_mem ih
    exact h.cl i _ hi (by rw [List.getElem?_eq_getElem hi, e]) _ hg⟩
theorem few_of_nodup {n : Nat} {l : List Nat} (nd : l.Nodup) (h : ∀ x ∈ l, x < n) : l.length ≤ n := by
  have := List.Nodup.length_le_of_subset nd (l₂ := List.range n) fun x hx => List.mem_range.mpr (h x hx)
  rw [List.length_range] at this
  exact this
theorem take_snoc' {α : Type} {l : List α} {j : Nat} {x : α} (h : l[j]? = some x) : l.take (j + 1) = l.take j ++ [x] := by rw [List.take_add_one, h]; rfl
theorem perm_cast {l : List Nat} {ns : List Int} (h : ns.Perm (l.map fun i : Nat => (i : Int))) : ∃ k : List Nat, ns = k.map (fun i : Nat => (i : Int)) ∧ k.Perm l := by
  obtain ⟨k, h1, h2⟩ := permInv h
  exact ⟨k, h2, h1⟩
theorem lt_of_le_nodup' {l : List Nat} (h : (l.map fun i : Nat => (i : Int)).Pairwise (· ≤ ·)) (nd : l.Nodup) : l.Pairwise (· < ·) := by
  rw [List.pairwise_map] at h
  exact (List.Pairwise.and h nd).imp fun {a b} ⟨h1, h2⟩ => by omega
end VL
namespace VL
open PySem PySem.Spec PyProof.Rows L2 HM
def spPart : VSp := fun ds t Q _ => ∃ (n : Nat) (m : Nat → Nat → Nat) (gs : List Nat), ds = [houD n m, .lst (nsD gs)] ∧ 0 < n ∧ n ≤ 60 ∧ gs.length < 64 ∧ (∀ a b, a < n → b < n → m a b < n) ∧ (∀ g ∈ gs, g < n) ∧ ∀ l : List Nat, IsPt m gs l → Q (.tup (nsD l)) t
end VL
namespace VL
open PySem PySem.Spec PyProof.Rows L2 HM
theorem valD_some {κ : Type} [DecidableEq κ] {kvs : List (κ × Dt)} {k : κ} : (valD kvs k).isSome = decide (k ∈ kvs.map (·.1)) := by
  induction kvs with
  | nil => rfl
  | cons p r ih =>
    unfold valD at ih ⊢
    by_cases h : p.1 = k
    · rw [List.find?_cons_of_pos (by simpa using h)]
      simp [h]
    · rw [List.find?_cons_of_neg (by simpa using h), ih]
      have h' : ¬ k = p.1 := fun z => h z.symm
      simp [h']
theorem putD_new {κ : Type} [DecidableEq κ] {kvs : List (κ × Dt)} {k : κ} {v : Dt} (h : k ∉ kvs.map (·.1)) : putD kvs k v = kvs ++ [(k, v)] := by
  unfold putD
  rw [if_neg]
  intro z
  rw [List.any_eq_true] at z
  obtain ⟨p, hp, e⟩ := z
  exact h (List.mem_map.mpr ⟨p, hp, of_decide_eq_true e⟩)
theorem keyN_mem {fs : List Nat} {x : Nat} : (Sum.inl (x : Int) : Key) ∈ fs.map (fun i : Nat => (Sum.inl (i : Int) : Key)) ↔ x ∈ fs := by
  rw [List.mem_map]
  constructor
  · rintro ⟨i, hi, e⟩
    have : (i : Int) = x := Sum.inl.inj e
    have : i = x := by omega
    rw [← this]; exact hi
  · exact fun h => ⟨x, h, rfl⟩
/-- what is found, and what waits -/
structure Wt (m : Nat → Nat → Nat) (gs : List Nat) (fs ws : List Nat) : Prop where
  nd : fs.Nodup
  rc : ∀ x ∈ fs, Rch m gs x
  ze : 0 ∈ fs
  sb : ∀ x ∈ ws, x ∈ fs
  wn : ws.Nodup
  cl : ∀ x ∈ fs, x ∉ ws → ∀ g ∈ gs, m x g ∈ fs
theorem Wt.all {m : Nat → Nat → Nat} {gs fs : List Nat} (h : Wt m gs fs []) : ∀ x, x ∈ fs ↔ Rch m gs x := fun x => ⟨h.rc x, fun r => by
  induction r with
  | zero => exact h.ze
  | step _ hg ih => exact h.cl _ ih (by simp) _ hg⟩
theorem nsD_last {l : List Nat} {x : Nat} : (nsD (l ++ [x]))[(nsD (l ++ [x])).length - 1]? = some (nD x) := by
  rw [nsD_len]
  unfold nsD
  rw [List.getElem?_map, List.length_append, List.length_singleton, Nat.add_sub_cancel, List.getElem?_append_right (Nat.le_refl _)]
  simp
theorem nsD_dropLast {l : List Nat} {x : Nat} : (nsD (l ++ [x])).dropLast = nsD l := by
  unfold nsD
  rw [List.map_append, List.map_cons, List.map_nil, List.dropLast_concat]
theorem nsD_app (l : List Nat) (x : Nat) : nsD l ++ [nD x] = nsD (l ++ [x]) := by unfold nsD; rw [List.map_append]; rfl
theorem pl_ns (l : List Nat) : pl (.lst (nsD l)) = true := pls_map (fun _ => rfl) l
theorem pl_nt (l : List Nat) : pl (.tup (nsD l)) = true := pls_map (fun _ => rfl) l
theorem dep_ns (l : List Nat) : dep (.lst (nsD l)) ≤ 64 := Nat.le_trans (Nat.succ_le_succ (deps_map (f := nD) (k := 0) (fun _ => Nat.le_refl 0) l)) (by decide)
theorem nsD_nil {l : List Nat} : Dt.lst (nsD l) = .lst [] ↔ l = [] := by
  cases l with
  | nil => exact ⟨fun _ => rfl, fun _ => rfl⟩
  | cons a l => exact ⟨(fun h => nomatch h), (fun h => nomatch h)⟩
end VL
namespace VL
open PySem PySem.Spec PyProof.Rows L2 HM
end VL
namespace VL
open PySem PySem.Spec PyProof.Rows L2 HM
end VL
namespace VL
open PySem PySem.Spec PyProof.Rows L2 HM
def pk4 (a : Addr) (t l : Int) (g : Bool) : List (Key × V) := [(.inr "script", .ref a), (.inr "at", .int t), (.inr "left", .int l), (.inr "great", .bl g)]
/-- the pen runs along -/
structure PenIn (K : PySem.W.Frag) (am : Am) (p : Addr) : Prop where
  pl : Plain am
  sp : am.sp p
  rd : ∀ {n F H}, am.ok n F H → ∃ a ns t l g, H p = some (.dK (pk4 a t l g)) ∧ Scr K H a ns ∧ ns.length ≤ 63 ∧ 0 ≤ t ∧ 0 ≤ l
  wr : ∀ {n F H a t l g}, am.ok n F H → H p = some (.dK (pk4 a t l g)) → ∀ (t' l' : Int) (g' : Bool), 0 ≤ t' → 0 ≤ l' → am.ok n F (upd H p (.dK (pk4 a t' l' g')))
/-- nothing but the pen is written -/
theorem PenIn.out {K : PySem.W.Frag} {am : Am} {p a : Addr} (h : PenIn K am p) {F H : Hp} {n : Nat} {t l : Int} {g : Bool} (u : Up F H) (hs : ∀ a, am.sp a → F a = none) (ha : am.ok n F H) (hp : H p = some (.dK (pk4 a t l g))) {t' l' : Int} {g' : Bool} (h1 : 0 ≤ t') (h2 : 0 ≤ l') :
    Out am F H F (upd H p (.dK (pk4 a t' l' g'))) n :=
  ⟨Up.refl F, fun b o e => by rw [upd_ne (fun (z : b = p) => by rw [z, hs p h.sp] at e; cases e)]; exact u b o e, hs, fun _ _ _ _ e => e, fun b o e nb => by rw [upd_ne (fun (z : b = p) => nb (by rw [z]; exact h.sp))]; exact e, h.wr ha hp t' l' g' h1 h2⟩
end VL
namespace VL
open PySem PySem.Spec PyProof.Rows L2 HM
end VL
namespace VL
open PySem PySem.Spec PyProof.Rows L2 HM
def prM (s o : Nat) (pw : Nat → Nat) (x y : Nat) : Nat := (x / o + pw (x % o) * (y / o)) % s * o + (x % o + y % o) % o
/-- powers by which the numbers of the one are led by those of the other -/
structure Pws (s o : Nat) (pw : Nat → Nat) : Prop where
  bd : ∀ a, pw a ≤ 12
  one : pw 0 % s = 1 % s
  add : ∀ a b, a < o → b < o → pw ((a + b) % o) % s = (pw a * pw b) % s
def pwB (s b : Nat) : Nat → Nat
  | 0 => 1
  | j + 1 => pwB s b j * b % s
theorem pwB_mod (s b : Nat) : ∀ j, pwB s b j % s = b ^ j % s
  | 0 => by rw [pwB, Nat.pow_zero]
  | j + 1 => by rw [pwB, Nat.mod_mod, Nat.mul_mod, pwB_mod s b j, ← Nat.mul_mod, ← Nat.pow_succ]
theorem pwB_le {s : Nat} (b : Nat) (h0 : 0 < s) (h : s ≤ 12) : ∀ j, pwB s b j ≤ 12
  | 0 => by rw [pwB]; decide
  | j + 1 => by
    rw [pwB]
    have := Nat.mod_lt (pwB s b j * b) h0
    omega
theorem pow_wrap {s o b : Nat} (h : b ^ o % s = 1 % s) : ∀ k, b ^ (k % o) % s = b ^ k % s := fun k => by
  have e := Nat.div_add_mod k o
  have : b ^ k = (b ^ o) ^ (k / o) * b ^ (k % o) := by rw [← Nat.pow_mul, ← Nat.pow_add, e]
  rw [this, Nat.mul_mod, Nat.pow_mod (b ^ o), h, ← Nat.pow_mod, Nat.one_pow, ← Nat.mul_mod, Nat.one_mul]
theorem pws_b {s o b : Nat} (h0 : 0 < s) (hs : s ≤ 12) (h : pwB s b o % s = 1 % s) : Pws s o (pwB s b) := by
  rw [pwB_mod] at h
  refine ⟨pwB_le b h0 hs, rfl, fun x y hx hy => ?_⟩
  rw [pwB_mod, pow_wrap h, Nat.pow_add, Nat.mul_mod, ← pwB_mod, ← pwB_mod, ← Nat.mul_mod]
end VL
namespace VL
open PySem PySem.Spec PyProof.Rows L2 HM
end VL
namespace VL
open PySem PySem.Spec PyProof.Rows L2 HM
def Tn (m : Nat) (l : List Nat) : Prop := l.Perm (List.range m)
theorem Tn.len {m : Nat} {l : List Nat} (h : Tn m l) : l.length = m := by rw [List.Perm.length_eq h, List.length_range]
theorem Tn.lt {m : Nat} {l : List Nat} (h : Tn m l) {x : Nat} (hx : x ∈ l) : x < m := List.mem_range.mp ((List.Perm.mem_iff h).mp hx)
theorem Tn.nd {m : Nat} {l : List Nat} (h : Tn m l) : l.Nodup := (List.Perm.nodup_iff h).mpr List.nodup_range
theorem Tn.all {m : Nat} {l : List Nat} (h : Tn m l) {x : Nat} (hx : x < m) : x ∈ l := (List.Perm.mem_iff h).mpr (List.mem_range.mpr hx)
theorem tn_of {m : Nat} {l : List Nat} (hl : l.length = m) (h : ∀ x ∈ l, x < m) (nd : l.Nodup) : Tn m l := by
  refine (List.perm_ext_iff_of_nodup nd List.nodup_range).mpr fun x => ⟨fun hx => List.mem_range.mpr (h x hx), fun hx => ?_⟩
  rcases Classical.em (x ∈ l) with z | z
  · exact z
  · have hx := List.mem_range.mp hx
    have := few_of_nodup (n := m) (l := x :: l) (List.nodup_cons.mpr ⟨z, nd⟩) fun y hy => by
      rcases List.mem_cons.mp hy with rfl | hy
      · exact hx
      · exact h y hy
    rw [List.length_cons, hl] at this
    omega
theorem flats_ns (l : List Nat) : flats (nsD l) = true := by rw [nsD_ints]; exact flats_int _
def tA (l : List Nat) (k : Nat) : Nat := l.getD k 0
theorem tA_get {l : List Nat} {k : Nat} (h : k < l.length) : l[k]? = some (tA l k) := by
  unfold tA
  rw [List.getD_eq_getElem?_getD, List.getElem?_eq_getElem h]
  rfl
theorem tA_mem {l : List Nat} {k : Nat} (h : k < l.length) : tA l k ∈ l := List.mem_of_getElem? (tA_get h)
theorem Tn.at_lt {m : Nat} {l : List Nat} (h : Tn m l) {k : Nat} (hk : k < m) : tA l k < m := h.lt (tA_mem (by rw [h.len]; exact hk))
theorem Tn.inj {m : Nat} {l : List Nat} (h : Tn m l) {i j : Nat} (hi : i < m) (hj : j < m) (e : tA l i = tA l j) : i = j := by
  have h1 : l[i]? = l[j]? := by rw [tA_get (by rw [h.len]; exact hi), tA_get (by rw [h.len]; exact hj), e]
  exact (List.getElem?_inj (by rw [h.len]; exact hi) h.nd).mp h1
theorem Tn.onto {m : Nat} {l : List Nat} (h : Tn m l) {x : Nat} (hx : x < m) : ∃ k, k < m ∧ tA l k = x := by
  obtain ⟨k, hk, e⟩ := List.getElem_of_mem (h.all hx)
  refine ⟨k, by rw [← h.len]; exact hk, ?_⟩
  have := tA_get hk
  rw [List.getElem?_eq_getElem hk, e] at this
  exact (Option.some.inj this).symm
theorem nsD_tA {l : List Nat} {k : Nat} (h : k < l.length) : atI (nsD l) (k : Int) = some (nD (tA l k)) := nsD_get (tA_get h)
end VL
namespace VL
open PySem PySem.Spec PyProof.Rows L2 HM
def spTurn (p : Addr) : VSp := fun ds t Q _ => ∃ m : Nat, ds = [.obj p, nD m] ∧ m ≤ 60 ∧ ∀ l, Tn m l → Q (.tup (nsD l)) t
end VL
namespace VL
open PySem PySem.Spec PyProof.Rows L2 HM
def tnB (m : Nat) (l : List Nat) : Bool := l.length == m && l.all (fun x => decide (x < m)) && decide l.Nodup
theorem tn_B {m : Nat} {l : List Nat} (h : tnB m l = true) : Tn m l := by
  unfold tnB at h
  rw [Bool.and_eq_true, Bool.and_eq_true, beq_iff_eq, List.all_eq_true, decide_eq_true_iff] at h
  exact tn_of h.1.1 (fun x hx => of_decide_eq_true (h.1.2 x hx)) h.2
def tnsD (ls : List (List Nat)) : List Dt := ls.map fun l => .tup (nsD l)
end VL
namespace VL
open PySem PySem.Spec PyProof.Rows L2 HM
end VL
namespace VL
open PySem PySem.Spec PyProof.Rows L2 HM
def thn (a b : List Nat) : List Nat := a.map (tA b)
def stay (m : Nat) : List Nat := List.range m
theorem thn_tn {m : Nat} {a b : List Nat} (ha : Tn m a) (hb : Tn m b) : Tn m (thn a b) := by
  refine tn_of (by unfold thn; rw [List.length_map, ha.len]) (fun x hx => ?_) ?_
  · obtain ⟨k, hk, rfl⟩ := List.mem_map.mp hx
    exact hb.at_lt (ha.lt hk)
  · unfold thn
    exact List.pairwise_map.mpr ((List.Pairwise.and_mem.mp ha.nd).imp fun {x y} h e => h.2.2 (hb.inj (ha.lt h.1) (ha.lt h.2.1) e))
theorem stay_tn (m : Nat) : Tn m (stay m) := List.Perm.refl _
theorem thn_stay {m : Nat} {a : List Nat} (ha : Tn m a) : thn a (stay m) = a := by
  unfold thn
  refine (List.map_congr_left fun x hx => ?_).trans (List.map_id a)
  unfold tA stay
  rw [List.getD_eq_getElem?_getD, List.getElem?_range (ha.lt hx)]
  rfl
theorem stay_thn {m : Nat} {a : List Nat} (ha : Tn m a) : thn (stay m) a = a := by
  refine List.ext_getElem? fun i => ?_
  unfold thn stay
  rw [List.getElem?_map]
  by_cases h : i < m
  · rw [List.getElem?_range h, tA_get (by rw [ha.len]; exact h)]
    rfl
  · rw [List.getElem?_eq_none (by rw [List.length_range]; omega), List.getElem?_eq_none (by rw [ha.len]; omega)]
    rfl
theorem tA_thn {a b : List Nat} {k : Nat} (h : k < a.length) : tA (thn a b) k = tA b (tA a k) := by
  have h1 : (thn a b)[k]? = some (tA b (tA a k)) := by
    unfold thn
    rw [List.getElem?_map, tA_get h]
    rfl
  unfold tA at h1 ⊢
  rw [List.getD_eq_getElem?_getD (l := thn a b), h1]
  rfl
theorem thn_assoc {m : Nat} {a b c : List Nat} (ha : Tn m a) (hb : Tn m b) : thn (thn a b) c = thn a (thn b c) := by
  unfold thn
  rw [List.map_map]
  refine List.map_congr_left fun x hx => ?_
  exact (tA_thn (b := c) (by rw [hb.len]; exact ha.lt hx)).symm
theorem thn_inj {m : Nat} {a b c : List Nat} (ha : Tn m a) (hb : Tn m b) (hc : Tn m c) (e : thn a b = thn a c) : b = c := by
  refine List.ext_getElem? fun i => ?_
  by_cases h : i < m
  · obtain ⟨k, hk, rfl⟩ := ha.onto h
    have e2 : tA (thn a b) k = tA (thn a c) k := by rw [e]
    rw [tA_thn (by rw [ha.len]; exact hk), tA_thn (by rw [ha.len]; exact hk)] at e2
    rw [tA_get (by rw [hb.len]; exact h), tA_get (by rw [hc.len]; exact h), e2]
  · rw [List.getElem?_eq_none (by rw [hb.len]; omega), List.getElem?_eq_none (by rw [hc.len]; omega)]
def itr (f : Nat → Nat) : Nat → Nat → Nat
  | 0, x => x
  | i + 1, x => f (itr f i x)
theorem itr_add (f : Nat → Nat) (i j x : Nat) : itr f (i + j) x = itr f i (itr f j x) := by
  induction i with
  | zero => rw [Nat.zero_add]; rfl
  | succ i ih => rw [Nat.succ_add]; show f _ = f _; rw [ih]
theorem itr_mul {f : Nat → Nat} {c x : Nat} (h : itr f c x = x) : ∀ q, itr f (q * c) x = x
  | 0 => by rw [Nat.zero_mul]; rfl
  | q + 1 => by rw [Nat.succ_mul, itr_add, h, itr_mul h q]
theorem itr_lt {m : Nat} {g : List Nat} (h : Tn m g) {x : Nat} (hx : x < m) : ∀ i, itr (tA g) i x < m
  | 0 => hx
  | i + 1 => h.at_lt (itr_lt h hx i)
theorem itr_inj {m : Nat} {g : List Nat} (h : Tn m g) {x y : Nat} (hx : x < m) (hy : y < m) : ∀ i, itr (tA g) i x = itr (tA g) i y → x = y
  | 0, e => e
  | i + 1, e => itr_inj h hx hy i (h.inj (itr_lt h hx i) (itr_lt h hy i) e)
theorem itr_back {m : Nat} {g : List Nat} (h : Tn m g) {x i j : Nat} (hx : x < m) (hij : i ≤ j) (e : itr (tA g) i x = itr (tA g) j x) : itr (tA g) (j - i) x = x := by
  have e2 : itr (tA g) i x = itr (tA g) i (itr (tA g) (j - i) x) := by rw [← itr_add, show i + (j - i) = j by omega]; exact e
  exact (itr_inj h hx (itr_lt h hx _) i e2).symm
theorem itr_ring {m : Nat} {g : List Nat} (h : Tn m g) {x : Nat} (hx : x < m) : ∃ c, 1 ≤ c ∧ c ≤ m ∧ itr (tA g) c x = x := by
  rcases Classical.em (∃ i j, i < j ∧ j ≤ m ∧ itr (tA g) i x = itr (tA g) j x) with ⟨i, j, hij, hj, e⟩ | no
  · exact ⟨j - i, by omega, by omega, itr_back h hx (by omega) e⟩
  · exfalso
    have nd : ((List.range (m + 1)).map fun i => itr (tA g) i x).Nodup := by
      refine List.pairwise_map.mpr (List.Pairwise.imp_of_mem (fun {a b} ha hb hab e => ?_) (List.pairwise_lt_range (n := m + 1)))
      exact no ⟨a, b, hab, by have := List.mem_range.mp hb; omega, e⟩
    have := few_of_nodup (n := m) nd fun y hy => by
      obtain ⟨i, _, rfl⟩ := List.mem_map.mp hy
      exact itr_lt h hx i
    rw [List.length_map, List.length_range] at this
    omega
theorem ring60 {m : Nat} {g : List Nat} (h : Tn m g) (hm : m ≤ 7) : (∀ x, x < m → itr (tA g) 60 x = x) ∨ ∀ x, x < m → itr (tA g) 7 x = x := by
  rcases Classical.em (∀ x, x < m → ∃ c, 1 ≤ c ∧ c ≤ 6 ∧ itr (tA g) c x = x) with al | no
  · refine .inl fun x hx => ?_
    obtain ⟨c, h1, h6, e⟩ := al x hx
    have hd : ∃ q, 60 = q * c := by
      rcases (by omega : c = 1 ∨ c = 2 ∨ c = 3 ∨ c = 4 ∨ c = 5 ∨ c = 6) with rfl | rfl | rfl | rfl | rfl | rfl
      · exact ⟨60, rfl⟩
      · exact ⟨30, rfl⟩
      · exact ⟨20, rfl⟩
      · exact ⟨15, rfl⟩
      · exact ⟨12, rfl⟩
      · exact ⟨10, rfl⟩
    obtain ⟨q, hq⟩ := hd
    rw [hq]
    exact itr_mul e q
  · refine .inr ?_
    obtain ⟨x, hn⟩ := Classical.not_forall.mp no
    obtain ⟨hx, hno⟩ := Classical.not_imp.mp hn
    clear hn
    obtain ⟨c, h1, hc, e⟩ := itr_ring h hx
    have hc7 : c = 7 := by
      rcases Nat.lt_or_ge c 7 with z | z
      · exact absurd ⟨c, h1, by omega, e⟩ hno
      · omega
    have hm7 : m = 7 := by omega
    subst hm7
    subst hc7
    have tn : Tn 7 ((List.range 7).map fun i => itr (tA g) i x) := by
      refine tn_of (by rw [List.length_map, List.length_range]) (fun y hy => ?_) ?_
      · obtain ⟨i, _, rfl⟩ := List.mem_map.mp hy
        exact itr_lt h hx i
      · refine List.pairwise_map.mpr (List.Pairwise.imp_of_mem (fun {a b} ha hb hab e2 => ?_) (List.pairwise_lt_range (n := 7)))
        have := List.mem_range.mp hb
        exact hno ⟨b - a, by omega, by omega, itr_back h hx (by omega) e2⟩
    intro y hy
    obtain ⟨i, _, rfl⟩ := List.mem_map.mp (tn.all hy)
    rw [← itr_add, Nat.add_comm, itr_add, e]
/-- what comes of some turns -/
inductive GR (m : Nat) (ts : List (List Nat)) : List Nat → Prop
  | stay : GR m ts (stay m)
  | step {a g : List Nat} : GR m ts a → g ∈ ts → GR m ts (thn a g)
theorem GR.tn {m : Nat} {ts : List (List Nat)} (h : ∀ g ∈ ts, Tn m g) : ∀ {a : List Nat}, GR m ts a → Tn m a
  | _, .stay => stay_tn m
  | _, .step a g => thn_tn (GR.tn h a) (h _ g)
theorem GR.mul {m : Nat} {ts : List (List Nat)} (h : ∀ g ∈ ts, Tn m g) {a : List Nat} (ha : GR m ts a) : ∀ {b : List Nat}, GR m ts b → GR m ts (thn a b)
  | _, .stay => by rw [thn_stay (ha.tn h)]; exact ha
  | _, .step b g => by rw [← thn_assoc (ha.tn h) (b.tn h)]; exact .step (GR.mul h ha b) g
def gpw (m : Nat) (g : List Nat) (i : Nat) : List Nat := (List.range m).map (itr (tA g) i)
theorem gpw_thn {m : Nat} {g : List Nat} (i : Nat) : thn (gpw m g i) g = gpw m g (i + 1) := by
  unfold thn gpw
  rw [List.map_map]
  rfl
theorem gpw_wrap {m : Nat} {g : List Nat} {c : Nat} (hc : ∀ x, x < m → itr (tA g) c x = x) : gpw m g c = gpw m g 0 := List.map_congr_left fun x hx => hc x (List.mem_range.mp hx)
theorem GR.one {m c : Nat} {g : List Nat} (h0 : 0 < c) (hc : ∀ x, x < m → itr (tA g) c x = x) : ∀ {a : List Nat}, GR m [g] a → ∃ i, i < c ∧ a = gpw m g i
  | _, .stay => ⟨0, h0, (List.map_id _).symm⟩
  | _, .step a g' => by
    obtain ⟨i, hi, rfl⟩ := GR.one h0 hc a
    rw [List.mem_singleton.mp g', gpw_thn]
    rcases Nat.lt_or_ge (i + 1) c with z | z
    · exact ⟨i + 1, z, rfl⟩
    · exact ⟨0, h0, by rw [show i + 1 = c by omega, gpw_wrap hc]⟩
theorem GR.few {m : Nat} {ts fs : List (List Nat)} (h : ∀ g ∈ ts, Tn m g) (hm : m ≤ 7) (h1 : ts.length ≤ 1) (nd : fs.Nodup) (hf : ∀ a ∈ fs, GR m ts a) : fs.length ≤ 60 := by
  match ts, h1 with
  | [], _ =>
    have : fs.length ≤ [VL.stay m].length := List.Nodup.length_le_of_subset nd fun a ha => by
      cases hf a ha with
      | stay => exact List.mem_singleton.mpr rfl
      | step _ z => cases z
    exact Nat.le_trans this (show 1 ≤ 60 by decide)
  | [g], _ =>
    obtain ⟨c, h0, h60, hc⟩ : ∃ c, 0 < c ∧ c ≤ 60 ∧ ∀ x, x < m → itr (tA g) c x = x := by
      rcases ring60 (h g (List.mem_singleton.mpr rfl)) hm with z | z
      · exact ⟨60, by decide, by decide, z⟩
      · exact ⟨7, by decide, by decide, z⟩
    have : fs.length ≤ ((List.range c).map (gpw m g)).length := List.Nodup.length_le_of_subset nd fun a ha => by
      obtain ⟨i, hi, rfl⟩ := GR.one h0 hc (hf a ha)
      exact List.mem_map.mpr ⟨i, List.mem_range.mpr hi, rfl⟩
    rw [List.length_map, List.length_range] at this
    omega
  | _ :: _ :: _, z => simp at z
end VL
namespace VL
open PySem PySem.Spec PyProof.Rows L2 HM
/-- a group of turns, the stay first -/
structure IsGr (m : Nat) (gl : List (List Nat)) : Prop where
  few : gl.length ≤ 60
  nd : gl.Nodup
  tn : ∀ a ∈ gl, Tn m a
  mul : ∀ a ∈ gl, ∀ b ∈ gl, thn a b ∈ gl
  hd : gl[0]? = some (stay m)
def iN (l : List Nat) : List Int := l.map fun i : Nat => (i : Int)
def kN (l : List Nat) : List Key := l.map fun i : Nat => (Sum.inl (i : Int) : Key)
theorem tup_key (l : List Nat) : Dt.tup (nsD l) = tupD (kN l) := by
  unfold tupD kN nsD
  rw [List.map_map]
  rfl
theorem kN_ikey (l : List Nat) : ikey (iN l) = kN l := by
  unfold ikey iN kN
  rw [List.map_map]
  rfl
theorem kN_inj : ∀ {a b : List Nat}, kN a = kN b → a = b := fun {a b} h => by
  refine nsD_inj ?_
  have : Dt.tup (nsD a) = Dt.tup (nsD b) := by rw [tup_key, tup_key, h]
  injection this
theorem kN_mem {fs : List (List Nat)} {x : List Nat} : kN x ∈ fs.map kN ↔ x ∈ fs := by
  rw [List.mem_map]
  exact ⟨fun ⟨y, hy, e⟩ => kN_inj e ▸ hy, fun h => ⟨x, h, rfl⟩⟩
theorem tns_int (gl : List (List Nat)) : (gl.map iN).map (fun l => Dt.tup (l.map Dt.int)) = tnsD gl := by
  unfold tnsD
  rw [List.map_map]
  refine List.map_congr_left fun l _ => ?_
  show Dt.tup ((iN l).map Dt.int) = _
  rw [nsD_ints]
  rfl
theorem tnsD_len (l : List (List Nat)) : (tnsD l).length = l.length := List.length_map _
theorem tnsD_last {l : List (List Nat)} {x : List Nat} : (tnsD (l ++ [x]))[(tnsD (l ++ [x])).length - 1]? = some (.tup (nsD x)) := by
  rw [tnsD_len]
  unfold tnsD
  rw [List.getElem?_map, List.length_append, List.length_singleton, Nat.add_sub_cancel, List.getElem?_append_right (Nat.le_refl _)]
  simp
theorem tnsD_dropLast {l : List (List Nat)} {x : List Nat} : (tnsD (l ++ [x])).dropLast = tnsD l := by
  unfold tnsD
  rw [List.map_append, List.map_cons, List.map_nil, List.dropLast_concat]
theorem tnsD_app (l : List (List Nat)) (x : List Nat) : tnsD l ++ [.tup (nsD x)] = tnsD (l ++ [x]) := by unfold tnsD; rw [List.map_append]; rfl
theorem tnsD_nil {l : List (List Nat)} : Dt.lst (tnsD l) = .lst [] ↔ l = [] := by
  cases l with
  | nil => exact ⟨fun _ => rfl, fun _ => rfl⟩
  | cons a l => exact ⟨(fun h => nomatch h), (fun h => nomatch h)⟩
theorem pl_tns (l : List (List Nat)) : pl (.lst (tnsD l)) = true := pls_map (fun x => pl_nt x) l
theorem dep_tns (l : List (List Nat)) : dep (.lst (tnsD l)) ≤ 64 := Nat.le_trans (Nat.succ_le_succ (deps_map (f := fun x => Dt.tup (nsD x)) (k := 1) (fun x => Nat.succ_le_succ (deps_map (f := nD) (k := 0) (fun _ => Nat.le_refl 0) x)) l)) (by decide)
theorem thn_lc (a g : List Nat) : (List.range (nsD a).length).map (fun j => nD (tA g (tA a j))) = nsD (thn a g) := by
  rw [nsD_len]
  unfold nsD thn
  rw [List.map_map]
  refine List.ext_getElem? fun i => ?_
  rw [List.getElem?_map, List.getElem?_map]
  by_cases h : i < a.length
  · rw [List.getElem?_range h, tA_get h]
    rfl
  · rw [List.getElem?_eq_none (by rw [List.length_range]; omega), List.getElem?_eq_none (by omega)]
    rfl
/-- of all turns the stay comes first -/
theorem stay_least {B : Int} : ∀ {n i : Nat} {l : List Nat}, l.length = n → l.Nodup → (∀ x ∈ l, i ≤ x) → TS.Bd B (iN (List.range' i n)) → TS.Bd B (iN l) → l = List.range' i n ∨ TS.code B (iN (List.range' i n)) < TS.code B (iN l)
  | 0, _, l, hl, _, _, _, _ => .inl (by rw [List.length_eq_zero_iff.mp hl]; rfl)
  | n + 1, i, [], hl, _, _, _, _ => by simp at hl
  | n + 1, i, x :: r, hl, nd, hx, b1, b2 => by
    rw [List.nodup_cons] at nd
    have hl' : r.length = n := by simpa using hl
    have hx0 := hx x List.mem_cons_self
    rw [List.range'_succ] at b1 ⊢
    have ll : (iN (List.range' (i + 1) n)).length = (iN r).length := by unfold iN; rw [List.length_map, List.length_map, List.length_range', hl']
    rcases Nat.lt_or_ge i x with z | z
    · exact .inr (TS.code_lt ll (TS.Bd.tail b1) (TS.Bd.tail b2) (by show (i : Int) < (x : Int); omega))
    · have e : x = i := by omega
      subst e
      rcases stay_least (i := x + 1) hl' nd.2 (fun y hy => by
        have h1 := hx y (List.mem_cons_of_mem _ hy)
        have h2 : y ≠ x := fun z => nd.1 (z ▸ hy)
        omega) (TS.Bd.tail b1) (TS.Bd.tail b2) with h | h
      · exact .inl (by rw [h])
      · exact .inr ((TS.code_same ll).mpr h)
theorem bd_tn {m : Nat} {a : List Nat} (h : Tn m a) : TS.Bd (m : Int) (iN a) := fun x hx => by
  obtain ⟨y, hy, rfl⟩ := List.mem_map.mp hx
  have := h.lt hy
  exact ⟨by omega, by omega⟩
theorem stay_first {m : Nat} {gl : List (List Nat)} (h : ∀ a ∈ gl, Tn m a) (hs : stay m ∈ gl) (hp : (gl.map iN).Pairwise fun q r => TS.code (m : Int) q ≤ TS.code (m : Int) r) : gl[0]? = some (stay m) := by
  match gl, h, hs, hp with
  | a :: r, h, hs, hp =>
    rw [List.map_cons, List.pairwise_cons] at hp
    have ha := h a List.mem_cons_self
    have e : stay m = List.range' 0 m := List.range_eq_range'
    rcases List.mem_cons.mp hs with z | z
    · rw [z]; rfl
    · have h1 := hp.1 (iN (stay m)) (List.mem_map.mpr ⟨_, z, rfl⟩)
      rcases stay_least (B := (m : Int)) (n := m) (i := 0) ha.len ha.nd (fun x _ => Nat.zero_le x) (by rw [← e]; exact bd_tn (stay_tn m)) (bd_tn ha) with h2 | h2
      · rw [h2, ← e]; rfl
      · rw [← e] at h2
        omega
theorem cut1 (ts : List (List Nat)) : cutD (tnsD ts) none (some 1) = tnsD (ts.take 1) := by
  unfold cutD
  rw [show HT.sIx (tnsD ts).length 0 none = 0 from rfl]
  match ts with
  | [] => rfl
  | a :: r =>
    rw [show HT.sIx (tnsD (a :: r)).length (tnsD (a :: r)).length (some 1) = 1 by
      rw [tnsD_len, List.length_cons]
      unfold HT.sIx
      simp]
    rfl
/-- what is found, and what waits -/
structure GWt (m : Nat) (ts fs ws : List (List Nat)) : Prop where
  nd : fs.Nodup
  rc : ∀ x ∈ fs, GR m ts x
  ze : stay m ∈ fs
  sb : ∀ x ∈ ws, x ∈ fs
  wn : ws.Nodup
  cl : ∀ x ∈ fs, x ∉ ws → ∀ g ∈ ts, thn x g ∈ fs
theorem GWt.all {m : Nat} {ts fs : List (List Nat)} (h : GWt m ts fs []) : ∀ x, x ∈ fs ↔ GR m ts x := fun x => ⟨h.rc x, fun r => by
  induction r with
  | stay => exact h.ze
  | step _ hg ih => exact h.cl _ ih (by simp) _ hg⟩
theorem rg_stay (m : Nat) : rngD 0 m = nsD (stay m) := by
  unfold rngD nsD stay
  refine List.map_congr_left fun i _ => ?_
  rw [Int.zero_add]
  rfl
end VL
namespace VL
open PySem PySem.Spec PyProof.Rows L2 HM
section
variable {P : Program} {w : World} {K : PySem.W.Frag} {mg : Str → Option Value} {base : Heap} {am : Am} {gd : Around → Prop} {k : Nat}
theorem never {f : Addr} {fd : FuncData} {ps : List Str} : VFn gd P w K mg base CX0 k f fd ps am (fun _ _ _ _ => False) :=
  ⟨fun vs H Q E ⟨_, _, _, _, _, _, _, _, _, h, _⟩ => h.elim, fun A out s H args us vs Q E hgd hr e0 hb r ⟨_, _, _, _, _, _, _, _, _, h, _⟩ => h.elim⟩
end
end VL
namespace VL
open PySem PySem.Spec PyProof.Rows L2 HM
end VL
namespace VL
open PySem PySem.Spec PyProof.Rows L2 HM
def glA (gl : List (List Nat)) (a : Nat) : List Nat := gl.getD a []
def tblM (gl : List (List Nat)) (a b : Nat) : Nat := gl.idxOf (thn (glA gl a) (glA gl b))
theorem glA_get {gl : List (List Nat)} {a : Nat} (h : a < gl.length) : gl[a]? = some (glA gl a) := by
  unfold glA
  rw [List.getD_eq_getElem?_getD, List.getElem?_eq_getElem h]
  rfl
theorem glA_mem {gl : List (List Nat)} {a : Nat} (h : a < gl.length) : glA gl a ∈ gl := List.mem_of_getElem? (glA_get h)
theorem tns_get {gl : List (List Nat)} {j : Nat} {x : Dt} (h : (tnsD gl)[j]? = some x) : x = .tup (nsD (glA gl j)) ∧ j < gl.length := by
  have hj := (List.getElem?_eq_some_iff.mp h).1
  rw [tnsD_len] at hj
  unfold tnsD at h
  rw [List.getElem?_map, glA_get hj] at h
  exact ⟨(Option.some.inj h).symm, hj⟩
/-- the numbers of the turns -/
def numK (gl : List (List Nat)) (j : Nat) : List (List Key × Dt) := (List.range j).map fun i => (kN (glA gl i), nD i)
theorem glA_inj {gl : List (List Nat)} (nd : gl.Nodup) {i j : Nat} (hi : i < gl.length) (hj : j < gl.length) (e : glA gl i = glA gl j) : i = j :=
  (List.getElem?_inj hi nd).mp (by rw [glA_get hi, glA_get hj, e])
theorem glA_idx {gl : List (List Nat)} {x : List Nat} (h : x ∈ gl) : glA gl (gl.idxOf x) = x := by
  have hl := List.idxOf_lt_length_of_mem h
  have := glA_get hl
  rw [List.getElem?_eq_getElem hl, List.getElem_idxOf hl] at this
  exact (Option.some.inj this).symm
theorem numK_val {gl : List (List Nat)} (nd : gl.Nodup) : ∀ {j a : Nat}, j ≤ gl.length → a < j → valD (numK gl j) (kN (glA gl a)) = some (nD a) := fun {j a} hj ha => by
  unfold valD numK
  rw [List.find?_map]
  have : (List.range j).find? ((fun p : List Key × Dt => decide (p.1 = kN (glA gl a))) ∘ fun i => (kN (glA gl i), nD i)) = some a := by
    rw [List.find?_eq_some_iff_getElem]
    refine ⟨by simp, a, by rw [List.length_range]; exact ha, by simp, fun i hi => ?_⟩
    rw [List.getElem_range]
    simp only [Function.comp, Bool.not_eq_true', decide_eq_false_iff_not]
    intro e
    have := glA_inj nd (by omega) (by omega) (kN_inj e)
    omega
  rw [this]
  rfl
end VL
namespace VL
open PySem PySem.Spec PyProof.Rows L2 HM
def spTable : VSp := fun ds t Q _ => ∃ (m : Nat) (gl : List (List Nat)), ds = [.lst (tnsD gl)] ∧ m ≤ 7 ∧ IsGr m gl ∧ Q (houD gl.length (tblM gl)) t
end VL
namespace VL
open PySem PySem.Spec PyProof.Rows L2 HM
structure Hse (n : Nat) (m : Nat → Nat → Nat) : Prop where
  pos : 0 < n
  lt : ∀ a b, a < n → b < n → m a b < n
  zl : ∀ a, a < n → m 0 a = a
  zr : ∀ a, a < n → m a 0 = a
  as : ∀ a b c, a < n → b < n → c < n → m (m a b) c = m a (m b c)
  cn : ∀ a b c, a < n → b < n → c < n → m a b = m a c → b = c
/-- each number has a contrary -/
theorem Hse.inv {n : Nat} {m : Nat → Nat → Nat} (h : Hse n m) {a : Nat} (ha : a < n) : ∃ b, b < n ∧ m a b = 0 := by
  have tn : Tn n ((List.range n).map (m a)) := by
    refine tn_of (by rw [List.length_map, List.length_range]) (fun x hx => ?_) ?_
    · obtain ⟨b, hb, rfl⟩ := List.mem_map.mp hx
      exact h.lt a b ha (List.mem_range.mp hb)
    · refine List.pairwise_map.mpr (List.Pairwise.imp_of_mem (fun {x y} hx hy hxy e => ?_) (List.pairwise_lt_range (n := n)))
      have := h.cn a x y ha (List.mem_range.mp hx) (List.mem_range.mp hy) e
      omega
  obtain ⟨b, hb, e⟩ := List.mem_map.mp (tn.all h.pos)
  exact ⟨b, List.mem_range.mp hb, e⟩
theorem Hse.rch {n : Nat} {m : Nat → Nat → Nat} (h : Hse n m) {gs : List Nat} (hg : ∀ g ∈ gs, g < n) {a b : Nat} (ha : Rch m gs a) (hb : Rch m gs b) : Rch m gs (m a b) := by
  induction hb with
  | zero => rw [h.zr a (ha.lt h.pos h.lt hg)]; exact ha
  | step r g ih => rw [← h.as a _ _ (ha.lt h.pos h.lt hg) (r.lt h.pos h.lt hg) (hg _ g)]; exact .step ih g
/-- the house of a group of turns -/
theorem hse_tbl {m : Nat} {gl : List (List Nat)} (h : IsGr m gl) : Hse gl.length (tblM gl) := by
  have h0 : 0 < gl.length := by
    have := h.hd
    exact (List.getElem?_eq_some_iff.mp this).1
  have e0 : glA gl 0 = stay m := Option.some.inj ((glA_get h0).symm.trans h.hd)
  have hin : ∀ {a b}, a < gl.length → b < gl.length → thn (glA gl a) (glA gl b) ∈ gl := fun ha hb => h.mul _ (glA_mem ha) _ (glA_mem hb)
  have lt : ∀ a b, a < gl.length → b < gl.length → tblM gl a b < gl.length := fun a b ha hb => List.idxOf_lt_length_of_mem (hin ha hb)
  have at_ : ∀ {a b}, a < gl.length → b < gl.length → glA gl (tblM gl a b) = thn (glA gl a) (glA gl b) := fun ha hb => glA_idx (hin ha hb)
  have tn : ∀ {a}, a < gl.length → Tn m (glA gl a) := fun ha => h.tn _ (glA_mem ha)
  refine ⟨h0, lt, fun a ha => ?_, fun a ha => ?_, fun a b c ha hb hc => ?_, fun a b c ha hb hc e => ?_⟩
  · exact glA_inj h.nd (lt 0 a h0 ha) ha (by rw [at_ h0 ha, e0, stay_thn (tn ha)])
  · exact glA_inj h.nd (lt a 0 ha h0) ha (by rw [at_ ha h0, e0, thn_stay (tn ha)])
  · refine glA_inj h.nd (lt _ _ (lt _ _ ha hb) hc) (lt _ _ ha (lt _ _ hb hc)) ?_
    rw [at_ (lt _ _ ha hb) hc, at_ ha (lt _ _ hb hc), at_ ha hb, at_ hb hc, thn_assoc (tn ha) (tn hb)]
  · refine glA_inj h.nd hb hc (thn_inj (tn ha) (tn hb) (tn hc) ?_)
    rw [← at_ ha hb, ← at_ ha hc, e]
/-- numbered anew: o leads the old numbers to the new ones -/
theorem hse_ren {n : Nat} {m m' : Nat → Nat → Nat} {o : List Nat} (h : Hse n m) (ho : Tn n o) (h0 : tA o 0 = 0) (e : ∀ a b, a < n → b < n → m' (tA o a) (tA o b) = tA o (m a b)) : Hse n m' := by
  have z : m' 0 0 = 0 ∨ True := .inr trivial
  refine ⟨h.pos, fun a b ha hb => ?_, fun a ha => ?_, fun a ha => ?_, fun a b c ha hb hc => ?_, fun a b c ha hb hc e2 => ?_⟩
  · obtain ⟨x, hx, rfl⟩ := ho.onto ha
    obtain ⟨y, hy, rfl⟩ := ho.onto hb
    rw [e x y hx hy]
    exact ho.at_lt (h.lt x y hx hy)
  · obtain ⟨x, hx, rfl⟩ := ho.onto ha
    have := e 0 x h.pos hx
    rw [h0, h.zl x hx] at this
    exact this
  · obtain ⟨x, hx, rfl⟩ := ho.onto ha
    have := e x 0 hx h.pos
    rw [h0, h.zr x hx] at this
    exact this
  · obtain ⟨x, hx, rfl⟩ := ho.onto ha
    obtain ⟨y, hy, rfl⟩ := ho.onto hb
    obtain ⟨z, hz, rfl⟩ := ho.onto hc
    rw [e x y hx hy, e y z hy hz, e _ z (h.lt x y hx hy) hz, e x _ hx (h.lt y z hy hz), h.as x y z hx hy hz]
  · obtain ⟨x, hx, rfl⟩ := ho.onto ha
    obtain ⟨y, hy, rfl⟩ := ho.onto hb
    obtain ⟨z, hz, rfl⟩ := ho.onto hc
    rw [e x y hx hy, e x z hx hz] at e2
    rw [h.cn x y z hx hy hz (ho.inj (h.lt x y hx hy) (h.lt x z hx hz) e2)]
end VL
namespace VL
open PySem PySem.Spec PyProof.Rows L2 HM
theorem cg_mul {s a b c d : Nat} (h1 : a % s = b % s) (h2 : c % s = d % s) : (a * c) % s = (b * d) % s := by rw [Nat.mul_mod, h1, h2, ← Nat.mul_mod]
theorem cg_add {s a b c d : Nat} (h1 : a % s = b % s) (h2 : c % s = d % s) : (a + c) % s = (b + d) % s := by rw [Nat.add_mod, h1, h2, ← Nat.add_mod]
theorem cg_cancel {s a b c : Nat} (hs : 0 < s) (h : (a + b) % s = (a + c) % s) : b % s = c % s := by
  have e := cg_add (rfl : ((s - 1) * a) % s = ((s - 1) * a) % s) h
  have f : ∀ y, (s - 1) * a + (a + y) = y + s * a := fun y => by
    have : (s - 1) * a + a = s * a := by rw [← Nat.succ_mul, Nat.succ_eq_add_one, Nat.sub_add_cancel hs]
    omega
  rw [f, f, Nat.add_mul_mod_self_left, Nat.add_mul_mod_self_left] at e
  exact e
theorem pr_div {o A B : Nat} (h : B < o) : (A * o + B) / o = A := by rw [Nat.mul_comm, Nat.mul_add_div (by omega), Nat.div_eq_of_lt h, Nat.add_zero]
theorem pr_mod {o A B : Nat} (h : B < o) : (A * o + B) % o = B := by rw [Nat.mul_comm, Nat.mul_add_mod, Nat.mod_eq_of_lt h]
theorem pr_lt {s o A B : Nat} (hA : A < s) (hB : B < o) : A * o + B < s * o := by
  have := Nat.mul_le_mul_right o (show A + 1 ≤ s by omega)
  rw [Nat.succ_mul] at this
  omega
theorem pr_eq (o x : Nat) : x / o * o + x % o = x := by rw [Nat.mul_comm]; exact Nat.div_add_mod x o
theorem hse_pairs {s o : Nat} {pw : Nat → Nat} (hs : 0 < s) (ho : 0 < o) (h : Pws s o pw) : Hse (s * o) (prM s o pw) := by
  have dv : ∀ {x}, x < s * o → x / o < s := fun hx => Nat.div_lt_of_lt_mul (by rw [Nat.mul_comm]; exact hx)
  have md : ∀ x, x % o < o := fun x => Nat.mod_lt _ ho
  have ms : ∀ x, x % s < s := fun x => Nat.mod_lt _ hs
  have fd : ∀ x y, prM s o pw x y / o = (x / o + pw (x % o) * (y / o)) % s := fun x y => pr_div (md _)
  have fm : ∀ x y, prM s o pw x y % o = (x % o + y % o) % o := fun x y => pr_mod (md _)
  have ext : ∀ {x y : Nat}, x / o = y / o → x % o = y % o → x = y := fun {x y} e1 e2 => by rw [← pr_eq o x, ← pr_eq o y, e1, e2]
  refine ⟨Nat.mul_pos hs ho, fun a b ha hb => pr_lt (ms _) (md _), fun a ha => ?_, fun a ha => ?_, fun a b c ha hb hc => ?_, fun a b c ha hb hc e => ?_⟩
  · refine ext ?_ ?_
    · rw [fd, Nat.zero_mod, Nat.zero_div, Nat.zero_add, cg_mul h.one (rfl : (a / o) % s = (a / o) % s), Nat.one_mul, Nat.mod_eq_of_lt (dv ha)]
    · rw [fm, Nat.zero_mod, Nat.zero_add, Nat.mod_mod]
  · refine ext ?_ ?_
    · rw [fd, Nat.zero_div, Nat.mul_zero, Nat.add_zero, Nat.mod_eq_of_lt (dv ha)]
    · rw [fm, Nat.zero_mod, Nat.add_zero, Nat.mod_mod]
  · refine ext ?_ ?_
    · rw [fd, fd a, fd a, fm, fd b]
      have e1 : ((a / o + pw (a % o) * (b / o)) % s + pw ((a % o + b % o) % o) * (c / o)) % s = ((a / o + pw (a % o) * (b / o)) + (pw (a % o) * pw (b % o)) * (c / o)) % s := cg_add (Nat.mod_mod _ _) (cg_mul (h.add _ _ (md a) (md b)) rfl)
      have e2 : (a / o + pw (a % o) * ((b / o + pw (b % o) * (c / o)) % s)) % s = (a / o + pw (a % o) * (b / o + pw (b % o) * (c / o))) % s := cg_add rfl (cg_mul rfl (Nat.mod_mod _ _))
      rw [e1, e2, Nat.mul_add, ← Nat.mul_assoc, Nat.add_assoc]
    · rw [fm, fm a, fm a, fm b]
      have e1 : ((a % o + b % o) % o + c % o) % o = (a % o + b % o + c % o) % o := cg_add (Nat.mod_mod _ _) rfl
      have e2 : (a % o + (b % o + c % o) % o) % o = (a % o + (b % o + c % o)) % o := cg_add rfl (Nat.mod_mod _ _)
      rw [e1, e2, Nat.add_assoc]
  · have e1 : prM s o pw a b / o = prM s o pw a c / o := by rw [e]
    have e2 : prM s o pw a b % o = prM s o pw a c % o := by rw [e]
    rw [fd, fd] at e1
    rw [fm, fm] at e2
    refine ext ?_ ?_
    · have e3 := cg_cancel hs e1
      have ja := md a
      have e4 : (pw ((o - a % o) % o) * pw (a % o)) % s = 1 % s := by
        rw [← h.add _ _ (md _) ja, ← h.one]
        congr 2
        have : ((o - a % o) % o + a % o) % o = ((o - a % o) + a % o) % o := cg_add (Nat.mod_mod _ _) rfl
        rw [this, Nat.sub_add_cancel (Nat.le_of_lt ja), Nat.mod_self]
      have e5 : ∀ y, (pw ((o - a % o) % o) * (pw (a % o) * y)) % s = y % s := fun y => by rw [← Nat.mul_assoc, cg_mul e4 (rfl : y % s = y % s), Nat.one_mul]
      have e6 := cg_mul (rfl : pw ((o - a % o) % o) % s = _) e3
      rw [e5, e5, Nat.mod_eq_of_lt (dv hb), Nat.mod_eq_of_lt (dv hc)] at e6
      exact e6
    · have e3 := cg_cancel ho e2
      rw [Nat.mod_mod, Nat.mod_mod] at e3
      exact e3
end VL
namespace VL
open PySem PySem.Spec PyProof.Rows L2 HM
end VL
namespace VL
open PySem PySem.Spec PyProof.Rows L2 HM
end VL
namespace VL
open PySem PySem.Spec PyProof.Rows L2 HM
def spRen (p : Addr) : VSp := fun ds t Q _ => ∃ (n : Nat) (m : Nat → Nat → Nat), ds = [.obj p, houD n m] ∧ Hse n m ∧ n ≤ 60 ∧ ∀ m', Hse n m' → Q (houD n m') t
def spHouse (p : Addr) : VSp := fun ds t Q _ => ds = [.obj p] ∧ ∀ (n : Nat) (m : Nat → Nat → Nat), Hse n m → n ≤ 60 → Q (houD n m) t
end VL
namespace VL
open PySem PySem.Spec PyProof.Rows L2 HM
theorem rep_ints (n : Nat) : List.flatten (List.replicate n [Dt.int 0]) = (List.replicate n (0 : Int)).map Dt.int := by
  induction n with
  | zero => rfl
  | succ n ih => rw [List.replicate_succ, List.flatten_cons, ih, List.replicate_succ]; rfl
theorem objD_at {n : Nat} {A : Nat → Addr} {i : Nat} (h : i < n) : atI (objD n A) (i : Int) = some (.obj (A i)) := atI_nat (by unfold objD; rw [List.getElem?_map, List.getElem?_range h]; rfl)
theorem tn_cons {n : Nat} {fs : List Nat} (hn : 0 < n) (h : fs.Perm ((List.range (n - 1)).map (· + 1))) : Tn n (0 :: fs) := by
  have e : List.range n = 0 :: (List.range (n - 1)).map (· + 1) := by
    obtain ⟨k, rfl⟩ : ∃ k, n = k + 1 := ⟨n - 1, by omega⟩
    rw [List.range_succ_eq_map]
    rfl
  unfold Tn
  rw [e]
  exact List.Perm.cons 0 h
/-- rows written by places -/
theorem rows_hou {n : Nat} {r : Nat → List Int} (hl : ∀ i, i < n → (r i).length = n) (hr : ∀ i j, i < n → j < n → ∃ k : Nat, (r i)[j]? = some (k : Int)) : Dt.lst ((List.range n).map fun i => .lst ((r i).map Dt.int)) = houD n fun i j => ((r i).getD j 0).toNat := by
  unfold houD
  refine congrArg Dt.lst (List.map_congr_left fun i hi => ?_)
  have hi := List.mem_range.mp hi
  unfold rowD
  refine congrArg Dt.lst (List.ext_getElem? fun j => ?_)
  by_cases hj : j < n
  · obtain ⟨k, hk⟩ := hr i j hi hj
    unfold nsD
    rw [List.getElem?_map, hk, List.getElem?_map, List.getElem?_map, List.getElem?_range hj]
    show some (Dt.int (k : Int)) = some (nD ((r i).getD j 0).toNat)
    rw [List.getD_eq_getElem?_getD, hk]
    rfl
  · rw [List.getElem?_eq_none (by rw [List.length_map, hl i hi]; omega), List.getElem?_eq_none (by rw [nsD_len, List.length_map, List.length_range]; omega)]
end VL
namespace VL
open PySem PySem.Spec PyProof.Rows L2 HM
end VL
namespace VL
open PySem PySem.Spec PyProof.Rows L2 HM
end VL
namespace VL
open PySem PySem.Spec PyProof.Rows L2 HM
def enD (xs : List Dt) : List Dt := zipD (rngD 0 xs.length) xs
theorem enD_get {xs : List Dt} {i : Nat} {z : Dt} (h : (enD xs)[i]? = some z) : ∃ x, xs[i]? = some x ∧ z = .tup [.int (i : Int), x] := by
  obtain ⟨a, b, ea, eb, rfl⟩ := zipD_get h
  rw [(rngD_get0 ea).1]
  exact ⟨b, eb, rfl⟩
theorem enD_len (xs : List Dt) : (enD xs).length = xs.length := by unfold enD; rw [zipD_len, rngD_len, Nat.min_self]
section
variable {c : Fc} {X : Cx} {tas : VTA}
theorem wk_enL {K : PySem.W.Frag} {F : Hp} {a : Addr} {xs : List V} {ds : List Dt} (h : F a = some (.lst xs)) (rx : Rps F xs ds) : Wk c.am (Ite K a) F (enD ds) := fun c _ F1 H σ env n r u i => by
  have hA : SqL K H a xs := .inl (.inl (r.sub _ _ (u _ _ h)))
  refine ⟨fun hi => ?_, fun hi => ⟨xs, hA, by rw [enD_len] at hi; rw [rx.len]; exact hi⟩⟩
  obtain ⟨d, ed, ez⟩ := enD_get (List.getElem?_eq_getElem hi)
  obtain ⟨v, e1, p1⟩ := rx.get ed
  refine ⟨⟨xs, v, hA, e1⟩, fun x H' y => ?_⟩
  obtain ⟨T, y1, rfl, nT, rfl, hy⟩ := y
  have q1 := hy xs hA
  rw [e1] at q1
  cases q1
  obtain ⟨_, _, nf⟩ := r.new0 nT
  exact ⟨upd F1 T (.tup [.int (i : Nat), v]), _, r.layF nT _, up_lay nf, List.getElem?_eq_getElem hi, by rw [ez]; exact .tup upd_same (.cons (.int _) (.cons ((p1.up u).up (up_lay nf)) .nil))⟩
def viEnum (ta : VTA) : VTI := fun env n Q => ta env n fun ds env1 n1 => ∃ xs, ds = [.lst xs] ∧ Q (enD xs) env1 n1
theorem vi_enum {e : Expr} {p pos tpos : Pos} {elts : List Expr} {kk : Nat} (hg : Gl X "enumerate") (hm : X.mg "enumerate" = none) (ha : PA X [e] (aOf c tas)) (hs : starEach [e] X.env = [(false, eval e X.env)] := by rfl) :
    PI X (.Tuple elts kk tpos) (.Call (.Name "enumerate" p) [e] [] pos) (iOf c (viEnum tas)) := PI.imp (pi_enum hg hm ha hs) fun σ H R ⟨F, env, n, Q, r, q, k⟩ => ⟨F, env, n, _, r, q, fun vs H' F' ds env' n' r' w rp qd => by
  obtain ⟨xs, rfl, qd⟩ := qd
  obtain ⟨v, rfl, p1⟩ := rp.one
  obtain ⟨a, us, rfl, hF, rx⟩ := p1.lst_inv
  exact ⟨a, us, rfl, .inl (.inl (r'.sub _ _ hF)), k _ H' F' _ env' n' r' w (wk_enL hF rx) qd⟩⟩
end
end VL
namespace VL
open PySem PySem.Spec PyProof.Rows L2 HM
structure Sub (n : Nat) (m : Nat → Nat → Nat) (l : List Nat) : Prop where
  up : l.Pairwise (· < ·)
  lt : ∀ x ∈ l, x < n
  ze : 0 ∈ l
  mul : ∀ x ∈ l, ∀ y ∈ l, m x y ∈ l
theorem IsPt.sub {n : Nat} {m : Nat → Nat → Nat} {gs l : List Nat} (h : Hse n m) (hg : ∀ g ∈ gs, g < n) (hl : IsPt m gs l) : Sub n m l :=
  ⟨hl.up, fun x hx => ((hl.mem x).mp hx).lt h.pos h.lt hg, (hl.mem 0).mpr .zero, fun x hx y hy => (hl.mem _).mpr (h.rch hg ((hl.mem x).mp hx) ((hl.mem y).mp hy))⟩
theorem len_le_of_sub {k l : List Nat} (nd : k.Nodup) (sub : ∀ x ∈ k, x ∈ l) : k.length ≤ l.length := by
  have := few_of_nodup (n := l.length) (l := k.map fun x => l.idxOf x) (by
    refine List.pairwise_map.mpr (List.Pairwise.imp_of_mem (fun {x y} hx hy hxy e => hxy ?_) nd)
    have h1 : l.idxOf x < l.length := List.idxOf_lt_length_of_mem (sub x hx)
    have h2 : l.idxOf y < l.length := List.idxOf_lt_length_of_mem (sub y hy)
    have e1 : l[l.idxOf x] = x := List.getElem_idxOf h1
    have e2 : l[l.idxOf y] = y := List.getElem_idxOf h2
    rw [← e1, ← e2]
    congr 1) fun x hx => by
    obtain ⟨y, hy, rfl⟩ := List.mem_map.mp hx
    exact List.idxOf_lt_length_of_mem (sub y hy)
  rwa [List.length_map] at this
theorem full_of_nodup {k l : List Nat} (nd : k.Nodup) (sub : ∀ x ∈ k, x ∈ l) (len : l.length ≤ k.length) : ∀ x ∈ l, x ∈ k := fun x hx => by
  rcases Classical.em (x ∈ k) with z | z
  · exact z
  · have := len_le_of_sub (k := x :: k) (l := l) (List.nodup_cons.mpr ⟨z, nd⟩) fun y hy => by
      rcases List.mem_cons.mp hy with rfl | hy
      · exact hx
      · exact sub y hy
    rw [List.length_cons] at this
    omega
section
variable {n : Nat} {m : Nat → Nat → Nat} {P O : List Nat}
theorem Hse.inv2 (h : Hse n m) {a : Nat} (ha : a < n) : ∃ b, b < n ∧ m a b = 0 ∧ m b a = 0 := by
  obtain ⟨b, hb, e⟩ := h.inv ha
  obtain ⟨c, hc, e2⟩ := h.inv hb
  have : a = c := by
    have := h.as a b c ha hb hc
    rw [e, e2, h.zl c hc, h.zr a ha] at this
    exact this.symm
  exact ⟨b, hb, e, by rw [this]; exact e2⟩
theorem Hse.rc (h : Hse n m) {a b c : Nat} (ha : a < n) (hb : b < n) (hc : c < n) (e : m a c = m b c) : a = b := by
  obtain ⟨d, hd, e1, _⟩ := h.inv2 hc
  have h1 := h.as a c d ha hc hd
  have h2 := h.as b c d hb hc hd
  rw [e1, h.zr _ ha] at h1
  rw [e1, h.zr _ hb] at h2
  rw [← h1, ← h2, e]
theorem Sub.nd (s : Sub n m P) : P.Nodup := s.up.imp fun h => Nat.ne_of_lt h
theorem Sub.inv (h : Hse n m) (s : Sub n m P) {x : Nat} (hx : x ∈ P) : ∃ y ∈ P, m x y = 0 ∧ m y x = 0 := by
  have nd : (P.map (m x)).Nodup := List.pairwise_map.mpr (List.Pairwise.imp_of_mem (fun {a b} ha hb hab e => hab (h.cn x a b (s.lt x hx) (s.lt a ha) (s.lt b hb) e)) s.nd)
  have := full_of_nodup nd (fun z hz => by
    obtain ⟨y, hy, rfl⟩ := List.mem_map.mp hz
    exact s.mul x hx y hy) (by rw [List.length_map]; exact Nat.le_refl _) 0 s.ze
  obtain ⟨y, hy, e⟩ := List.mem_map.mp this
  obtain ⟨b, hb, e1, e2⟩ := h.inv2 (s.lt x hx)
  have : y = b := h.cn x y b (s.lt x hx) (s.lt y hy) hb (by rw [e, e1])
  exact ⟨y, hy, e, by rw [this]; exact e2⟩
def cls (m : Nat → Nat → Nat) (P : List Nat) (g h : Nat) : Prop := ∃ x ∈ P, m x g = h
theorem Sub.refl (h : Hse n m) (s : Sub n m P) {g : Nat} (hg : g < n) : cls m P g g := ⟨0, s.ze, h.zl g hg⟩
theorem Sub.lt2 (h : Hse n m) (s : Sub n m P) {g k : Nat} (hg : g < n) (c : cls m P g k) : k < n := by
  obtain ⟨x, hx, rfl⟩ := c
  exact h.lt x g (s.lt x hx) hg
theorem Sub.symm (h : Hse n m) (s : Sub n m P) {g k : Nat} (hg : g < n) (c : cls m P g k) : cls m P k g := by
  obtain ⟨x, hx, rfl⟩ := c
  obtain ⟨y, hy, _, e⟩ := s.inv h hx
  exact ⟨y, hy, by rw [← h.as y x g (s.lt y hy) (s.lt x hx) hg, e, h.zl g hg]⟩
theorem Sub.trans (h : Hse n m) (s : Sub n m P) {g k l : Nat} (hg : g < n) (c : cls m P g k) (d : cls m P k l) : cls m P g l := by
  obtain ⟨x, hx, rfl⟩ := c
  obtain ⟨y, hy, rfl⟩ := d
  exact ⟨m y x, s.mul y hy x hx, h.as y x g (s.lt y hy) (s.lt x hx) hg⟩
def rp (m : Nat → Nat → Nat) (P : List Nat) (g : Nat) : Nat := P.foldr (fun x r => min (m x g) r) g
theorem rp_le (g : Nat) : ∀ P : List Nat, rp m P g ≤ g ∧ ∀ x ∈ P, rp m P g ≤ m x g
  | [] => ⟨Nat.le_refl _, fun x hx => by cases hx⟩
  | y :: P => by
    obtain ⟨h1, h2⟩ := rp_le g P
    have e : rp m (y :: P) g = min (m y g) (rp m P g) := rfl
    rw [e]
    refine ⟨by omega, fun x hx => ?_⟩
    rcases List.mem_cons.mp hx with rfl | hx
    · omega
    · have := h2 x hx
      omega
theorem rp_is (g : Nat) : ∀ P : List Nat, rp m P g = g ∨ ∃ x ∈ P, m x g = rp m P g
  | [] => .inl rfl
  | y :: P => by
    have e : rp m (y :: P) g = min (m y g) (rp m P g) := rfl
    rcases Nat.le_total (m y g) (rp m P g) with hle | hle
    · exact .inr ⟨y, List.mem_cons_self, by rw [e]; omega⟩
    · rw [e, Nat.min_eq_right hle]
      rcases rp_is g P with h | ⟨x, hx, h⟩
      · exact .inl h
      · exact .inr ⟨x, List.mem_cons_of_mem _ hx, h⟩
theorem Sub.rp_cls (h : Hse n m) (s : Sub n m P) {g : Nat} (hg : g < n) : cls m P g (rp m P g) := by
  rcases rp_is (m := m) g P with e | ⟨x, hx, e⟩
  · rw [e]; exact s.refl h hg
  · exact ⟨x, hx, e⟩
theorem rp_min {g k : Nat} (c : cls m P g k) : rp m P g ≤ k := by
  obtain ⟨x, hx, rfl⟩ := c
  exact (rp_le g P).2 x hx
theorem Sub.rp_eq (h : Hse n m) (s : Sub n m P) {g k : Nat} (hg : g < n) (c : cls m P g k) : rp m P g = rp m P k := by
  have hk := s.lt2 h hg c
  have h1 := rp_min (s.trans h hg c (s.rp_cls h hk))
  have h2 := rp_min (s.trans h hk (s.symm h hg c) (s.rp_cls h hg))
  omega
theorem Sub.cls_of_rp (h : Hse n m) (s : Sub n m P) {g k : Nat} (hg : g < n) (hk : k < n) (e : rp m P g = rp m P k) : cls m P g k := by
  have h1 := s.rp_cls h hg
  rw [e] at h1
  exact s.trans h hg h1 (s.symm h hk (s.rp_cls h hk))
theorem Sub.rp_lt (h : Hse n m) (s : Sub n m P) {g : Nat} (hg : g < n) : rp m P g < n := Nat.lt_of_le_of_lt (rp_le g P).1 hg
theorem Sub.rp_rp (h : Hse n m) (s : Sub n m P) {g : Nat} (hg : g < n) : rp m P (rp m P g) = rp m P g := (s.rp_eq h hg (s.rp_cls h hg)).symm
def isL (m : Nat → Nat → Nat) (P : List Nat) (g : Nat) : Bool := decide (rp m P g = g)
def lst (m : Nat → Nat → Nat) (P : List Nat) (j : Nat) : List Nat := (List.range j).filter (isL m P)
def plc (m : Nat → Nat → Nat) (P : List Nat) (g : Nat) : Nat := (lst m P (rp m P g)).length
theorem lst_succ (j : Nat) : lst m P (j + 1) = lst m P j ++ (if isL m P j = true then [j] else []) := by
  unfold lst
  rw [List.range_succ, List.filter_append]
  congr 1
  by_cases e : isL m P j = true
  · rw [if_pos e]; simp [e]
  · rw [if_neg e]; simp [e]
theorem lst_mono {i j : Nat} (h : i ≤ j) : (lst m P i).length ≤ (lst m P j).length := by
  induction h with
  | refl => exact Nat.le_refl _
  | step h ih => rw [lst_succ, List.length_append]; omega
theorem plc_inj {a b : Nat} (ha : isL m P a = true) (hb : isL m P b = true) (e : (lst m P a).length = (lst m P b).length) : a = b := by
  have key : ∀ {a b : Nat}, isL m P a = true → a < b → (lst m P a).length < (lst m P b).length := fun {a b} ha hab => by
    have := lst_mono (m := m) (P := P) (show a + 1 ≤ b by omega)
    rw [lst_succ, if_pos ha, List.length_append, List.length_singleton] at this
    omega
  rcases Nat.lt_trichotomy a b with z | z | z
  · have := key ha z; omega
  · exact z
  · have := key hb z; omega
theorem Sub.isL_rp (h : Hse n m) (s : Sub n m P) {g : Nat} (hg : g < n) : isL m P (rp m P g) = true := decide_eq_true (s.rp_rp h hg)
theorem Sub.plc_iff (h : Hse n m) (s : Sub n m P) {g k : Nat} (hg : g < n) (hk : k < n) : plc m P g = plc m P k ↔ rp m P g = rp m P k :=
  ⟨fun e => plc_inj (s.isL_rp h hg) (s.isL_rp h hk) e, fun e => by unfold plc; rw [e]⟩
def phi (m : Nat → Nat → Nat) (P O : List Nat) (g : Nat) : Bool := O.all fun k => decide (rp m P (m g k) = rp m P g)
def mkN (n : Nat) (m : Nat → Nat → Nat) (P O : List Nat) : Nat := ((lst m P n).filter (phi m P O)).length
def PhiN (n : Nat) (m : Nat → Nat → Nat) (P O : List Nat) : Nat := ((List.range n).filter (phi m P O)).length
theorem phi_iff (h : Hse n m) (s : Sub n m P) (ho : ∀ k ∈ O, k < n) {g : Nat} (hg : g < n) : phi m P O g = true ↔ ∀ k ∈ O, cls m P g (m g k) := by
  unfold phi
  rw [List.all_eq_true]
  exact ⟨fun q k hk => s.cls_of_rp h hg (h.lt g k hg (ho k hk)) (of_decide_eq_true (q k hk)).symm, fun q k hk => decide_eq_true (s.rp_eq h hg (q k hk)).symm⟩
theorem phi_cls (h : Hse n m) (s : Sub n m P) (ho : ∀ k ∈ O, k < n) {g k : Nat} (hg : g < n) (c : cls m P g k) : phi m P O g = phi m P O k := by
  have hk := s.lt2 h hg c
  have one : ∀ {g k : Nat}, g < n → cls m P g k → phi m P O g = true → phi m P O k = true := fun {g k} hg c e => by
    have hk := s.lt2 h hg c
    rw [phi_iff h s ho hg] at e
    rw [phi_iff h s ho hk]
    intro q hq
    have hqn := ho q hq
    obtain ⟨x, hx, rfl⟩ := id c
    refine s.trans h hk (s.symm h hg c) (s.trans h hg (e q hq) ⟨x, hx, (h.as x g q (s.lt x hx) hg hqn).symm⟩)
  cases e : phi m P O g with
  | true => exact (one hg c e).symm
  | false =>
    cases e2 : phi m P O k with
    | true => rw [one hk (s.symm h hg c) e2] at e; cases e
    | false => rfl
theorem len_flat {f : Nat → List Nat} {c : Nat} : ∀ {l : List Nat}, (∀ g ∈ l, (f g).length = c) → (l.flatMap f).length = l.length * c
  | [], _ => by simp
  | g :: l, h => by
    rw [List.flatMap_cons, List.length_append, len_flat fun x hx => h x (List.mem_cons_of_mem _ hx), h g List.mem_cons_self, List.length_cons, Nat.succ_mul]
    omega
theorem lst_mem {j g : Nat} : g ∈ lst m P j ↔ g < j ∧ rp m P g = g := by
  unfold lst isL
  rw [List.mem_filter, List.mem_range, decide_eq_true_iff]
theorem mk_mul (h : Hse n m) (s : Sub n m P) (ho : ∀ k ∈ O, k < n) : mkN n m P O * P.length = PhiN n m P O := by
  have pm : (((lst m P n).filter (phi m P O)).flatMap fun g => P.map fun x => m x g).Perm ((List.range n).filter (phi m P O)) := by
    refine (List.perm_ext_iff_of_nodup ?_ (List.nodup_range.filter _)).mpr fun k => ?_
    · refine List.pairwise_flatMap.mpr ⟨fun g hg => ?_, ?_⟩
      · obtain ⟨hg1, _⟩ := lst_mem.mp (List.mem_filter.mp hg).1
        exact List.pairwise_map.mpr (List.Pairwise.imp_of_mem (fun {a b} ha hb hab e => hab (h.rc (s.lt a ha) (s.lt b hb) hg1 e)) s.nd)
      · refine List.Pairwise.imp_of_mem (fun {a b} ha hb hab x hx y hy e => hab ?_) (List.Pairwise.filter (phi m P O) (List.Pairwise.filter (isL m P) (show List.Pairwise (· ≠ ·) (List.range n) from List.nodup_range)))
        obtain ⟨a1, a2⟩ := lst_mem.mp (List.mem_filter.mp ha).1
        obtain ⟨b1, b2⟩ := lst_mem.mp (List.mem_filter.mp hb).1
        obtain ⟨p, hp, rfl⟩ := List.mem_map.mp hx
        obtain ⟨q, hq, rfl⟩ := List.mem_map.mp hy
        have c1 := s.rp_eq h a1 ⟨p, hp, rfl⟩
        have c2 := s.rp_eq h b1 ⟨q, hq, rfl⟩
        rw [← a2, ← b2, c1, c2, e]
    · rw [List.mem_flatMap, List.mem_filter, List.mem_range]
      constructor
      · rintro ⟨g, hg, hk⟩
        obtain ⟨g1, g2⟩ := List.mem_filter.mp hg
        obtain ⟨g3, _⟩ := lst_mem.mp g1
        obtain ⟨x, hx, rfl⟩ := List.mem_map.mp hk
        exact ⟨h.lt x g (s.lt x hx) g3, by rw [← phi_cls h s ho g3 ⟨x, hx, rfl⟩]; exact g2⟩
      · rintro ⟨hk, e⟩
        have c := s.rp_cls h hk
        refine ⟨rp m P k, List.mem_filter.mpr ⟨lst_mem.mpr ⟨s.rp_lt h hk, s.rp_rp h hk⟩, by rw [← phi_cls h s ho hk c]; exact e⟩, ?_⟩
        obtain ⟨x, hx, e⟩ := s.symm h hk c
        exact List.mem_map.mpr ⟨x, hx, e⟩
  have := pm.length_eq
  rw [len_flat (c := P.length) fun g _ => by rw [List.length_map]] at this
  exact this
/-- l is P led by g -/
structure Led (n : Nat) (m : Nat → Nat → Nat) (P : List Nat) (g : Nat) (l : List Nat) : Prop where
  up : l.Pairwise (· < ·)
  ex : ∃ b, b < n ∧ m g b = 0 ∧ m b g = 0 ∧ ∀ y, y ∈ l ↔ ∃ x ∈ P, m (m b x) g = y
theorem Led.sub (h : Hse n m) (s : Sub n m P) {g : Nat} (hg : g < n) {l : List Nat} (L : Led n m P g l) : Sub n m l := by
  obtain ⟨b, hb, e1, e2, mem⟩ := L.ex
  refine ⟨L.up, fun y hy => ?_, ?_, fun y hy z hz => ?_⟩
  · obtain ⟨x, hx, rfl⟩ := (mem y).mp hy
    exact h.lt _ _ (h.lt b x hb (s.lt x hx)) hg
  · exact (mem 0).mpr ⟨0, s.ze, by rw [h.zr b hb]; exact e2⟩
  · obtain ⟨x, hx, rfl⟩ := (mem y).mp hy
    obtain ⟨x2, hx2, rfl⟩ := (mem z).mp hz
    have hx' := s.lt x hx
    have hx2' := s.lt x2 hx2
    refine (mem _).mpr ⟨m x x2, s.mul x hx x2 hx2, ?_⟩
    have hbx := h.lt b x hb hx'
    have hbx2 := h.lt b x2 hb hx2'
    rw [h.as (m b x) g (m (m b x2) g) hbx hg (h.lt _ _ hbx2 hg), ← h.as g (m b x2) g hg hbx2 hg, ← h.as g b x2 hg hb hx2', e1, h.zl x2 hx2', ← h.as b x x2 hb hx' hx2', h.as (m b x) x2 g hbx hx2' hg]
theorem Led.len (h : Hse n m) (s : Sub n m P) {g : Nat} (hg : g < n) {l : List Nat} (L : Led n m P g l) : l.length = P.length := by
  obtain ⟨b, hb, e1, e2, mem⟩ := L.ex
  have nd : (P.map fun x => m (m b x) g).Nodup := List.pairwise_map.mpr (List.Pairwise.imp_of_mem (fun {x y} hx hy hxy e => hxy (h.cn b x y hb (s.lt x hx) (s.lt y hy) (h.rc (h.lt b x hb (s.lt x hx)) (h.lt b y hb (s.lt y hy)) hg e))) s.nd)
  have pm : l.Perm (P.map fun x => m (m b x) g) := (List.perm_ext_iff_of_nodup (L.up.imp fun z => Nat.ne_of_lt z) nd).mpr fun y => by
    rw [mem y, List.mem_map]
  rw [pm.length_eq, List.length_map]
theorem sub_whole (h : Hse n m) : Sub n m (List.range n) := ⟨List.pairwise_lt_range, fun x hx => List.mem_range.mp hx, List.mem_range.mpr h.pos, fun x hx y hy => List.mem_range.mpr (h.lt x y (List.mem_range.mp hx) (List.mem_range.mp hy))⟩
end
/-- places on the way: j numbers gone through, i of the part at the next one -/
def pJ (n : Nat) (m : Nat → Nat → Nat) (P : List Nat) (j i : Nat) : List Int := (List.range n).map fun g => if rp m P g < j then ((plc m P g : Nat) : Int) else if g ∈ (P.take i).map (m · j) then (((lst m P j).length : Nat) : Int) else -1
section
variable {n : Nat} {m : Nat → Nat → Nat} {P : List Nat}
theorem pJ_len (j i : Nat) : (pJ n m P j i).length = n := by unfold pJ; rw [List.length_map, List.length_range]
theorem pJ_start : pJ n m P 0 0 = List.replicate n (-1) := by
  refine List.ext_getElem? fun g => ?_
  unfold pJ
  rw [List.getElem?_map, List.getElem?_replicate]
  by_cases hg : g < n
  · rw [List.getElem?_range hg, if_pos hg]
    show some (if rp m P g < 0 then _ else _) = _
    rw [if_neg (Nat.not_lt_zero _), if_neg (by simp)]
  · rw [List.getElem?_eq_none (by rw [List.length_range]; omega), if_neg hg]
    rfl
theorem pJ_get {j i g : Nat} (hg : g < n) : (pJ n m P j i)[g]? = some (if rp m P g < j then ((plc m P g : Nat) : Int) else if g ∈ (P.take i).map (m · j) then (((lst m P j).length : Nat) : Int) else -1) := by
  unfold pJ
  rw [List.getElem?_map, List.getElem?_range hg]
  rfl
theorem pJ_zero {j g : Nat} (hg : g < n) : (pJ n m P j 0)[g]? = some (if rp m P g < j then ((plc m P g : Nat) : Int) else -1) := by
  rw [pJ_get hg]
  simp
theorem pJ_set (h : Hse n m) (s : Sub n m P) {j i x : Nat} (hj : j < n) (hr : rp m P j = j) (hx : P[i]? = some x) : (pJ n m P j i).set (m x j) (((lst m P j).length : Nat) : Int) = pJ n m P j (i + 1) := by
  have hxP := List.mem_of_getElem? hx
  have hxj := h.lt x j (s.lt x hxP) hj
  have et : P.take (i + 1) = P.take i ++ [x] := by rw [List.take_add_one, hx]; rfl
  refine List.ext_getElem? fun g => ?_
  by_cases hg : g < n
  · by_cases z : g = m x j
    · subst z
      rw [List.getElem?_set_self (by rw [pJ_len]; exact hg), pJ_get hg, ← s.rp_eq h hj ⟨x, hxP, rfl⟩, hr, if_neg (Nat.lt_irrefl _), if_pos (List.mem_map.mpr ⟨x, by rw [et]; simp, rfl⟩)]
    · rw [List.getElem?_set_ne (Ne.symm z), pJ_get hg, pJ_get hg]
      have : g ∈ (P.take (i + 1)).map (m · j) ↔ g ∈ (P.take i).map (m · j) := by
        rw [et, List.map_append, List.mem_append]
        constructor
        · rintro (q | q)
          · exact q
          · exact absurd (List.mem_singleton.mp q) z
        · exact .inl
      simp only [this]
  · rw [List.getElem?_eq_none (by rw [List.length_set, pJ_len]; omega), List.getElem?_eq_none (by rw [pJ_len]; omega)]
theorem pJ_next (h : Hse n m) (s : Sub n m P) {j : Nat} (hj : j < n) (hr : rp m P j = j) : pJ n m P j P.length = pJ n m P (j + 1) 0 := by
  refine List.ext_getElem? fun g => ?_
  by_cases hg : g < n
  · rw [pJ_get hg, pJ_zero hg, List.take_of_length_le (Nat.le_refl _)]
    have : g ∈ P.map (m · j) ↔ rp m P g = j := by
      rw [List.mem_map]
      constructor
      · rintro ⟨x, hx, rfl⟩
        rw [← s.rp_eq h hj ⟨x, hx, rfl⟩, hr]
      · intro e
        obtain ⟨x, hx, e2⟩ := s.cls_of_rp h hj hg (by rw [hr, e])
        exact ⟨x, hx, e2⟩
    by_cases h1 : rp m P g < j
    · rw [if_pos h1, if_pos (by omega)]
    · rw [if_neg h1]
      by_cases h2 : rp m P g = j
      · rw [if_pos (this.mpr h2), if_pos (by omega)]
        unfold plc
        rw [h2]
      · rw [if_neg fun z => h2 (this.mp z), if_neg (by omega)]
  · rw [List.getElem?_eq_none (by rw [pJ_len]; omega), List.getElem?_eq_none (by rw [pJ_len]; omega)]
theorem pJ_skip (h : Hse n m) (s : Sub n m P) {j : Nat} (hj : j < n) (hr : rp m P j ≠ j) : pJ n m P j 0 = pJ n m P (j + 1) 0 := by
  refine List.ext_getElem? fun g => ?_
  by_cases hg : g < n
  · rw [pJ_zero hg, pJ_zero hg]
    have : rp m P g ≠ j := fun e => hr (by rw [← e, s.rp_rp h hg])
    by_cases h1 : rp m P g < j
    · rw [if_pos h1, if_pos (by omega)]
    · rw [if_neg h1, if_neg (by omega)]
  · rw [List.getElem?_eq_none (by rw [pJ_len]; omega), List.getElem?_eq_none (by rw [pJ_len]; omega)]
theorem pJ_end (h : Hse n m) (s : Sub n m P) : (pJ n m P n 0).map Dt.int = nsD ((List.range n).map (plc m P)) := by
  refine List.ext_getElem? fun g => ?_
  unfold nsD
  rw [List.getElem?_map, List.getElem?_map, List.getElem?_map]
  by_cases hg : g < n
  · rw [pJ_zero hg, List.getElem?_range hg, if_pos (s.rp_lt h hg)]
    rfl
  · rw [List.getElem?_eq_none (by rw [pJ_len]; omega), List.getElem?_eq_none (by rw [List.length_range]; omega)]
    rfl
end
end VL
namespace VL
open PySem PySem.Spec PyProof.Rows L2 HM
def tabAm (am : Am) (Ps : List Addr) : Am where
  sp b := am.sp b ∨ b ∈ Ps
  ok n F H := am.ok n F H ∧ ∀ P ∈ Ps, GxR.TabG H P
  trk := fun {n F H b} ⟨h1, h2⟩ hb z => by
    rcases hb with hb | hb
    · exact am.trk h1 hb z
    · obtain ⟨ps, e, _⟩ := h2 b hb
      rw [e] at z; cases z
  ntp := fun {n F H b xs} ⟨h1, h2⟩ hb z => by
    rcases hb with hb | hb
    · exact am.ntp h1 hb z
    · obtain ⟨ps, e, _⟩ := h2 b hb
      rw [e] at z; cases z
  mono := fun {n F F' H H'} ⟨h1, h2⟩ e c uF => ⟨am.mono h1 (fun b hb => e b (.inl hb)) c uF, fun P hP => by
    obtain ⟨ps, h3, h4⟩ := h2 P hP
    exact ⟨ps, by rw [e P (.inr hP)]; exact h3, h4⟩⟩
theorem plain_tab {am : Am} {Ps : List Addr} (h : Plain am) : Plain (tabAm am Ps) := ⟨fun q => ⟨h.pl q.1, q.2⟩⟩
theorem tab_in {am : Am} {P : Addr} {Ps : List Addr} (no : ∀ {n F H b}, am.ok n F H → am.sp b → ∀ ps, H b ≠ some (.tbl ps)) (hP : P ∈ Ps) : TabIn (tabAm am Ps) P where
  sp := .inr hP
  rd := fun {n F H} h => h.2 P hP
  wr := fun {n F H H'} h t => ⟨am.mono h.1 (fun b hb => t.2 b fun z => by
    obtain ⟨ps, e, _⟩ := h.2 P hP
    exact no h.1 hb ps (by rw [z]; exact e)) (fun b oc x e2 => t.2 b fun z => by
    obtain ⟨ps, e, _⟩ := h.2 P hP
    rw [z, e] at e2
    cases e2) (Up.refl F), fun P' hP' => by
    by_cases z : P' = P
    · rw [z]; exact t.1
    · obtain ⟨ps, e1, e2⟩ := h.2 P' hP'
      exact ⟨ps, by rw [t.2 P' z]; exact e1, e2⟩⟩
def spLawT (K : PySem.W.Frag) (Ps : List Addr) : Sp := fun vs H Q _ => ∃ (a : Addr) (ns : List Int), vs = [.ref a] ∧ Scr K H a ns ∧ ns.length ≤ 63 ∧ (∀ P ∈ Ps, GxR.TabG H P) ∧ ∀ H', Q (.bl true) H'
end VL
namespace VL
open PySem PySem.Spec PyProof.Rows L2 HM
section
variable {n : Nat} {m : Nat → Nat → Nat} {P : List Nat}
theorem Led.iff (h : Hse n m) (s : Sub n m P) {g : Nat} (hg : g < n) {l : List Nat} (L : Led n m P g l) (y : Nat) : y ∈ l ↔ y < n ∧ cls m P g (m g y) := by
  obtain ⟨b, hb, e1, e2, mem⟩ := L.ex
  rw [mem y]
  constructor
  · rintro ⟨x, hx, rfl⟩
    have hx' := s.lt x hx
    have hbx := h.lt b x hb hx'
    refine ⟨h.lt _ _ hbx hg, x, hx, ?_⟩
    rw [← h.as g (m b x) g hg hbx hg, ← h.as g b x hg hb hx', e1, h.zl x hx']
  · rintro ⟨hy, x, hx, e⟩
    have hx' := s.lt x hx
    refine ⟨x, hx, ?_⟩
    rw [h.as b x g hb hx' hg, e, ← h.as b g y hb hg hy, e2, h.zl y hy]
theorem Led.cls_eq (h : Hse n m) (s : Sub n m P) {g k : Nat} (hg : g < n) (c : cls m P g k) {l l' : List Nat} (L : Led n m P g l) (L' : Led n m P k l') : l = l' := by
  have hk := s.lt2 h hg c
  refine rising_eq L.up L'.up fun y => ?_
  rw [L.iff h s hg y, L'.iff h s hk y]
  refine and_congr_right fun hy => ?_
  have hgy := h.lt g y hg hy
  have c2 : cls m P (m g y) (m k y) := by
    obtain ⟨z, hz, rfl⟩ := id c
    exact ⟨z, hz, (h.as z g y (s.lt z hz) hg hy).symm⟩
  exact ⟨fun d => s.trans h hk (s.symm h hg c) (s.trans h hg d c2), fun d => s.trans h hg c (s.trans h hk d (s.symm h hgy c2))⟩
theorem Led.uniq (h : Hse n m) (s : Sub n m P) {g : Nat} (hg : g < n) {l l' : List Nat} (L : Led n m P g l) (L' : Led n m P g l') : l = l' := L.cls_eq h s hg (s.refl h hg) L'
theorem led_ex (h : Hse n m) (s : Sub n m P) {g : Nat} (hg : g < n) : ∃ l, Led n m P g l := by
  obtain ⟨b, hb, e1, e2⟩ := h.inv2 hg
  refine ⟨(List.range n).filter fun y => decide (y ∈ P.map fun x => m (m b x) g), List.Pairwise.filter _ List.pairwise_lt_range, b, hb, e1, e2, fun y => ?_⟩
  rw [List.mem_filter, List.mem_range, decide_eq_true_iff, List.mem_map]
  exact ⟨fun z => z.2, fun ⟨x, hx, e⟩ => ⟨by rw [← e]; exact h.lt _ _ (h.lt b x hb (s.lt x hx)) hg, x, hx, e⟩⟩
theorem lst_mul (h : Hse n m) (s : Sub n m P) : (lst m P n).length * P.length = n := by
  have := mk_mul (O := []) h s (fun _ z => by cases z)
  unfold mkN PhiN at this
  rw [List.filter_eq_self.mpr (show ∀ g ∈ lst m P n, phi m P [] g = true from fun g _ => rfl), List.filter_eq_self.mpr (show ∀ g ∈ List.range n, phi m P [] g = true from fun g _ => rfl), List.length_range] at this
  exact this
theorem lst_plc {s : Nat} {g : Nat} : ∀ {j : Nat}, (lst m P j)[s]? = some g → g < j ∧ plc m P g = s
  | 0, e => by simp [lst] at e
  | j + 1, e => by
    rw [lst_succ] at e
    by_cases hs : s < (lst m P j).length
    · rw [List.getElem?_append_left hs] at e
      have := lst_plc (j := j) e
      exact ⟨by omega, this.2⟩
    · rw [List.getElem?_append_right (by omega)] at e
      by_cases z : isL m P j = true
      · rw [if_pos z] at e
        have hz : s - (lst m P j).length = 0 := by
          have := (List.getElem?_eq_some_iff.mp e).1
          rw [List.length_singleton] at this
          omega
        rw [hz] at e
        cases e
        have hr : rp m P g = g := of_decide_eq_true z
        refine ⟨by omega, ?_⟩
        unfold plc
        rw [hr]
        omega
      · rw [if_neg z] at e
        simp at e
theorem cls_plc (h : Hse n m) (s : Sub n m P) {g k : Nat} (hg : g < n) (hk : k < n) : plc m P g = plc m P k ↔ cls m P g k :=
  (s.plc_iff h hg hk).trans ⟨fun e => s.cls_of_rp h hg hk e, fun c => s.rp_eq h hg c⟩
end
end VL
namespace VL
open PySem PySem.Spec PyProof.Rows L2 HM
end VL
namespace VL
open PySem PySem.Spec PyProof.Rows L2 HM
theorem Sub.zero {n : Nat} {m : Nat → Nat → Nat} {P : List Nat} (s : Sub n m P) : P[0]? = some 0 := by
  cases P with
  | nil => cases s.ze
  | cons a l =>
    have : a = 0 := by
      rcases List.mem_cons.mp s.ze with z | z
      · exact z.symm
      · have := (List.pairwise_cons.mp s.up).1 0 z
        omega
    rw [this]
    rfl
theorem rising_ints {L : List Nat} (up : L.Pairwise (· < ·)) {ns : List Int} (pw : ns.Pairwise (· < ·)) (mem : ∀ j : Int, j ∈ ns ↔ decide (j ∈ L.map fun i : Nat => (i : Int)) = true) : ns.map Dt.int = nsD L := by
  have e : ns = L.map fun i : Nat => (i : Int) := by
    have pm : ns.Perm (L.map fun i : Nat => (i : Int)) := (List.perm_ext_iff_of_nodup (pw.imp fun z => Int.ne_of_lt z) (List.pairwise_map.mpr (up.imp fun z e => by omega))).mpr fun j => by rw [mem j, decide_eq_true_iff]
    exact List.Perm.eq_of_pairwise (fun a b _ _ h1 h2 => by omega) pw (List.pairwise_map.mpr (up.imp fun z => by omega)) pm
  rw [e, ← nsD_ints]
end VL
namespace VL
open PySem PySem.Spec PyProof.Rows L2 HM
section
variable {n : Nat} {m : Nat → Nat → Nat} {P : List Nat}
theorem led_zero (h : Hse n m) (s : Sub n m P) : Led n m P 0 P := ⟨s.up, 0, h.pos, h.zl 0 h.pos, h.zl 0 h.pos, fun y => by
  constructor
  · intro hy
    exact ⟨y, hy, by rw [h.zl y (s.lt y hy), h.zr y (s.lt y hy)]⟩
  · rintro ⟨x, hx, e⟩
    rw [h.zl x (s.lt x hx), h.zr x (s.lt x hx)] at e
    rw [← e]
    exact hx⟩
/-- by one, then by another -/
theorem Led.then_ (h : Hse n m) (s : Sub n m P) {a b : Nat} (ha : a < n) (hb : b < n) {l l2 : List Nat} (L : Led n m P a l) (L2 : Led n m l b l2) : Led n m P (m a b) l2 := by
  have hab := h.lt a b ha hb
  obtain ⟨l3, L3⟩ := led_ex h s hab
  have sl := L.sub h s ha
  have e : l3 = l2 := rising_eq L3.up L2.up fun y => by
    rw [L3.iff h s hab y, L2.iff h sl hb y]
    refine and_congr_right fun hy => ?_
    constructor
    · rintro ⟨z, hz, e⟩
      have hz' := s.lt z hz
      obtain ⟨c, hc, e1, e2⟩ := h.inv2 hb
      have hby := h.lt b y hb hy
      have hx := h.lt _ c hby hc
      have ex : m (m (m b y) c) b = m b y := by rw [h.as (m b y) c b hby hc hb, e2, h.zr _ hby]
      refine ⟨m (m b y) c, (L.iff h s ha _).mpr ⟨hx, z, hz, ?_⟩, ex⟩
      refine h.rc (h.lt z a hz' ha) (h.lt a _ ha hx) hb ?_
      rw [h.as z a b hz' ha hb, e, h.as a _ b ha hx hb, ex, h.as a b y ha hb hy]
    · rintro ⟨x, hx, e⟩
      obtain ⟨hxn, z, hz, e1⟩ := (L.iff h s ha x).mp hx
      have hz' := s.lt z hz
      exact ⟨z, hz, by rw [← h.as z a b hz' ha hb, e1, h.as a x b ha hxn hb, e, h.as a b y ha hb hy]⟩
  rw [← e]
  exact L3
end
end VL
namespace HM
open PySem PySem.Spec PyProof.Rows L2
end HM
namespace VL
open PySem PySem.Spec PyProof.Rows L2 HM
end VL
namespace HM
open PySem PySem.Spec PyProof.Rows L2
end HM
namespace VL
open PySem PySem.Spec PyProof.Rows L2 HM
end VL
namespace VL
open PySem PySem.Spec PyProof.Rows L2 HM
theorem two_ways1 {α : Type} (p : α → Nat → Bool) (H : α) (L : List α) (G : List Nat) : (G.filter (p H)).length + (G.map fun g => (L.filter (p · g)).length).sum = (G.map fun g => ((H :: L).filter (p · g)).length).sum := by
    induction G with
    | nil => rfl
    | cons g G ih =>
      rw [List.map_cons, List.map_cons, List.sum_cons, List.sum_cons, ← ih, List.filter_cons, List.filter_cons]
      by_cases e : p H g = true
      · rw [if_pos e, if_pos e, List.length_cons, List.length_cons]
        omega
      · rw [if_neg e, if_neg e]
        omega
/-- counted two ways -/
theorem two_ways {α : Type} (p : α → Nat → Bool) (G : List Nat) : ∀ L : List α, (L.map fun H => (G.filter (p H)).length).sum = (G.map fun g => (L.filter (p · g)).length).sum
  | [] => by
    rw [List.map_nil, List.sum_nil]
    induction G with
    | nil => rfl
    | cons g G ih => rw [List.map_cons, List.sum_cons, ← ih]; rfl
  | H :: L => by
    rw [List.map_cons, List.sum_cons, two_ways p G L]
    exact two_ways1 p H L G
theorem sum_ge {α : Type} {f : α → Nat} {c : Nat} : ∀ {L : List α}, (∀ x ∈ L, c ≤ f x) → L.length * c ≤ (L.map f).sum
  | [], _ => by simp
  | x :: L, h => by
    have := sum_ge (L := L) fun y hy => h y (List.mem_cons_of_mem _ hy)
    have := h x List.mem_cons_self
    rw [List.map_cons, List.sum_cons, List.length_cons, Nat.succ_mul]
    omega
theorem sum_le {α : Type} {f : α → Nat} {c : Nat} : ∀ {L : List α}, (∀ x ∈ L, f x ≤ c) → (L.map f).sum ≤ L.length * c
  | [], _ => by simp
  | x :: L, h => by
    have := sum_le (L := L) fun y hy => h y (List.mem_cons_of_mem _ hy)
    have := h x List.mem_cons_self
    rw [List.map_cons, List.sum_cons, List.length_cons, Nat.succ_mul]
    omega
def tb (n M : Nat) : Nat → Nat → Nat
  | 0, _ => 0
  | f + 1, k => if M ≤ k then 1 else (n - k) * (((List.range (M + 1)).filter fun j => decide (2 * k ≤ j)).map fun j => tb n M f j).foldr Nat.max 0 / (M - k)
theorem le_foldr_max {x : Nat} : ∀ {l : List Nat}, x ∈ l → x ≤ l.foldr Nat.max 0
  | y :: l, h => by
    rw [List.foldr_cons]
    rcases List.mem_cons.mp h with rfl | h
    · exact Nat.le_max_left _ _
    · exact Nat.le_trans (le_foldr_max h) (Nat.le_max_right _ _)
section
variable {n : Nat} {m : Nat → Nat → Nat} {K : List Nat}
theorem pt_ex (h : Hse n m) {gs : List Nat} (hg : ∀ g ∈ gs, g < n) : ∃ l, IsPt m gs l := by
  classical
  refine ⟨(List.range n).filter fun x => decide (Rch m gs x), List.Pairwise.filter _ List.pairwise_lt_range, fun x => ?_⟩
  rw [List.mem_filter, List.mem_range, decide_eq_true_iff]
  exact ⟨fun z => z.2, fun z => ⟨z.lt h.pos h.lt hg, z⟩⟩
theorem Sub.rch {P gs : List Nat} (s : Sub n m P) (hg : ∀ g ∈ gs, g ∈ P) : ∀ {x : Nat}, Rch m gs x → x ∈ P
  | _, .zero => s.ze
  | _, .step a g => s.mul _ (Sub.rch s hg a) _ (hg _ g)
/-- one gotten of itself -/
theorem rch_one (h : Hse n m) {gs : List Nat} {g : Nat} (hg : g ∈ gs) (hn : g < n) : Rch m gs g := by
  have : Rch m gs (m 0 g) := .step .zero hg
  rwa [h.zl g hn] at this
theorem Sub.twice (h : Hse n m) {P : List Nat} (s : Sub n m K) (s2 : Sub n m P) (hs : ∀ x ∈ K, x ∈ P) {g : Nat} (hg : g ∈ P) (hk : g ∉ K) : 2 * K.length ≤ P.length := by
  have hn := s2.lt g hg
  have := len_le_of_sub (k := K ++ K.map (m · g)) (l := P) (by
    rw [List.nodup_append]
    refine ⟨s.nd, List.pairwise_map.mpr (List.Pairwise.imp_of_mem (fun {a b} ha hb hab e => hab (h.rc (s.lt a ha) (s.lt b hb) hn e)) s.nd), fun a ha b hb e => ?_⟩
    subst e
    obtain ⟨y, hy, e⟩ := List.mem_map.mp hb
    obtain ⟨z, hz, e1, e2⟩ := s.inv h hy
    refine hk ?_
    have : m z (m y g) = g := by rw [← h.as z y g (s.lt z hz) (s.lt y hy) hn, e2, h.zl g hn]
    rw [← this, e]
    exact s.mul z hz a ha) fun x hx => by
    rcases List.mem_append.mp hx with hx | hx
    · exact hs x hx
    · obtain ⟨y, hy, rfl⟩ := List.mem_map.mp hx
      exact s2.mul y (hs y hy) g hg
  rw [List.length_append, List.length_map] at this
  omega
theorem cnt_in (s : Sub n m K) : ((List.range n).filter fun g => decide (g ∉ K)).length = n - K.length := by
  have e := (List.filter_append_perm (fun g => decide (g ∉ K)) (List.range n)).length_eq
  rw [List.length_append] at e
  have e2 : ((List.range n).filter fun g => !decide (g ∉ K)) = K := by
    refine rising_eq (List.Pairwise.filter _ List.pairwise_lt_range) s.up fun x => ?_
    rw [List.mem_filter, List.mem_range]
    constructor
    · rintro ⟨_, z⟩
      simpa using z
    · intro z
      exact ⟨s.lt x z, by simpa using z⟩
  rw [e2, List.length_range] at e
  omega
theorem few_over (h : Hse n m) (h60 : n ≤ 60) {M : Nat} : ∀ (f : Nat) {K : List Nat} {L : List (List Nat)}, Sub n m K → L.Nodup → (∀ H ∈ L, Sub n m H ∧ H.length = M ∧ ∀ x ∈ K, x ∈ H) → 60 < K.length * 2 ^ f → L.length ≤ tb n M f K.length := by
  intro f
  induction f with
  | zero =>
    intro K L s _ _ hb
    have := few_of_nodup s.nd s.lt
    omega
  | succ f ih =>
    intro K L s nd hL hb
    unfold tb
    split
    · rename_i hk
      -- one at most
      have he : ∀ H ∈ L, H = K := fun H hH => by
        obtain ⟨s2, e, hs⟩ := hL H hH
        exact rising_eq s2.up s.up fun x => ⟨fun z => full_of_nodup s.nd hs (by omega) x z, hs x⟩
      match L, nd, he with
      | [], _, _ => exact Nat.zero_le _
      | [_], _, _ => exact Nat.le_refl _
      | a :: b :: _, nd, he =>
        exact absurd (by rw [he a (by simp), he b (by simp)]) (fun z : a = b => (List.nodup_cons.mp nd).1 (by rw [z]; simp))
    · rename_i hk
      have hk : K.length < M := Nat.lt_of_not_le hk
      obtain ⟨B, eB⟩ : ∃ B, B = ((List.filter (fun j => decide (2 * K.length ≤ j)) (List.range (M + 1))).map fun j => tb n M f j).foldr Nat.max 0 := ⟨_, rfl⟩
      rw [← eB, Nat.le_div_iff_mul_le (by omega)]
      obtain ⟨G, eG⟩ : ∃ G, G = (List.range n).filter fun g => decide (g ∉ K) := ⟨_, rfl⟩
      have lG : G.length = n - K.length := by rw [eG, cnt_in s]
      have h1 : L.length * (M - K.length) ≤ (L.map fun H => (G.filter fun g => decide (g ∈ H)).length).sum := sum_ge fun H hH => by
        obtain ⟨s2, e, hs⟩ := hL H hH
        have := len_le_of_sub (k := H) (l := K ++ G.filter fun g => decide (g ∈ H)) s2.nd fun x hx => by
          by_cases z : x ∈ K
          · exact List.mem_append_left _ z
          · refine List.mem_append_right _ (List.mem_filter.mpr ⟨?_, decide_eq_true hx⟩)
            rw [eG]
            exact List.mem_filter.mpr ⟨List.mem_range.mpr (s2.lt x hx), decide_eq_true z⟩
        rw [List.length_append] at this
        omega
      have h2 : (G.map fun g => (L.filter fun H => decide (g ∈ H)).length).sum ≤ G.length * B := sum_le fun g hg => by
        rw [eG] at hg
        obtain ⟨hg1, hg2⟩ := List.mem_filter.mp hg
        have hgn := List.mem_range.mp hg1
        have hgk : g ∉ K := of_decide_eq_true hg2
        obtain ⟨K2, hK2⟩ := pt_ex h (gs := K ++ [g]) (fun x hx => by
          rcases List.mem_append.mp hx with hx | hx
          · exact s.lt x hx
          · rw [List.mem_singleton.mp hx]; exact hgn)
        have hlt : ∀ x ∈ K ++ [g], x < n := fun x hx => by
          rcases List.mem_append.mp hx with hx | hx
          · exact s.lt x hx
          · rw [List.mem_singleton.mp hx]; exact hgn
        have s2 := hK2.sub h hlt
        have hin : ∀ x ∈ K ++ [g], x ∈ K2 := fun x hx => (hK2.mem x).mpr (rch_one h hx (hlt x hx))
        have h2k := s.twice h s2 (fun x hx => hin x (List.mem_append_left _ hx)) (hin g (by simp)) hgk
        have hall : ∀ H ∈ L.filter (fun H => decide (g ∈ H)), Sub n m H ∧ H.length = M ∧ ∀ x ∈ K2, x ∈ H := fun H hH => by
          obtain ⟨z1, z2⟩ := List.mem_filter.mp hH
          obtain ⟨s3, e, hs⟩ := hL H z1
          refine ⟨s3, e, fun x hx => s3.rch (fun y hy => ?_) ((hK2.mem x).mp hx)⟩
          rcases List.mem_append.mp hy with hy | hy
          · exact hs y hy
          · rw [List.mem_singleton.mp hy]; exact of_decide_eq_true z2
        have := ih s2 (nd.sublist List.filter_sublist) hall (by
          have := Nat.mul_le_mul_right (2 ^ f) h2k
          rw [Nat.pow_succ] at hb
          have e9 : K.length * (2 ^ f * 2) = 2 * K.length * 2 ^ f := by
            rw [Nat.mul_comm (2 ^ f) 2, ← Nat.mul_assoc, Nat.mul_comm K.length 2]
          omega)
        cases hcase : L.filter (fun H => decide (g ∈ H)) with
        | nil => exact Nat.zero_le _
        | cons H Hs =>
          rw [hcase] at this hall
          obtain ⟨s3, e, hs⟩ := hall H List.mem_cons_self
          have hle := len_le_of_sub s2.nd hs
          refine Nat.le_trans this ?_
          rw [eB]
          refine le_foldr_max (List.mem_map.mpr ⟨K2.length, List.mem_filter.mpr ⟨List.mem_range.mpr (by omega), decide_eq_true h2k⟩, rfl⟩)
      rw [two_ways (fun H g => decide (g ∈ H)) G L] at h1
      rw [lG] at h2
      exact Nat.le_trans h1 h2
def tots (n : Nat) : Nat := (((List.range (n + 1)).filter fun M => decide (n % M = 0 ∧ 0 < M)).map fun M => tb n M 6 1).sum
theorem tots_le : ∀ n, n < 61 → tots n ≤ 2400 := by decide +kernel
theorem sum_le2 {f g : Nat → Nat} : ∀ {L : List Nat}, (∀ x ∈ L, f x ≤ g x) → (L.map f).sum ≤ (L.map g).sum
  | [], _ => by simp
  | x :: L, h => by
    have := sum_le2 (L := L) fun y hy => h y (List.mem_cons_of_mem _ hy)
    have := h x List.mem_cons_self
    rw [List.map_cons, List.map_cons, List.sum_cons, List.sum_cons]
    omega
/-- a house of at most sixty numbers has at most 2400 parts -/
theorem few_subs (h : Hse n m) (h60 : n ≤ 60) {L : List (List Nat)} (nd : L.Nodup) (hs : ∀ H ∈ L, Sub n m H) : L.length ≤ 2400 := by
  refine Nat.le_trans ?_ (tots_le n (by omega))
  obtain ⟨G, eG⟩ : ∃ G, G = (List.range (n + 1)).filter fun M => decide (n % M = 0 ∧ 0 < M) := ⟨_, rfl⟩
  have h1 : L.length * 1 ≤ (L.map fun H => (G.filter fun M => decide (H.length = M)).length).sum := sum_ge fun H hH => by
    have s := hs H hH
    have e := lst_mul h s
    have hp : 0 < H.length := List.length_pos_of_mem s.ze
    have hle := few_of_nodup s.nd s.lt
    refine List.length_pos_of_mem (a := H.length) (List.mem_filter.mpr ⟨?_, decide_eq_true rfl⟩)
    rw [eG]
    exact List.mem_filter.mpr ⟨List.mem_range.mpr (by omega), decide_eq_true ⟨Nat.mod_eq_zero_of_dvd ⟨_, by rw [Nat.mul_comm]; exact e.symm⟩, hp⟩⟩
  rw [two_ways (fun H M => decide (H.length = M)) G L, Nat.mul_one] at h1
  refine Nat.le_trans h1 ?_
  unfold tots
  rw [← eG]
  refine sum_le2 fun M hM => ?_
  have z : Sub n m [0] := ⟨List.pairwise_singleton .., fun x hx => by rw [List.mem_singleton.mp hx]; exact h.pos, by simp, fun x hx y hy => by
    rw [List.mem_singleton.mp hx, List.mem_singleton.mp hy, h.zl 0 h.pos]
    simp⟩
  exact few_over h h60 6 (K := [0]) z (nd.sublist List.filter_sublist) (fun H hH => by
    obtain ⟨z1, z2⟩ := List.mem_filter.mp hH
    refine ⟨hs H z1, of_decide_eq_true z2, fun x hx => ?_⟩
    rw [List.mem_singleton.mp hx]
    exact (hs H z1).ze) (by decide)
end
end VL
namespace VL
open PySem PySem.Spec PyProof.Rows L2 HM
def addT (ks : List (List Int)) (k : List Int) : List (List Int) := if k ∈ ks then ks else k :: ks
end VL
namespace VL
open PySem PySem.Spec PyProof.Rows L2 HM
end VL
namespace VL
open PySem PySem.Spec PyProof.Rows L2 HM
end VL
namespace VL
open PySem PySem.Spec PyProof.Rows L2 HM
/-- O holds all that H is led to, H first -/
structure Orb (n : Nat) (m : Nat → Nat → Nat) (H : List Nat) (O : List (List Nat)) : Prop where
  hd : O[0]? = some H
  nd : O.Nodup
  mem : ∀ K, K ∈ O ↔ ∃ g, g < n ∧ Led n m H g K
structure Kinds (n : Nat) (m : Nat → Nat → Nat) (T : List (List (List Nat))) : Prop where
  orb : ∀ O ∈ T, ∃ H, Sub n m H ∧ Orb n m H O
  all : ∀ K, Sub n m K → ∃ O ∈ T, K ∈ O
  nd : T.flatten.Nodup
def tlD (L : List (List Nat)) : List Dt := L.map fun K => .lst (nsD K)
section
variable {n : Nat} {m : Nat → Nat → Nat} {P K H : List Nat}
theorem Led.back (h : Hse n m) (s : Sub n m P) {a b : Nat} (ha : a < n) (hb : b < n) (e : m a b = 0) {l : List Nat} (L : Led n m P a l) : Led n m l b P := by
  have sl := L.sub h s ha
  obtain ⟨l2, L2⟩ := led_ex h sl hb
  have L3 := L.then_ h s ha hb L2
  rw [e] at L3
  have := L3.uniq h s h.pos (led_zero h s)
  rw [← this]
  exact L2
theorem Led.mono (h : Hse n m) {a : Nat} (s : Sub n m P) (s2 : Sub n m K) (ha : a < n) (hs : ∀ x ∈ P, x ∈ K) {l k : List Nat} (L : Led n m P a l) (L2 : Led n m K a k) : ∀ x ∈ l, x ∈ k := fun x hx => by
  obtain ⟨h1, z, hz, e⟩ := (L.iff h s ha x).mp hx
  exact (L2.iff h s2 ha x).mpr ⟨h1, z, hs z hz, e⟩
theorem Orb.sub (h : Hse n m) (s : Sub n m H) {O : List (List Nat)} (o : Orb n m H O) : ∀ K ∈ O, Sub n m K := fun K hK => by
  obtain ⟨g, hg, L⟩ := (o.mem K).mp hK
  exact L.sub h s hg
theorem Orb.self (o : Orb n m H O) : H ∈ O := List.mem_of_getElem? o.hd
theorem Orb.led (h : Hse n m) (s : Sub n m H) {O : List (List Nat)} (o : Orb n m H O) {K l : List Nat} (hK : K ∈ O) {a : Nat} (ha : a < n) (L : Led n m K a l) : l ∈ O := by
  obtain ⟨g, hg, L1⟩ := (o.mem K).mp hK
  exact (o.mem l).mpr ⟨m g a, h.lt g a hg ha, L1.then_ h s hg ha L⟩
/-- two orbits with one part in common are alike -/
theorem Orb.same (h : Hse n m) {H2 : List Nat} (s : Sub n m H) (s2 : Sub n m H2) {O O2 : List (List Nat)} (o : Orb n m H O) (o2 : Orb n m H2 O2) {K : List Nat} (h1 : K ∈ O) (h2 : K ∈ O2) : ∀ x ∈ O2, x ∈ O := fun x hx => by
  obtain ⟨g, hg, L⟩ := (o2.mem K).mp h2
  obtain ⟨k, hk, Lx⟩ := (o2.mem x).mp hx
  obtain ⟨b, hb, e1, e2⟩ := h.inv2 hg
  have L3 := L.back h s2 hg hb e1
  exact o.led h s (o.led h s h1 hb L3) hk Lx
/-- grown from each kind by each number, all parts are met -/
theorem all_met (h : Hse n m) {S : List (List Nat)} (h0 : [0] ∈ S) (led : ∀ K ∈ S, ∀ a, a < n → ∀ l, Led n m K a l → l ∈ S)
    (gr : ∀ K ∈ S, ∃ H, Sub n m H ∧ (∃ g, g < n ∧ Led n m H g K) ∧ ∀ y, y < n → ∃ l ∈ S, IsPt m (H ++ [y]) l) {K : List Nat} (s : Sub n m K) : K ∈ S := by
  suffices hh : ∀ (d : Nat) (P : List Nat), P ∈ S → Sub n m P → (∀ x ∈ P, x ∈ K) → K.length - P.length ≤ d → K ∈ S by
    have z : Sub n m [0] := ⟨List.pairwise_singleton .., fun x hx => by rw [List.mem_singleton.mp hx]; exact h.pos, by simp, fun x hx y hy => by
      rw [List.mem_singleton.mp hx, List.mem_singleton.mp hy, h.zl 0 h.pos]
      simp⟩
    exact hh _ [0] h0 z (fun x hx => by rw [List.mem_singleton.mp hx]; exact s.ze) (Nat.le_refl _)
  intro d
  induction d with
  | zero =>
    intro P hP sP hs hd
    have : K = P := rising_eq s.up sP.up fun x => ⟨fun z => full_of_nodup sP.nd hs (by omega) x z, hs x⟩
    rw [this]
    exact hP
  | succ d ih =>
    intro P hP sP hs hd
    by_cases hall : ∀ x ∈ K, x ∈ P
    · have : K = P := rising_eq s.up sP.up fun x => ⟨hall x, hs x⟩
      rw [this]
      exact hP
    · simp only [Classical.not_forall] at hall
      obtain ⟨x, hx, hxP⟩ := hall
      obtain ⟨H, sH, ⟨g, hg, L⟩, gr⟩ := gr P hP
      obtain ⟨b, hb, e1, e2⟩ := h.inv2 hg
      obtain ⟨K2, LK⟩ := led_ex h s hb
      have sK2 := LK.sub h s hb
      have LPH := L.back h sH hg hb e1
      have hHK := LPH.mono h sP s hb hs LK
      have hxn := s.lt x hx
      have hgx := h.lt g x hg hxn
      have hy := h.lt (m g x) b hgx hb
      -- y = g x b is in K led by b
      have hyK : m (m g x) b ∈ K2 := (LK.iff h s hb _).mpr ⟨hy, x, hx, by rw [← h.as b (m g x) b hb hgx hb, ← h.as b g x hb hg hxn, e2, h.zl x hxn]⟩
      obtain ⟨l, hl, pl⟩ := gr _ hy
      have hlt : ∀ z ∈ H ++ [m (m g x) b], z < n := fun z hz => by
        rcases List.mem_append.mp hz with hz | hz
        · exact sH.lt z hz
        · rw [List.mem_singleton.mp hz]; exact hy
      have sl := pl.sub h hlt
      have hHl : ∀ z ∈ H ++ [m (m g x) b], z ∈ l := fun z hz => (pl.mem z).mpr (rch_one h hz (hlt z hz))
      have hlK : ∀ z ∈ l, z ∈ K2 := fun z hz => sK2.rch (fun w hw => by
        rcases List.mem_append.mp hw with hw | hw
        · exact hHK w hw
        · rw [List.mem_singleton.mp hw]; exact hyK) ((pl.mem z).mp hz)
      obtain ⟨l2, L2⟩ := led_ex h sl hg
      have hl2 := led l hl g hg l2 L2
      have sl2 := L2.sub h sl hg
      have LK2 := LK.back h s hb hg e2
      have h2K := L2.mono h sl sK2 hg hlK LK2
      refine ih l2 hl2 sl2 h2K ?_
      have hyH : m (m g x) b ∉ H := fun z => hxP ((L.iff h sH hg x).mpr ⟨hxn, m (m g x) b, z, by rw [h.as (m g x) b g hgx hb hg, e2, h.zr _ hgx]⟩)
      have hlen : H.length + 1 ≤ l.length := by
        have := len_le_of_sub (k := m (m g x) b :: H) (l := l) (List.nodup_cons.mpr ⟨hyH, sH.nd⟩) fun z hz => by
          rcases List.mem_cons.mp hz with rfl | hz
          · exact hHl _ (by simp)
          · exact hHl z (List.mem_append_left _ hz)
        rwa [List.length_cons] at this
      rw [L2.len h sl hg]
      rw [L.len h sH hg] at hd
      omega
end
end VL
namespace VL
open PySem PySem.Spec PyProof.Rows L2 HM
def kI (K : List Nat) : List Int := K.map fun i : Nat => (i : Int)
theorem kI_inj : ∀ {a b : List Nat}, kI a = kI b → a = b
  | [], [], _ => rfl
  | [], _ :: _, h => by cases h
  | _ :: _, [], h => by cases h
  | x :: a, y :: b, h => by
    unfold kI at h
    rw [List.map_cons, List.map_cons] at h
    injection h with h1 h2
    have : x = y := by omega
    rw [this, kI_inj h2]
theorem tlD_len (L : List (List Nat)) : (tlD L).length = L.length := by unfold tlD; rw [List.length_map]
/-- a set of keys and a list of the same -/
def Same (ks : List (List Int)) (L : List (List Nat)) : Prop := (∀ K, kI K ∈ ks ↔ K ∈ L) ∧ ks.length = L.length
theorem Same.in_ {ks : List (List Int)} {L : List (List Nat)} (s : Same ks L) (K : List Nat) : decide (kI K ∈ ks) = decide (K ∈ L) := decide_eq_decide.mpr (s.1 K)
theorem Same.add {ks : List (List Int)} {L : List (List Nat)} (s : Same ks L) {K : List Nat} (h : K ∉ L) : Same (addT ks (kI K)) (L ++ [K]) := by
  unfold addT
  rw [if_neg fun z => h ((s.1 K).mp z)]
  refine ⟨fun k => ?_, by rw [List.length_cons, List.length_append, s.2]; rfl⟩
  rw [List.mem_cons, List.mem_append, List.mem_singleton, s.1]
  exact ⟨fun z => z.elim (fun z => .inr (kI_inj z)) .inl, fun z => z.elim .inr fun z => .inl (by rw [z])⟩
end VL
namespace VL
open PySem PySem.Spec PyProof.Rows L2 HM
/-- a set of numbers, listed -/
def SetN (S : Int → Bool) (c : Nat) (W : List Nat) : Prop := (∀ j : Int, S j = true ↔ ∃ i ∈ W, j = (i : Int)) ∧ W.Nodup ∧ c ≤ W.length
theorem SetN.in_ {S : Int → Bool} {c : Nat} {W : List Nat} (h : SetN S c W) (k : Nat) : S (k : Int) = decide (k ∈ W) := by
  rw [Bool.eq_iff_iff, h.1, decide_eq_true_iff]
  exact ⟨fun ⟨i, hi, e⟩ => by have : k = i := by omega
                              rw [this]; exact hi, fun z => ⟨k, z, rfl⟩⟩
theorem SetN.add {S : Int → Bool} {c : Nat} {W : List Nat} (h : SetN S c W) (k : Nat) : ∃ W', SetN (fun j => S j || decide (j = (k : Int))) (if S (k : Int) = true then c else c + 1) W' ∧ ∀ y, y ∈ W' ↔ y ∈ W ∨ y = k := by
  by_cases z : k ∈ W
  · refine ⟨W, ⟨fun j => ?_, h.2.1, ?_⟩, fun y => ⟨.inl, fun q => q.elim id fun q => by rw [q]; exact z⟩⟩
    · rw [Bool.or_eq_true, h.1, decide_eq_true_iff]
      exact ⟨fun q => q.elim id fun q => ⟨k, z, q⟩, .inl⟩
    · rw [h.in_, if_pos (decide_eq_true z)]
      exact h.2.2
  · refine ⟨W ++ [k], ⟨fun j => ?_, ?_, ?_⟩, fun y => by rw [List.mem_append, List.mem_singleton]⟩
    · rw [Bool.or_eq_true, h.1, decide_eq_true_iff]
      constructor
      · rintro (⟨i, hi, e⟩ | e)
        · exact ⟨i, List.mem_append_left _ hi, e⟩
        · exact ⟨k, by simp, e⟩
      · rintro ⟨i, hi, e⟩
        rcases List.mem_append.mp hi with hi | hi
        · exact .inl ⟨i, hi, e⟩
        · rw [List.mem_singleton.mp hi] at e
          exact .inr e
    · rw [List.nodup_append]
      exact ⟨h.2.1, by simp, fun a ha b hb q => z (by rw [List.mem_singleton.mp hb] at q; rw [← q]; exact ha)⟩
    · rw [h.in_, if_neg (by simp [z]), List.length_append]
      exact Nat.succ_le_succ h.2.2
/-- what grows of a part: whole cosets -/
structure Grow (n : Nat) (m : Nat → Nat → Nat) (H hs fs W : List Nat) : Prop where
  rc : ∀ y ∈ W, Rch m hs y
  f0 : 0 ∈ fs
  ndf : fs.Nodup
  fw : ∀ f ∈ fs, f ∈ W
  co : ∀ f ∈ fs, ∀ h ∈ H, m h f ∈ W
  of : ∀ y ∈ W, ∃ f ∈ fs, ∃ h ∈ H, m h f = y
theorem Grow.all {n : Nat} {m : Nat → Nat → Nat} {H hs fs W : List Nat} (h : Hse n m) (s : Sub n m H) (hh : ∀ g ∈ hs, g < n) (G : Grow n m H hs fs W) (cl : ∀ f ∈ fs, ∀ g ∈ hs, m f g ∈ W) (y : Nat) : y ∈ W ↔ Rch m hs y := by
  refine ⟨G.rc y, fun r => ?_⟩
  induction r with
  | zero => exact G.fw 0 G.f0
  | @step a g r hg ih =>
    obtain ⟨f, hf, x, hx, e⟩ := G.of a ih
    have hfn := (G.rc f (G.fw f hf)).lt h.pos h.lt hh
    obtain ⟨f2, hf2, x2, hx2, e2⟩ := G.of _ (cl f hf g hg)
    have hf2n := (G.rc f2 (G.fw f2 hf2)).lt h.pos h.lt hh
    rw [← e, h.as x f g (s.lt x hx) hfn (hh g hg), ← e2, ← h.as x x2 f2 (s.lt x hx) (s.lt x2 hx2) hf2n]
    exact G.co f2 hf2 _ (s.mul x hx x2 hx2)
end VL
namespace VL
open PySem PySem.Spec PyProof.Rows L2 HM
theorem pt_zero (m : Nat → Nat → Nat) : IsPt m [] [0] := ⟨List.pairwise_singleton .., fun x => by
  rw [List.mem_singleton]
  constructor
  · rintro rfl
    exact .zero
  · intro r
    cases r with
    | zero => rfl
    | step _ hg => cases hg⟩
theorem sub_zero {n : Nat} {m : Nat → Nat → Nat} (h : Hse n m) : Sub n m [0] := (pt_zero m).sub h fun g hg => by cases hg
theorem flat_ge : ∀ {T : List (List (List Nat))}, (∀ O ∈ T, O ≠ []) → T.length ≤ T.flatten.length
  | [], _ => Nat.le_refl _
  | O :: T, h => by
    have := flat_ge (T := T) fun O hO => h O (List.mem_cons_of_mem _ hO)
    have : 0 < O.length := List.length_pos_iff.mpr (h O List.mem_cons_self)
    rw [List.flatten_cons, List.length_append, List.length_cons]
    omega
theorem flat_snoc (T : List (List (List Nat))) (O : List (List Nat)) : (T ++ [O]).flatten = T.flatten ++ O := by simp
theorem tlD_snoc (L : List (List Nat)) (K : List Nat) : tlD L ++ [.lst (nsD K)] = tlD (L ++ [K]) := by unfold tlD; rw [List.map_append]; rfl
/-- what the search by kinds knows -/
structure Srch (n : Nat) (m : Nat → Nat → Nat) (T : List (List (List Nat))) (M : List (List Nat)) : Prop where
  nd : T.flatten.Nodup
  ze : [0] ∈ T.flatten
  len : M.length = T.length
  orb : ∀ (i : Nat) (O : List (List Nat)), T[i]? = some O → ∃ H gs, M[i]? = some gs ∧ IsPt m gs H ∧ (∀ g ∈ gs, g < n) ∧ gs.length + 1 ≤ H.length ∧ Orb n m H O
section
variable {n : Nat} {m : Nat → Nat → Nat} {T : List (List (List Nat))} {M : List (List Nat)}
theorem Srch.of_mem (S : Srch n m T M) {O : List (List Nat)} (hO : O ∈ T) : ∃ H gs, IsPt m gs H ∧ (∀ g ∈ gs, g < n) ∧ Orb n m H O := by
  obtain ⟨i, hi, e⟩ := List.getElem_of_mem hO
  obtain ⟨H, gs, _, h1, h2, _, h3⟩ := S.orb i O (by rw [List.getElem?_eq_getElem hi, e])
  exact ⟨H, gs, h1, h2, h3⟩
theorem Srch.few (h : Hse n m) (h60 : n ≤ 60) (S : Srch n m T M) : T.flatten.length ≤ 2400 ∧ T.length ≤ 2400 := by
  have h1 := few_subs h h60 S.nd fun K hK => by
    obtain ⟨O, hO, hK⟩ := List.mem_flatten.mp hK
    obtain ⟨H, gs, hp, hg, o⟩ := S.of_mem hO
    exact o.sub h (hp.sub h hg) K hK
  have h2 := flat_ge (T := T) fun O hO z => by
    obtain ⟨H, gs, hp, hg, o⟩ := S.of_mem hO
    have := o.hd
    rw [z] at this
    cases this
  exact ⟨h1, by omega⟩
theorem Srch.apart (h : Hse n m) (S : Srch n m T M) {l : List Nat} (s : Sub n m l) (hl : l ∉ T.flatten) {O : List (List Nat)} (o : Orb n m l O) : ∀ K ∈ O, K ∉ T.flatten := fun K hK hK2 => by
  obtain ⟨O2, hO2, hK2⟩ := List.mem_flatten.mp hK2
  obtain ⟨H, gs, hp, hg, o2⟩ := S.of_mem hO2
  exact hl (List.mem_flatten.mpr ⟨O2, hO2, o2.same h (hp.sub h hg) s o hK2 hK l o.self⟩)
theorem Srch.add (h : Hse n m) (S : Srch n m T M) {l gs : List Nat} (hp : IsPt m gs l) (hg : ∀ g ∈ gs, g < n) (hlen : gs.length + 1 ≤ l.length) (hl : l ∉ T.flatten) {O : List (List Nat)} (o : Orb n m l O) : Srch n m (T ++ [O]) (M ++ [gs]) := by
  have s := hp.sub h hg
  refine ⟨?_, by rw [flat_snoc]; exact List.mem_append_left _ S.ze, by rw [List.length_append, List.length_append, S.len]; rfl, fun i O2 hi => ?_⟩
  · rw [flat_snoc, List.nodup_append]
    exact ⟨S.nd, o.nd, fun a ha b hb e => S.apart h s hl o b hb (by rw [← e]; exact ha)⟩
  · rcases Nat.lt_or_ge i T.length with z | z
    · rw [List.getElem?_append_left z] at hi
      obtain ⟨H, gs2, h1, h2⟩ := S.orb i O2 hi
      exact ⟨H, gs2, by rw [List.getElem?_append_left (by rw [S.len]; exact z)]; exact h1, h2⟩
    · rw [List.getElem?_append_right z] at hi
      have hz : i - T.length = 0 := by
        have := (List.getElem?_eq_some_iff.mp hi).1
        rw [List.length_singleton] at this
        omega
      rw [hz] at hi
      cases hi
      exact ⟨l, gs, by rw [List.getElem?_append_right (by rw [S.len]; exact z), S.len, hz]; rfl, hp, hg, hlen, o⟩
theorem Srch.all (h : Hse n m) (S : Srch n m T M) (cl : ∀ (i : Nat) (O : List (List Nat)) (H : List Nat), T[i]? = some O → O[0]? = some H → ∀ y, y < n → ∃ l ∈ T.flatten, IsPt m (H ++ [y]) l) : Kinds n m T := by
  refine ⟨fun O hO => ?_, fun K hK => ?_, S.nd⟩
  · obtain ⟨H, gs, hp, hg, o⟩ := S.of_mem hO
    exact ⟨H, hp.sub h hg, o⟩
  · have := all_met h (S := T.flatten) S.ze (fun K hK a ha l L => by
      obtain ⟨O, hO, hK⟩ := List.mem_flatten.mp hK
      obtain ⟨H, gs, hp, hg, o⟩ := S.of_mem hO
      exact List.mem_flatten.mpr ⟨O, hO, o.led h (hp.sub h hg) hK ha L⟩) (fun K hK => by
      obtain ⟨O, hO, hK⟩ := List.mem_flatten.mp hK
      obtain ⟨H, gs, hp, hg, o⟩ := S.of_mem hO
      obtain ⟨i, hi, e⟩ := List.getElem_of_mem hO
      exact ⟨H, hp.sub h hg, (o.mem K).mp hK, cl i O H (by rw [List.getElem?_eq_getElem hi, e]) o.hd⟩) hK
    obtain ⟨O, hO, hK⟩ := List.mem_flatten.mp this
    exact ⟨O, hO, hK⟩
end
end VL
namespace HM
open PySem PySem.Spec PyProof.Rows L2
/-- what a key function of (len(x), x) gives -/
def rankK (b : List Int) : PyData := .tuple [.int b.length, .tuple (b.map .int)]
end HM
namespace HM
open PySem PySem.Spec PyProof.Rows L2 LamX
/-- the table at P: each code object that it tells is known, and bears the name q -/
def TabF (H : Hp) (P : Addr) (q : Str) : Prop := ∃ ps : Array Value, H P = some (.tbl ps) ∧ TriplesOk ps.toList ∧ ∀ (pos : Pos) (cv : Value), codeAmong pos ps.toList = some cv → ∃ c oc vs t, cv = .ref c ∧ H c = some (.frz oc (.own c)) ∧ oc.data = .fields vs ∧ vs[1]? = some (.str q t)
/-- H' is H but for the table at P, and what is new -/
def TabUp (P : Addr) (q : Str) (H H' : Hp) : Prop := TabF H' P q ∧ ∀ b, b ≠ P → H b ≠ none → H' b = H b
theorem TabF.keep {H H' : Hp} {P P' : Addr} {q : Str} (t : TabF H P q) (h : ∀ b, b ≠ P' → H b ≠ none → H' b = H b) (ne : P ≠ P') (hP : ∃ ps, H P' = some (.tbl ps)) : TabF H' P q := by
  obtain ⟨ps, h1, h2, h3⟩ := t
  refine ⟨ps, by rw [h P ne (by rw [h1]; simp)]; exact h1, h2, fun pos cv e => ?_⟩
  obtain ⟨c, oc, vs, t, e1, e2, e3⟩ := h3 pos cv e
  refine ⟨c, oc, vs, t, e1, ?_, e3⟩
  rw [h c (fun z => by obtain ⟨ps', e'⟩ := hP; rw [z, e'] at e2; cases e2) (by rw [e2]; simp)]
  exact e2
/-- by length, then by what stands in it -/
def rkLe (a b : List Int) : Bool := PySem.W.dataLe false rankK a b
/-- sorted(e, key=lambda x: (len(x), x)), e a list of tuples of whole numbers -/
theorem TabUp.rd {P : Addr} {q : Str} {H H1 : Hp} (up : TabUp P q H H1) (hT : TabF H P q) {a : Addr} {u : HO} (hu : ∀ ps, u ≠ .tbl ps) (h : Rd H a u) : Rd H1 a u := by
  obtain ⟨ps, hP, _⟩ := hT
  rcases h with h | ⟨o, h⟩
  · exact .inl (by rw [up.2 a (fun z => by rw [z, hP] at h; cases h; exact hu ps rfl) (by rw [h]; simp)]; exact h)
  · exact .inr ⟨o, by rw [up.2 a (fun z => by rw [z, hP] at h; cases h) (by rw [h]; simp)]; exact h⟩
end HM
namespace VL
open PySem PySem.Spec PyProof.Rows L2 HM
end VL
namespace HM
open PySem PySem.Spec PyProof.Rows L2
section
variable {X : Cx}
def FewT (ks : List (List Int)) (c : Nat) : Prop := ∃ L : List (List Int), L.Nodup ∧ (∀ k, k ∈ L ↔ k ∈ ks) ∧ L.length = c
end
end HM
namespace VL
open PySem PySem.Spec PyProof.Rows L2 HM
end VL
namespace VL
open PySem PySem.Spec PyProof.Rows L2 HM
section
variable {n : Nat} {m : Nat → Nat → Nat} {P : List Nat}
theorem lst_nodup (j : Nat) : (lst m P j).Nodup := List.nodup_range.filter _
end
end VL
namespace HM
open PySem PySem.Spec PyProof.Rows L2
end HM
namespace VL
open PySem PySem.Spec PyProof.Rows L2 HM
/-- the kinds: the least part of each -/
structure IsKinds (n : Nat) (m : Nat → Nat → Nat) (ks : List (List Nat)) : Prop where
  sub : ∀ K ∈ ks, Sub n m K
  least : ∀ K ∈ ks, ∀ g, g < n → ∀ K', Led n m K g K' → ¬ kI K' < kI K
  all : ∀ K, Sub n m K → ∃ k ∈ ks, ∃ g, g < n ∧ Led n m K g k
  one : ∀ k ∈ ks, ∀ k' ∈ ks, ∀ g, g < n → Led n m k g k' → k = k'
  nd : ks.Nodup
  ord : ks.Pairwise fun a b => rkLe (kI a) (kI b) = true
end VL
namespace VL
open PySem PySem.Spec PyProof.Rows L2 HM
theorem Kinds.few {n : Nat} {m : Nat → Nat → Nat} {T : List (List (List Nat))} (h : Hse n m) (h60 : n ≤ 60) (k : Kinds n m T) : (∀ O ∈ T, O ≠ [] ∧ ∀ K ∈ O, Sub n m K) ∧ T.flatten.length ≤ 2400 ∧ T.length ≤ 2400 := by
  have h0 : ∀ O ∈ T, O ≠ [] ∧ ∀ K ∈ O, Sub n m K := fun O hO => by
    obtain ⟨H, s, o⟩ := k.orb O hO
    refine ⟨fun z => ?_, o.sub h s⟩
    have := o.hd
    rw [z] at this
    cases this
  have h1 := few_subs h h60 k.nd fun K hK => by
    obtain ⟨O, hO, hK⟩ := List.mem_flatten.mp hK
    exact (h0 O hO).2 K hK
  have h2 := flat_ge (T := T) fun O hO => (h0 O hO).1
  exact ⟨h0, h1, by omega⟩
end VL
namespace VL
open PySem PySem.Spec PyProof.Rows L2 HM
def BitsOk (b : Nat) (l : List Nat) : Prop := ∀ k, b.testBit k = decide (k ∈ l)
theorem BitsOk.add {b : Nat} {l : List Nat} (h : BitsOk b l) (x : Nat) : BitsOk (b ||| 2 ^ x) (l ++ [x]) := fun k => by
  rw [Nat.testBit_or, h k, Nat.testBit_two_pow]
  by_cases e : x = k
  · subst e; simp
  · have : ¬ k = x := fun z => e z.symm
    simp [e, this]
theorem BitsOk.sub {a b : Nat} {l k : List Nat} (h : BitsOk a l) (h2 : BitsOk b k) : (a &&& b = a) ↔ ∀ x ∈ l, x ∈ k := by
  constructor
  · intro e x hx
    have := congrArg (fun z => Nat.testBit z x) e
    simp only [Nat.testBit_and] at this
    rw [h x, h2 x, decide_eq_true hx, Bool.true_and] at this
    exact of_decide_eq_true this
  · intro hs
    refine Nat.eq_of_testBit_eq fun i => ?_
    rw [Nat.testBit_and, h i, h2 i]
    by_cases e : i ∈ l
    · rw [decide_eq_true e, decide_eq_true (hs i e)]; rfl
    · rw [decide_eq_false e]; rfl
end VL
namespace VL
open PySem PySem.Spec PyProof.Rows L2 HM
end VL
namespace VL
open PySem PySem.Spec PyProof.Rows L2 HM
section
variable {am : Am} {F0 H0 : Hp} {X : Cx} {e : Expr} {st : Stmt}
theorem rps_key {F : Hp} : ∀ k : List Key, Rps F (k.map kV) (k.map keyD)
  | [] => .nil
  | .inl i :: k => .cons (.int i) (rps_key k)
  | .inr s :: k => .cons (.str s) (rps_key k)
end
end VL
namespace VL
open PySem PySem.Spec PyProof.Rows L2 HM
end VL
namespace VL
open PySem PySem.Spec PyProof.Rows L2 HM
end VL
namespace VL
open PySem PySem.Spec PyProof.Rows L2 HM
end VL
namespace VL
open PySem PySem.Spec PyProof.Rows L2 HM
end VL
namespace VL
open PySem PySem.Spec PyProof.Rows L2 HM
end VL
namespace VL
open PySem PySem.Spec PyProof.Rows L2 HM
section
variable {n : Nat} {m : Nat → Nat → Nat} {O : List Nat} {N : Nat} {a : Nat → Nat → Nat}
/-- O moves the numbers below N -/
structure Mov (m : Nat → Nat → Nat) (O : List Nat) (N : Nat) (a : Nat → Nat → Nat) : Prop where
  lt : ∀ i g, i < N → g ∈ O → a i g < N
  ze : ∀ i, i < N → a i 0 = i
  mu : ∀ i g k, i < N → g ∈ O → k ∈ O → a (a i g) k = a i (m g k)
theorem Mov.back (h : Hse n m) (s : Sub n m O) (M : Mov m O N a) {x y g : Nat} (hx : x < N) (hg : g ∈ O) (e : a x g = y) : ∃ k ∈ O, a y k = x := by
  obtain ⟨k, hk, e1, e2⟩ := s.inv h hg
  exact ⟨k, hk, by rw [← e, M.mu x g k hx hg hk, e1, M.ze x hx]⟩
/-- all that x is moved to -/
def IsPc (O : List Nat) (a : Nat → Nat → Nat) (N : Nat) (A : List Nat) : Prop := ∃ x, x < N ∧ ∀ y, y ∈ A ↔ ∃ g ∈ O, a x g = y
end
section
variable {n : Nat} {m : Nat → Nat → Nat} {L O : List Nat}
def shAt (n : Nat) (m : Nat → Nat → Nat) (L : List Nat) (i : Nat) : Nat := (lst m L n).getD i 0
/-- where a number leads a share, by places -/
def shMv (n : Nat) (m : Nat → Nat → Nat) (L : List Nat) (i g : Nat) : Nat := plc m L (m (shAt n m L i) g)
theorem shAt_get {i : Nat} (hi : i < (lst m L n).length) : (lst m L n)[i]? = some (shAt n m L i) := by
  unfold shAt
  rw [List.getD_eq_getElem?_getD, List.getElem?_eq_getElem hi]
  rfl
theorem plc_get (h : Hse n m) (s : Sub n m L) {g : Nat} (hg : g < n) : (lst m L n)[plc m L g]? = some (rp m L g) := by
  obtain ⟨j, hj, e⟩ := List.getElem_of_mem (lst_mem.mpr ⟨s.rp_lt h hg, s.rp_rp h hg⟩)
  have e2 : (lst m L n)[j]? = some (rp m L g) := by rw [List.getElem?_eq_getElem hj, e]
  have e3 := (lst_plc e2).2
  have e4 : plc m L (rp m L g) = plc m L g := (s.plc_iff h (s.rp_lt h hg) hg).mpr (s.rp_rp h hg)
  rw [← e4, e3]
  exact e2
theorem plc_lt (h : Hse n m) (s : Sub n m L) {g : Nat} (hg : g < n) : plc m L g < (lst m L n).length := (List.getElem?_eq_some_iff.mp (plc_get h s hg)).1
theorem shAt_plc (h : Hse n m) (s : Sub n m L) {g : Nat} (hg : g < n) : shAt n m L (plc m L g) = rp m L g := by
  unfold shAt
  rw [List.getD_eq_getElem?_getD, plc_get h s hg]
  rfl
theorem mov_sh (h : Hse n m) (s : Sub n m L) (sO : Sub n m O) : Mov m O (lst m L n).length (shMv n m L) := by
  have at_ : ∀ i, i < (lst m L n).length → shAt n m L i < n ∧ plc m L (shAt n m L i) = i := fun i hi => lst_plc (shAt_get hi)
  refine ⟨fun i g hi hg => plc_lt h s (h.lt _ _ (at_ i hi).1 (sO.lt g hg)), fun i hi => ?_, fun i g k hi hg hk => ?_⟩
  · unfold shMv
    rw [h.zr _ (at_ i hi).1]
    exact (at_ i hi).2
  · have hx := (at_ i hi).1
    have hgn := sO.lt g hg
    have hkn := sO.lt k hk
    have hxg := h.lt _ _ hx hgn
    unfold shMv
    rw [shAt_plc h s hxg]
    obtain ⟨l, hl, e⟩ := s.rp_cls h hxg
    have hr := s.rp_lt h hxg
    refine ((cls_plc h s (h.lt _ _ hx (h.lt g k hgn hkn)) (h.lt _ _ hr hkn)).mpr ⟨l, hl, ?_⟩).symm
    rw [← e, ← h.as _ g k hx hgn hkn, h.as l _ k (s.lt l hl) hxg hkn]
end
/-- a walk of one piece: what is met, what waits -/
structure Pw (O : List Nat) (a : Nat → Nat → Nat) (N x : Nat) (cur ws : List Nat) : Prop where
  nd : cur.Nodup
  x0 : x ∈ cur
  rc : ∀ y ∈ cur, ∃ g ∈ O, a x g = y
  sb : ∀ y ∈ ws, y ∈ cur
  wn : ws.Nodup
  cl : x ∈ ws ∨ ∀ g ∈ O, a x g ∈ cur
/-- whole pieces, all below j in them -/
structure Pd (O : List Nat) (a : Nat → Nat → Nat) (N j : Nat) (T : List (List Nat)) : Prop where
  nd : T.flatten.Nodup
  pc : ∀ A ∈ T, IsPc O a N A
  all : ∀ i, i < j → i ∈ T.flatten
section
variable {n : Nat} {m : Nat → Nat → Nat} {O : List Nat} {N : Nat} {a : Nat → Nat → Nat}
theorem Pd.lt (M : Mov m O N a) {j : Nat} {T : List (List Nat)} (D : Pd O a N j T) : ∀ y ∈ T.flatten, y < N := fun y hy => by
  obtain ⟨A, hA, hyA⟩ := List.mem_flatten.mp hy
  obtain ⟨x, hx, mem⟩ := D.pc A hA
  obtain ⟨g, hg, e⟩ := (mem y).mp hyA
  rw [← e]
  exact M.lt x g hx hg
/-- what is moved to a met one is met -/
theorem Pd.apart (h : Hse n m) (s : Sub n m O) (M : Mov m O N a) {j x g : Nat} {T : List (List Nat)} (D : Pd O a N j T) (hx : x < N) (hg : g ∈ O) (hn : x ∉ T.flatten) : a x g ∉ T.flatten := fun hy => by
  obtain ⟨A, hA, hyA⟩ := List.mem_flatten.mp hy
  obtain ⟨z, hz, mem⟩ := D.pc A hA
  obtain ⟨k, hk, e⟩ := M.back h s hx hg rfl
  obtain ⟨u, hu, e2⟩ := (mem _).mp hyA
  refine hn (List.mem_flatten.mpr ⟨A, hA, (mem x).mpr ⟨m u k, s.mul u hu k hk, ?_⟩⟩)
  rw [← M.mu z u k hz hu hk, e2, e]
theorem flat_snoc1 (T : List (List Nat)) (A : List Nat) : (T ++ [A]).flatten = T.flatten ++ A := by simp
theorem Pd.add (h : Hse n m) (s : Sub n m O) (M : Mov m O N a) {x : Nat} {T : List (List Nat)} {cur : List Nat} (D : Pd O a N x T) (hx : x < N) (hn : x ∉ T.flatten) (W : Pw O a N x cur []) : Pd O a N (x + 1) (T ++ [cur]) := by
  have cl := W.cl.resolve_left (by simp)
  refine ⟨?_, fun A hA => ?_, fun i hi => ?_⟩
  · rw [flat_snoc1, List.nodup_append]
    exact ⟨D.nd, W.nd, fun y hy z hz e => by
      obtain ⟨g, hg, e2⟩ := W.rc z hz
      exact D.apart h s M hx hg hn (by rw [e2, ← e]; exact hy)⟩
  · rcases List.mem_append.mp hA with z | z
    · exact D.pc A z
    · rw [List.mem_singleton.mp z]
      exact ⟨x, hx, fun y => ⟨W.rc y, fun ⟨g, hg, e⟩ => e ▸ cl g hg⟩⟩
  · rw [flat_snoc1, List.mem_append]
    by_cases z : i = x
    · rw [z]; exact .inr W.x0
    · exact .inl (D.all i (by omega))
theorem Pd.perm (M : Mov m O N a) {T : List (List Nat)} (D : Pd O a N N T) : T.flatten.Perm (List.range N) :=
  (List.perm_ext_iff_of_nodup D.nd List.nodup_range).mpr fun y => ⟨fun hy => List.mem_range.mpr (D.lt M y hy), fun hy => D.all y (List.mem_range.mp hy)⟩
end
end VL
namespace VL
open PySem PySem.Spec PyProof.Rows L2 HM
end VL
namespace HM
open PySem PySem.Spec PyProof.Rows L2
end HM
namespace VL
open PySem PySem.Spec PyProof.Rows L2 HM
section
variable {c : Fc} {X : Cx} {o e o2 : Expr} {te : VTE} {apos cpos pos p : Pos}
/-- list(d), keys tuples -/
def vListDT (i : Nat) : VTN := fun env n Q => ∃ kvs, env[i]? = some (.ow (.dT kvs)) ∧ Q (.lst (kvs.map fun q => tupD q.1)) env n
theorem Rel.addKs {F H : Hp} {σ : L2.St} {env : Ev} {n : Nat} : ∀ {ks : List (List Key × V)} {bs : List Addr}, Rel c F H σ env n → IsKeys H ks bs → ∃ F', Rel c F' H σ env n ∧ Up F F' ∧ Rps F' (bs.map V.ref) (ks.map fun q => tupD q.1)
  | _, _, r, .nil => ⟨F, r, Up.refl F, .nil⟩
  | p :: ks, b :: bs, r, .cons h t => by
    obtain ⟨F1, r1, u1, p1⟩ := Rel.addKs r t
    obtain ⟨r2, u2⟩ := r1.addT h
    exact ⟨_, r2, u1.trans u2, .cons (.tup upd_same (rps_key p.1)) (p1.up u2)⟩
theorem vn_listDT {i : Nat} (hc : X.calm = true) (hg : Gl X "list") (hm : X.mg "list" = none) (ho : PE X o (tVar i)) (he : starEach [o] X.env = (false, eval o X.env) :: starEach [] X.env := by rfl) (hpl : (backTo pos (starEach [] X.env)).any (·.1) = false := by rfl) :
    PE X (.Call (.Name "list" p) [o] [] pos) (nOf c (vListDT i)) := PE.imp (pe_callTy (call_list_dT hc) hg hm (by decide +kernel) (pa_cons ho pa_nil he) (by decide) (by decide) he hpl) fun σ H R ⟨F, env, n, Q, rr, ⟨kvs, e, q⟩, k⟩ => by
  obtain ⟨a, o, g1, g5, ks, rfl, pr⟩ := rr.slotA e
  refine ⟨_, g1, a, ks, rfl, .inl g5, fun p bs np hb => ?_⟩
  obtain ⟨F1, r1, u1, p1⟩ := Rel.addKs rr hb
  have e9 : (ks.map fun q => tupD q.1) = kvs.map fun q => tupD q.1 := by
    have := congrArg (List.map tupD) pr.keys
    rw [List.map_map, List.map_map] at this
    exact this
  exact nOf_new r1 u1 np (kk := .lst (kvs.map fun q => tupD q.1)) ⟨_, rfl, e9 ▸ p1⟩ q k
end
end VL
namespace VL
open PySem PySem.Spec PyProof.Rows L2 HM
/-- the places of the parts of the first j kinds -/
structure Came (n : Nat) (m : Nat → Nat → Nat) (ks : List (List Nat)) (j : Nat) (C : List (List Nat × Nat)) : Prop where
  nd : (C.map (·.1)).Nodup
  mem : ∀ K i, (K, i) ∈ C ↔ i < j ∧ ∃ K0, ks[i]? = some K0 ∧ ∃ g, g < n ∧ Led n m K0 g K
section
variable {n : Nat} {m : Nat → Nat → Nat} {ks : List (List Nat)} {j : Nat} {C : List (List Nat × Nat)}
theorem Came.sub (h : Hse n m) (k : IsKinds n m ks) (c : Came n m ks j C) {K : List Nat} (hK : K ∈ C.map (·.1)) : Sub n m K := by
  obtain ⟨⟨K', i⟩, hq, rfl⟩ := List.mem_map.mp hK
  obtain ⟨_, K0, h0, g, hg, L⟩ := (c.mem _ _).mp hq
  exact L.sub h (k.sub K0 (List.mem_of_getElem? h0)) hg
/-- a part of one kind is of no other one -/
theorem kind_one (h : Hse n m) (k : IsKinds n m ks) {i1 i2 : Nat} {K1 K2 K : List Nat} {g1 g2 : Nat} (h1 : ks[i1]? = some K1) (h2 : ks[i2]? = some K2) (hg1 : g1 < n) (hg2 : g2 < n) (L1 : Led n m K1 g1 K) (L2 : Led n m K2 g2 K) : i1 = i2 := by
  have s1 := k.sub K1 (List.mem_of_getElem? h1)
  have s2 := k.sub K2 (List.mem_of_getElem? h2)
  obtain ⟨b, hb, e1, e2⟩ := h.inv2 hg2
  have := k.one K1 (List.mem_of_getElem? h1) K2 (List.mem_of_getElem? h2) (m g1 b) (h.lt g1 b hg1 hb) (L1.then_ h s1 hg1 hb (L2.back h s2 hg2 hb e1))
  subst this
  obtain ⟨a1, a2⟩ := List.getElem?_eq_some_iff.mp h1
  obtain ⟨b1, b2⟩ := List.getElem?_eq_some_iff.mp h2
  exact (List.getElem_inj (i := i1) (j := i2) (h₀ := a1) (h₁ := b1) k.nd).mp (by rw [a2, b2])
theorem Came.apart (h : Hse n m) (k : IsKinds n m ks) (c : Came n m ks j C) {K0 K : List Nat} {g : Nat} (h0 : ks[j]? = some K0) (hg : g < n) (L : Led n m K0 g K) : K ∉ C.map (·.1) := fun hK => by
  obtain ⟨⟨K', i⟩, hq, rfl⟩ := List.mem_map.mp hK
  obtain ⟨hi, K1, h1, g1, hg1, L1⟩ := (c.mem _ _).mp hq
  have := kind_one h k h1 h0 hg1 hg L1 L
  omega
theorem Came.add (h : Hse n m) (k : IsKinds n m ks) (c : Came n m ks j C) {K0 : List Nat} {O : List (List Nat)} (h0 : ks[j]? = some K0) (nd : O.Nodup) (mem : ∀ K, K ∈ O ↔ ∃ g, g < n ∧ Led n m K0 g K) : Came n m ks (j + 1) (C ++ O.map fun K => (K, j)) := by
  refine ⟨?_, fun K i => ?_⟩
  · rw [List.map_append, List.map_map]
    have e : (O.map ((fun q : List Nat × Nat => q.1) ∘ fun K => (K, j))) = O := List.map_id' O
    rw [e, List.nodup_append]
    exact ⟨c.nd, nd, fun a ha b hb e => by
      obtain ⟨g, hg, L⟩ := (mem b).mp hb
      exact c.apart h k h0 hg L (e ▸ ha)⟩
  · rw [List.mem_append, c.mem, List.mem_map]
    constructor
    · rintro (⟨h1, h2⟩ | ⟨K', h1, e⟩)
      · exact ⟨by omega, h2⟩
      · injection e with e1 e2
        subst e1 e2
        exact ⟨by omega, K0, h0, (mem K').mp h1⟩
    · rintro ⟨h1, K1, h2, h3⟩
      by_cases z : i = j
      · subst z
        rw [h0] at h2
        cases h2
        exact .inr ⟨K, (mem K).mpr h3, rfl⟩
      · exact .inl ⟨by omega, K1, h2, h3⟩
theorem Came.all (h : Hse n m) (k : IsKinds n m ks) (c : Came n m ks ks.length C) (K : List Nat) : K ∈ C.map (·.1) ↔ Sub n m K := by
  refine ⟨c.sub h k, fun s => ?_⟩
  obtain ⟨k1, hk1, g, hg, L⟩ := k.all K s
  obtain ⟨b, hb, e1, e2⟩ := h.inv2 hg
  obtain ⟨i, hi, e⟩ := List.getElem_of_mem hk1
  exact List.mem_map.mpr ⟨(K, i), (c.mem K i).mpr ⟨hi, k1, by rw [List.getElem?_eq_getElem hi, e], b, hb, L.back h s hg hb e1⟩, rfl⟩
end
end VL
namespace HM
open PySem PySem.Spec PyProof.Rows L2
end HM
namespace VL
open PySem PySem.Spec PyProof.Rows L2 HM
section
variable {c : Fc} {X : Cx} {o e f : Expr} {pos apos cpos : Pos}
theorem PrK.ints {F : Hp} : ∀ {ks : List (Key × V)} {kvs : List (Key × Dt)} {is : List Int}, PrK F ks kvs → kvs.map (·.2) = is.map Dt.int → ks.map (·.2) = is.map V.int
  | _, _, [], .nil, _ => rfl
  | _, _, _ :: _, .nil, e => by cases e
  | _, _, [], .cons _ _, e => by cases e
  | _, _, i :: is, .cons h t, e => by
    rw [List.map_cons, List.map_cons] at e
    injection e with e1 e2
    have h2 := h.2
    rw [e1] at h2
    rw [List.map_cons, List.map_cons, h2.int_inv, PrK.ints t e2]
end
end VL
namespace VL
open PySem PySem.Spec PyProof.Rows L2 HM
end VL
namespace VL
open PySem PySem.Spec PyProof.Rows L2 HM
/-- a is a new list of numbers, not still -/
structure NewL (am : Am) (H F' H' : Hp) (a : Addr) (x : List Int) : Prop where
  f : F' a = none
  h : H a = none
  s : ¬ am.sp a
  o : H' a = some (.lst (x.map V.int))
structure VEnP where
  nx : Ev → Nat → Prop
  rt : List Int → List Int → Nat → Prop
abbrev VTP := VEnP → Ev → Nat → Prop
structure EnP (c : Fc) (F : Hp) (V : VEnP) (D : Ends) : Prop where
  nx : ∀ F' H' σ' env' n', Rel c F' H' σ' env' n' → Up F F' → V.nx env' n' → D.nx σ' H'
  rt : ∀ F' H' σ' env' n' t a b x y, Rel c F' H' σ' env' n' → Up F F' → F' t = some (.tup [.ref a, .ref b]) → a ≠ b → NewL c.am c.H0 F' H' a x → NewL c.am c.H0 F' H' b y → V.rt x y n' → D.rt (.ref t) H'
def sP (c : Fc) (ts : VTP) : TS := fun D σ H => ∃ F env n V, Rel c F H σ env n ∧ ts V env n ∧ EnP c F V D
section
variable {c : Fc} {X : Cx} {st : Stmt} {rest body : List Stmt} {pos : Pos} {t u : VTP}
theorem EnP.up {F F' : Hp} {V : VEnP} {D : Ends} (h : EnP c F V D) (w : Up F F') : EnP c F' V D :=
  ⟨fun F2 H' σ' env' n' r z => h.nx F2 H' σ' env' n' r (w.trans z), fun F2 H' σ' env' n' t a b x y r z => h.rt F2 H' σ' env' n' t a b x y r (w.trans z)⟩
end
section
variable {c : Fc} {X : Cx} {F H : Hp} {σ : L2.St} {env : Ev} {n : Nat} {a : Addr} {x : List Int}
theorem Rel.notOwn (r : Rel c F H σ env n) (h : H a = none) : ∀ (j : Nat) k', env[j]? = some (.ow k') → σ[j]? ≠ some (some (.ref a)) := fun j k' e z => by
  obtain ⟨a2, o2, g1, _, _, _, g5, _⟩ := r.sl j _ e
  rw [g1] at z
  cases z
  rw [g5] at h
  cases h
theorem Rel.H0none (r : Rel c F H σ env n) (h : H a = none) (hs : ¬ c.am.sp a) : c.H0 a = none := by
  cases e : c.H0 a with
  | none => rfl
  | some o => rw [r.keep0 a o e hs] at h; cases h
variable {CX : CXT} {E : XK} {p pos : Pos} {e : Expr} {es : List Expr} {tas : VTA} {f : Addr} {fd : FuncData} {ps : List Str} {k : Nat} {fn : Str} {gd : Around → Prop}
end
def two (x y : List Int) : Nat → List Int := fun i => if i = 0 then x else y
end VL
namespace VL
open PySem PySem.Spec PyProof.Rows L2 HM
section
variable {am : Am} {F0 : Hp} {X : Cx} {st : Stmt} {pos p cpos : Pos} {e : Expr} {es : List Expr} {tas : VTA} {f : Addr} {fd : FuncData} {ps : List Str} {k : Nat} {fn : Str} {gd : Around → Prop} {CX : CXT}
/-- a row of a text, by what stood when entered -/
def xLiftH (ts : Hp → VTS) : XTS := fun V H0 env n => ts H0 ⟨V.nx H0, V.rt H0, V.bk H0, V.ct H0⟩ env n
theorem xs_liftH {ts : Hp → VTS} (h : ∀ H0, PS X st (sOf ⟨am, F0, H0⟩ (ts H0))) : PS X st (sX am F0 (xLiftH ts)) := ⟨fun pins s σ H D I ⟨H0, F, env, n, V, r, q, k⟩ => (h H0).run pins s σ H D I ⟨F, env, n, _, r, q, ⟨fun F' H' σ' env' n' r' u q' => k.nx H0 F' H' σ' env' n' r' u q', fun F' H' σ' env' n' v d r' u rv q' => k.rt H0 F' H' σ' env' n' v d r' u rv q', fun F' H' σ' env' n' r' u q' => k.bk H0 F' H' σ' env' n' r' u q', fun F' H' σ' env' n' r' u q' => k.ct H0 F' H' σ' env' n' r' u q'⟩⟩⟩
end
section
variable {c : Fc} {X : Cx} {a b e : Expr} {es : List Expr} {ta tb te : VTE} {tas : VTA} {pos : Pos} {F H : Hp} {σ : L2.St} {env : Ev} {n : Nat}
/-- row i stands beside -/
structure MatAt (c : Fc) (i : Nat) (l : List Int) (q : Addr) : Prop where
  ex : ∃ Hb m A r, c.H0 = mat Hb m A r ∧ MatOk c.am c.F0 Hb m A ∧ i < m ∧ r i = l ∧ A i = q
theorem MatAt.at {i : Nat} {l : List Int} {q : Addr} (h : MatAt c i l q) (r : Rel c F H σ env n) : H q = some (.lst (l.map V.int)) ∧ F q = none ∧ ¬ c.am.sp q := by
  obtain ⟨Hb, m, A, rr, e, mo, hi, rfl, rfl⟩ := h.ex
  have h1 : c.H0 (A i) = some (.lst ((rr i).map V.int)) := by rw [e]; exact mat_at mo.inj hi
  exact ⟨r.keep0 _ _ h1 (mo.ns i hi), r.out0 _ _ h1 (fun _ z => by cases z) (mo.f0 i hi), mo.ns i hi⟩
theorem matAt {Hb : Hp} {m i : Nat} {A : Nat → Addr} {r : Nat → List Int} {am : Am} {F0 : Hp} (mo : MatOk am F0 Hb m A) (hi : i < m) : MatAt ⟨am, F0, mat Hb m A r⟩ i (r i) (A i) := ⟨_, _, _, _, rfl, mo, hi, rfl, rfl⟩
/-- rows beside, to be read -/
theorem Gx.addM {G : Hp} {i : Nat} {l : List Int} {q : Addr} (r : Rel c F H σ env n) (g : Gx c F H G) (h : MatAt c i l q) : ∃ G', Gx c F H G' ∧ Up G G' ∧ Rp G' (.ref q) (.lst (l.map Dt.int)) := by
  obtain ⟨hH, hF, ns⟩ := h.at r
  have up : Up G (upd G q (.lst (l.map V.int))) := fun b u e => by
    by_cases z : b = q
    · subst z
      rw [g.u2 _ _ e] at hH
      cases hH
      exact upd_same
    · rw [upd_ne z]; exact e
  refine ⟨upd G q (.lst (l.map V.int)), ⟨g.u1.trans up, fun b u e => ?_, fun b hb => ?_, fun b ys e => ?_⟩, up, .lst upd_same (Rps.ints l)⟩
  · by_cases z : b = q
    · subst z; rw [upd_same] at e; cases e; exact hH
    · rw [upd_ne z] at e; exact g.u2 b u e
  · rw [upd_ne (fun (z : b = q) => ns (by rw [← z]; exact hb))]; exact g.sp b hb
  · by_cases z : b = q
    · subst z; rw [upd_same] at e; cases e
    · rw [upd_ne z] at e; exact g.tp b ys e
/-- an argument whose thing is a row beside, read when all stand -/
def vConsM (c : Fc) (te : VTE) (ta : VTA) : VTA := fun env n Q => te env n fun o env1 n1 => ta env1 n1 fun ds env2 n2 => ∃ i l q, MatAt c i l q ∧ o = .obj q ∧ Q (.lst (l.map Dt.int) :: ds) env2 n2
theorem vb_ob (ha : PE X e (tOf c te)) (hr : PA X es (bOf c tas)) (hs : starEach (e :: es) X.env = (false, eval e X.env) :: starEach es X.env := by rfl) : PA X (e :: es) (bOf c (vConsM c te tas)) := PA.imp (pa_cons ha hr hs) fun σ H R ⟨F, env, n, Q, rr, q, k⟩ => by
  refine ⟨F, env, n, _, rr, q, fun v H1 F1 d env1 n1 r1 u1 p1 q1 => ⟨F1, env1, n1, _, r1, q1, fun vs H2 F2 G ds env2 n2 r2 u2 g p2 q2 => ?_⟩⟩
  obtain ⟨i, l, ad, h, rfl, q2⟩ := q2
  cases p1
  obtain ⟨G', g', ug, rp⟩ := g.addM r2 h
  exact k _ H2 F2 G' _ env2 n2 r2 (u1.trans u2) g' (.cons rp (p2.up ug)) q2
end
section
variable {am : Am} {F0 : Hp} {X : Cx} {o e : Expr} {es : List Expr} {to : VTE} {tas : VTA} {apos cpos pos : Pos} {r : RM} {m : RMD} {name : Str} {id : String}
def xRM (to : VTE) (m : RMD) (ta : VTA) : XTS := fun V H0 env n => to env n fun o env1 n1 => (∃ i l q, MatAt ⟨am, F0, H0⟩ i l q ∧ o = .obj q) ∧ ta env1 n1 fun as env2 n2 => ∃ (Hb : Hp) (mm : Nat) (A : Nat → Addr) (r : Nat → List Int) (i : Nat), H0 = mat Hb mm A r ∧ MatOk am F0 Hb mm A ∧ o = .obj (A i) ∧ i < mm ∧ m ((r i).map Dt.int) as fun _ ds' => ∃ l', ds' = l'.map Dt.int ∧ V.nx (mat Hb mm A (fun j => if j = i then l' else r j)) env2 n2
theorem rm_of (L : LftM r m) {σ : L2.St} {H : Hp} {K : PySem.W.Frag} {V : XEn} {D : Ends} {H0 F : Hp} {env : Ev} {n : Nat} (rr : Rel ⟨am, F0, H0⟩ F H σ env n) (q : xRM (am := am) (F0 := F0) to m tas V H0 env n) (k : EnX am F0 F V D) :
    tBM K "list" r (fun σ H R => ∃ H0, tOf ⟨am, F0, H0⟩ to σ H R) (fun σ H R => ∃ H0, aOf ⟨am, F0, H0⟩ tas σ H R) σ H fun _ H' => D.nx σ H' := by
  refine ⟨H0, F, env, n, _, rr, q, fun o H1 F1 d env1 n1 r1 u1 p1 q1 => ?_⟩
  obtain ⟨⟨i0, l0, q0, h0, rfl⟩, q1⟩ := q1
  cases p1
  refine ⟨.inl ⟨rfl, _, .inl (.inl (h0.at r1).1)⟩, H0, F1, env1, n1, _, r1, q1, fun vs H2 F2 as env2 n2 r2 u2 p2 q2 => ?_⟩
  obtain ⟨Hb, mm, A, rw_, i, rfl, mo, eo, hi, q2⟩ := q2
  cases eo
  obtain ⟨hH, hF, ns⟩ := (matAt (r := rw_) mo hi).at r2
  refine L F2 H2 (A i) _ _ vs as _ _ r2.sub hF hH (Rps.ints _) p2 q2 fun v d xs' ds' rv rx q3 => ?_
  obtain ⟨l', rfl, q3⟩ := q3
  rw [rx.of_ints]
  exact k.nx _ F2 _ σ env2 n2 (Rel.row mo r2 hi l') (u1.trans u2) q3
theorem xs_rm (pa : PlainAttrs "list") (slot : Slot "list" name id) (hty : typeOf (.builtin id) = pure (.type "method_descriptor")) (hm : MtR X id r) (L : LftM r m) (ho : ∀ H0, PE X o (tOf ⟨am, F0, H0⟩ to)) (ha : ∀ H0, PA X (e :: es) (aOf ⟨am, F0, H0⟩ tas))
    (hsw : swapsWith (.Call (.Attribute o name apos) (e :: es) [] cpos) none pos.line X.env = pure false := by rfl)
    (hbase : attributeBase o name X.env (eval o X.env) = eval o X.env := by rfl)
    (hfew : ((backTo cpos (starEach (e :: es) X.env)).all (fun x => !x.1) && (backToKw cpos (keywordEach [] X.env)).all (fun x => x.1.isSome)
      && decide ((e :: es).length + ([] : List Keyword).length + (if ([] : List Keyword).isEmpty then 0 else 1) < 30)) = true := by rfl)
    (hline : (apos.endLine == cpos.line) = true := by rfl) (hs : starEach (e :: es) X.env = (false, eval e X.env) :: starEach es X.env := by rfl) (hplain : (backTo cpos (starEach es X.env)).any (·.1) = false := by rfl) :
    PS X (.Expr (.Call (.Attribute o name apos) (e :: es) [] cpos) pos) (sX am F0 (xRM (am := am) (F0 := F0) to m tas)) :=
  PS.imp (ps_expr (pe_bm (to := fun σ H R => ∃ H0, tOf ⟨am, F0, H0⟩ to σ H R) (t := fun σ H R => ∃ H0, aOf ⟨am, F0, H0⟩ tas σ H R) pa slot hty hm ⟨fun pins s σ H Q I ⟨H0, q⟩ => (ho H0).run pins s σ H Q I q⟩ ⟨fun pos pins s σ H Q I ⟨H0, q⟩ => (ha H0).run pos pins s σ H Q I q⟩ hbase hfew hline hs hplain) hsw) fun D σ H ⟨H0, F, env, n, V, rr, q, k⟩ => rm_of L rr q k
theorem xs_rm0 (pa : PlainAttrs "list") (slot : Slot "list" name id) (hty : typeOf (.builtin id) = pure (.type "method_descriptor")) (hm : MtR X id r) (L : LftM r m) (ho : ∀ H0, PE X o (tOf ⟨am, F0, H0⟩ to))
    (hsw : swapsWith (.Call (.Attribute o name apos) [] [] cpos) none pos.line X.env = pure false := by rfl)
    (hbase : attributeBase o name X.env (eval o X.env) = eval o X.env := by rfl) (hline : (apos.endLine == cpos.line) = true := by rfl) :
    PS X (.Expr (.Call (.Attribute o name apos) [] [] cpos) pos) (sX am F0 (xRM (am := am) (F0 := F0) to m vNil)) :=
  PS.imp (ps_expr (pe_bm0 (to := fun σ H R => ∃ H0, tOf ⟨am, F0, H0⟩ to σ H R) pa slot hty hm ⟨fun pins s σ H Q I ⟨H0, q⟩ => (ho H0).run pins s σ H Q I q⟩ hbase hline) hsw) fun D σ H ⟨H0, F, env, n, V, rr, q, k⟩ => by
  refine ⟨H0, F, env, n, _, rr, q, fun o H1 F1 d env1 n1 r1 u1 p1 q1 => ?_⟩
  obtain ⟨⟨i0, l0, q0, h0, rfl⟩, Hb, mm, A, rw_, i, rfl, mo, eo, hi, q2⟩ := q1
  cases p1
  refine ⟨.inl ⟨rfl, _, .inl (.inl (h0.at r1).1)⟩, ?_⟩
  cases eo
  obtain ⟨hH, hF, ns⟩ := (matAt (r := rw_) mo hi).at r1
  refine L F1 H1 (A i) _ _ [] [] _ _ r1.sub hF hH (Rps.ints _) .nil q2 fun v d xs' ds' rv rx q3 => ?_
  obtain ⟨l', rfl, q3⟩ := q3
  rw [rx.of_ints]
  exact k.nx _ F1 _ σ env1 n1 (Rel.row mo r1 hi l') u1 q3
end
end VL
namespace VL
open PySem PySem.Spec PyProof.Rows L2 HM
section
variable {am : Am} {F0 H0 H1 F H : Hp} {σ : L2.St} {env : Ev} {n : Nat} {X : Cx} {body : List Stmt} {t : XTS}
/-- of what stood when entered less may be said -/
theorem Rel.less (u : Up H0 H1) (r : Rel ⟨am, F0, H1⟩ F H σ env n) : Rel ⟨am, F0, H0⟩ F H σ env n := by
  refine ⟨r.sub, r.spf, r.amb, r.up0, fun a o h1 nt h2 => r.out0 a o (u a o h1) nt h2, fun a o e ns => r.keep0 a o (u a o e) ns, r.len, fun i s e => ?_, r.apart⟩
  have q := r.sl i s e
  cases s with
  | no => trivial
  | fz d => exact q
  | ow kk =>
    obtain ⟨a, o, g1, g2, g3, g4, g5, g6⟩ := q
    refine ⟨a, o, g1, g2, ?_, g4, g5, g6⟩
    cases e : H0 a with
    | none => exact e
    | some ob =>
      have z : H1 a = some ob := u a ob e
      have g3' : H1 a = none := g3
      rw [g3'] at z
      cases z
theorem MatOk.up {m : Nat} {A : Nat → Addr} {r : Nat → List Int} (mo : MatOk am F0 H0 m A) : Up H0 (mat H0 m A r) := fun a o e => by
  rw [mat_out fun i hi z => by rw [← z, mo.h0 i hi] at e; cases e]
  exact e
def xDrop (H0 : Hp) (t : XTS) : VTS := fun V env n => t { nx := fun H1 e n => Up H0 H1 ∧ V.nx e n, rt := fun H1 d n => Up H0 H1 ∧ V.rt d n, bk := fun H1 e n => Up H0 H1 ∧ V.bk e n, ct := fun H1 e n => Up H0 H1 ∧ V.ct e n } H0 env n
theorem xss_drop (h : PSs X body (sX am F0 t)) : PSs X body (sOf ⟨am, F0, H0⟩ (xDrop H0 t)) := PSs.imp h fun D σ H ⟨F, env, n, V, r, q, k⟩ => ⟨H0, F, env, n, _, r, q,
  ⟨fun H1 F' H' σ' env' n' r' w q' => k.nx F' H' σ' env' n' (r'.less q'.1) w q'.2, fun H1 F' H' σ' env' n' v d r' w rv q' => k.rt F' H' σ' env' n' v d (r'.less q'.1) w rv q'.2,
   fun H1 F' H' σ' env' n' r' w q' => k.bk F' H' σ' env' n' (r'.less q'.1) w q'.2, fun H1 F' H' σ' env' n' r' w q' => k.ct F' H' σ' env' n' (r'.less q'.1) w q'.2⟩⟩
end
end VL
namespace VL
open PySem PySem.Spec PyProof.Rows L2 HM
structure VEnN where
  nx : Ev → Nat → Prop
  rt : Con → Nat → Prop
abbrev VTNs := VEnN → Ev → Nat → Prop
structure EnN (c : Fc) (F : Hp) (V : VEnN) (D : Ends) : Prop where
  nx : ∀ F' H' σ' env' n', Rel c F' H' σ' env' n' → Up F F' → V.nx env' n' → D.nx σ' H'
  rt : ∀ F' H' σ' env' n' a o k, Rel c F' H' σ' env' n' → Up F F' → F' a = none → c.H0 a = none → ¬ c.am.sp a → H' a = some o → OwOk F' a o k → V.rt k n' → D.rt (.ref a) H'
section
variable {c : Fc} {X : Cx} {st : Stmt} {rest body : List Stmt} {pos : Pos} {t u : VTNs} {e : Expr} {tn : VTN}
theorem EnN.up {F F' : Hp} {V : VEnN} {D : Ends} (h : EnN c F V D) (w : Up F F') : EnN c F' V D :=
  ⟨fun F2 H' σ' env' n' r z => h.nx F2 H' σ' env' n' r (w.trans z), fun F2 H' σ' env' n' a o k r z => h.rt F2 H' σ' env' n' a o k r (w.trans z)⟩
end
def hid (env : Ev) : Ev := env.map fun s => match s with
  | .ow _ => .no
  | s => s
theorem hid_get {env : Ev} {i : Nat} {s : Sl} (h : (hid env)[i]? = some s) : (∃ k, s = .no ∧ env[i]? = some (.ow k)) ∨ (env[i]? = some s ∧ ∀ k, s ≠ .ow k) := by
  unfold hid at h
  rw [List.getElem?_map] at h
  obtain ⟨s0, h0, rfl⟩ := Option.map_eq_some_iff.mp h
  cases s0 with
  | no => exact .inr ⟨h0, no_ow⟩
  | fz d => exact .inr ⟨h0, fz_ow d⟩
  | ow k => exact .inl ⟨k, rfl, h0⟩
theorem hid_len (env : Ev) : (hid env).length = env.length := by unfold hid; rw [List.length_map]
section
variable {am : Am} {F0 H0 : Hp} {F H : Hp} {σ : L2.St} {env : Ev} {n i : Nat} {ds : List Dt}
/-- in: what stood is all that stands -/
theorem Rel.intoS (r : Rel ⟨am, F0, H0⟩ F H σ env n) (e : env[i]? = some (.ow (.lst ds))) : ∃ a xs, H a = some (.lst xs) ∧ F a = none ∧ σ[i]? = some (some (.ref a)) ∧ Up F (upd F a (.lst xs)) ∧ Rel ⟨am, upd F a (.lst xs), H⟩ (upd F a (.lst xs)) H σ ((hid env).set i (.fz (.lst ds))) n := by
  obtain ⟨a, o, g1, g2, g3, g4, g5, xs, rfl, rx⟩ := r.sl i _ e
  have hi : i < env.length := (List.getElem?_eq_some_iff.mp e).1
  have up : Up F (upd F a (.lst xs)) := up_lay g2
  refine ⟨a, xs, g5, g2, g1, up, fun b u z => ?_, fun b hb => ?_, r.ambU up, Up.refl _, fun _ _ _ _ z => z, fun _ _ z _ => z, by rw [List.length_set, hid_len]; exact r.len, fun j s z => ?_, fun j l b k1 k2 hjl z1 => ?_⟩
  · by_cases h : b = a
    · subst h; rw [upd_same] at z; cases z; exact g5
    · rw [upd_ne h] at z; exact r.sub b u z
  · rw [upd_ne (fun h : b = a => g4 (h ▸ hb))]; exact r.spf b hb
  · by_cases h : j = i
    · subst h
      rw [List.getElem?_set_self (by rw [hid_len]; exact hi)] at z
      cases z
      exact ⟨_, g1, .lst upd_same (rx.up up)⟩
    · rw [List.getElem?_set_ne (Ne.symm h)] at z
      rcases hid_get z with ⟨k, rfl, _⟩ | ⟨z2, hk⟩
      · trivial
      · have q := r.sl j s z2
        cases s with
        | no => trivial
        | fz d => exact let ⟨v, h1, h2⟩ := q; ⟨v, h1, h2.up up⟩
        | ow k => exact absurd rfl (hk k)
  · by_cases h : j = i
    · subst h
      rw [List.getElem?_set_self (by rw [hid_len]; exact hi)] at z1
      cases z1
    · rw [List.getElem?_set_ne (Ne.symm h)] at z1
      rcases hid_get z1 with ⟨k, z2, _⟩ | ⟨_, hk⟩
      · cases z2
      · exact absurd rfl (hk k1)
/-- of what is still the tuples alone, and what was still -/
def onlyT (F F2 : Hp) : Hp := fun b => match F2 b with
  | some (.tup xs) => some (.tup xs)
  | _ => F b
theorem onlyT_tup {F F2 : Hp} {a : Addr} {xs : List V} (h : F2 a = some (.tup xs)) : onlyT F F2 a = some (.tup xs) := by simp only [onlyT, h]
theorem onlyT_inv {F F2 : Hp} {a : Addr} {o : HO} (h : onlyT F F2 a = some o) : (∃ xs, o = .tup xs ∧ F2 a = some (.tup xs)) ∨ F a = some o := by
  simp only [onlyT] at h
  split at h
  · rename_i xs e2
    exact .inl ⟨xs, (Option.some.inj h).symm, e2⟩
  · exact .inr h
theorem onlyT_up {F F2 : Hp} (u : Up F F2) : Up F (onlyT F F2) := fun a o e => by
  have e2 := u _ _ e
  simp only [onlyT]
  split
  · rename_i xs e3
    rw [e3] at e2
    exact e2
  · exact e
/-- out: what stood still stands -/
theorem Rel.outS (hP : Plain am) (r : Rel ⟨am, F0, H0⟩ F H σ env n) {F1 F2 H2 : Hp} {env2 : Ev} {n2 : Nat} (u1 : Up F F1) (h1 : ∀ b xs, F1 b = some (.tup xs) → F b = some (.tup xs)) (how : ∀ (j : Nat) k b, env[j]? = some (.ow k) → σ[j]? = some (some (.ref b)) → F2 b = none ∨ ∃ xs, F2 b = some (.lst xs)) (u2 : Up F1 F2) (r2 : Rel ⟨am, F1, H⟩ F2 H2 σ env2 n2) : Rel ⟨am, F0, H0⟩ (onlyT F F2) H2 σ env n2 := by
  have up := onlyT_up (u1.trans u2)
  refine ⟨fun b o e => ?_, fun b hb => ?_, hP.pl r2.amb, r.up0.trans up, fun b o e1 nt e2 => ?_, fun b o e ns => r2.keep0 b o (r.keep0 b o e ns) ns, r.len, fun j s e => ?_, r.apart⟩
  · rcases onlyT_inv e with ⟨xs, rfl, e2⟩ | e2
    · exact r2.sub _ _ e2
    · exact r2.sub _ _ ((u1.trans u2) _ _ e2)
  · cases e : onlyT F F2 b with
    | none => rfl
    | some o =>
      rcases onlyT_inv e with ⟨xs, rfl, e2⟩ | e2
      · rw [r2.spf b hb] at e2; cases e2
      · rw [r.spf b hb] at e2; cases e2
  · have hF := r.out0 b o e1 nt e2
    cases e : onlyT F F2 b with
    | none => rfl
    | some ob =>
      rcases onlyT_inv e with ⟨xs, rfl, e3⟩ | e3
      · by_cases hs : am.sp b
        · rw [r2.spf b hs] at e3; cases e3
        · have hb := r2.keep0 b o (r.keep0 b o e1 hs) hs
          rw [r2.sub _ _ e3] at hb
          cases hb
          exact absurd rfl (nt xs)
      · rw [hF] at e3; cases e3
  · have q := r.sl j s e
    cases s with
    | no => trivial
    | fz d => exact let ⟨v, g1, g2⟩ := q; ⟨v, g1, g2.up up⟩
    | ow k =>
      obtain ⟨b, o, g1, g2, g3, g4, g5, g6⟩ := q
      refine ⟨b, o, g1, ?_, g3, g4, r2.keep0 b o g5 g4, g6.up up⟩
      cases e9 : onlyT F F2 b with
      | none => rfl
      | some ob =>
        rcases onlyT_inv e9 with ⟨xs, rfl, e3⟩ | e3
        · rcases how j k b e g1 with z | ⟨ys, z⟩
          · rw [z] at e3; cases e3
          · rw [z] at e3; cases e3
        · rw [g2] at e3; cases e3
variable {X : Cx} {e : Expr} {te : VTE} {tn : VTN}
end
end VL
namespace HM
open PySem PySem.Spec PyProof.Rows L2
end HM
namespace VL
open PySem PySem.Spec PyProof.Rows L2 HM
end VL
namespace VL
open PySem PySem.Spec PyProof.Rows L2 HM
end VL
namespace VL
open PySem PySem.Spec PyProof.Rows L2 HM
section
variable {n : Nat} {m : Nat → Nat → Nat} {gs L H : List Nat}
theorem rch_in (s : Sub n m L) (hg : ∀ g ∈ gs, g ∈ L) : ∀ {x : Nat}, Rch m gs x → x ∈ L
  | _, .zero => s.ze
  | _, .step a g => s.mul _ (rch_in s hg a) _ (hg _ g)
theorem IsPt.zero (m : Nat → Nat → Nat) : IsPt m [] [0] := ⟨by simp, fun x => ⟨fun h => by rw [List.mem_singleton.mp h]; exact .zero, fun h => by
  cases h with
  | zero => simp
  | step _ g => cases g⟩⟩
/-- few numbers on the way through a part -/
structure FewOn (m : Nat → Nat → Nat) (L : List Nat) (j : Nat) (gs H : List Nat) : Prop where
  few : gs.length ≤ j
  sub : ∀ g ∈ gs, g ∈ L
  pt : IsPt m gs H
  got : ∀ x ∈ L.take j, x ∈ H
theorem FewOn.start (m : Nat → Nat → Nat) (L : List Nat) : FewOn m L 0 [] [0] := ⟨Nat.zero_le _, fun g h => (by cases h), IsPt.zero m, fun x h => by rw [List.take_zero] at h; cases h⟩
theorem FewOn.same {j x : Nat} (F : FewOn m L j gs H) (hx : L[j]? = some x) (h : x ∈ H) : FewOn m L (j + 1) gs H := ⟨Nat.le_succ_of_le F.few, F.sub, F.pt, fun y hy => by
  rw [take_snoc' hx] at hy
  rcases List.mem_append.mp hy with hy | hy
  · exact F.got y hy
  · rw [List.mem_singleton.mp hy]; exact h⟩
theorem FewOn.all (s : Sub n m L) (F : FewOn m L L.length gs H) : IsPt m gs L := by
  have : H = L := rising_eq F.pt.up s.up fun x => ⟨fun hx => rch_in s F.sub ((F.pt.mem x).mp hx), fun hx => F.got x (by rw [List.take_length]; exact hx)⟩
  rw [← this]
  exact F.pt
end
end VL
namespace VL
open PySem PySem.Spec PyProof.Rows L2 HM
end VL
namespace VL
open PySem PySem.Spec PyProof.Rows L2 HM
def m1 : Nat → Nat → Nat := fun _ _ => 0
def m2 : Nat → Nat → Nat := fun a b => (a + b) % 2
theorem hse1 : Hse 1 m1 := ⟨by omega, fun _ _ _ _ => by show 0 < 1; omega, fun a ha => by show 0 = a; omega, fun a ha => by show 0 = a; omega, fun _ _ _ _ _ _ => rfl, fun a b c _ hb hc _ => by omega⟩
theorem hse2 : Hse 2 m2 := ⟨by omega, fun a b _ _ => by unfold m2; omega, fun a ha => by unfold m2; omega, fun a ha => by unfold m2; omega, fun a b c _ _ _ => by unfold m2; omega, fun a b c _ hb hc h => by unfold m2 at h; omega⟩
end VL
namespace HM
open PySem PySem.Spec PyProof.Rows L2
section
variable {X : Cx}
theorem pairsT_of {pins : List (Addr × Obj)} {σ : L2.St} {H : Hp} {s : Shared} (I : Inv X pins σ H s) : ∀ (L : List (Addr × List Key × Addr × V)), (∀ q ∈ L, SqT X.K H q.1 [V.ref q.2.2.1, q.2.2.2]) →
    ∃ us : List Value, us.length = L.length ∧ ∀ (j : Nat) q, L[j]? = some q → ∃ u, us[j]? = some u ∧ RelV q.2.2.2 u ∧ IsTup s.heap q.1 #[.ref q.2.2.1, u]
  | [], _ => ⟨[], rfl, fun j q e => by simp at e⟩
  | p :: L, h => by
    obtain ⟨us, hl, hu⟩ := pairsT_of I L fun q hq => h q (List.mem_cons_of_mem _ hq)
    obtain ⟨its, rv, ht, _⟩ := I.tuple (h p List.mem_cons_self)
    obtain ⟨u, y, ei, ru, ry⟩ := vals2 rv
    subst ei
    cases (show u = Value.ref p.2.2.1 from ru)
    refine ⟨y :: us, by rw [List.length_cons, List.length_cons, hl], fun j q e => ?_⟩
    cases j with
    | zero =>
      have e' : p = q := Option.some.inj e
      subst e'
      exact ⟨y, rfl, ry, ht⟩
    | succ j =>
      obtain ⟨u', e1, e2, e3⟩ := hu j q (by simpa using e)
      exact ⟨u', by simpa using e1, e2, e3⟩
theorem kt_all {H : Hp} : ∀ (L : List (List Key × Addr × V)) (us : List Value) {kvs : List (List Key × V)} {xs : List (List Key × Addr × Value)}, KT H kvs xs → us.length = L.length → (∀ (j : Nat) q, L[j]? = some q → H q.2.1 = some (.tup (q.1.map kV)) ∧ ∃ u, us[j]? = some u ∧ RelV q.2.2 u) →
    KT H (L.foldl (fun acc q => putK acc q.1 q.2.2) kvs) ((L.zip us).foldl (fun acc q => storedH acc q.1.1 q.1.2.1 q.2) xs)
  | [], [], _, _, r, _, _ => r
  | [], _ :: _, _, _, _, hl, _ => by cases hl
  | _ :: _, [], _, _, _, hl, _ => by cases hl
  | q :: L, u :: us, kvs, xs, r, hl, h => by
    obtain ⟨h1, u', e, h2⟩ := h 0 q rfl
    cases (show u = u' from Option.some.inj e)
    exact kt_all L us (r.put q.1 h1 h2) (Nat.succ.inj hl) fun j z hz => h (j + 1) z (by simpa using hz)
theorem put_all : ∀ (L : List (List Key × Addr × V)) (acc : List (List Key × V)), ((acc.map (·.1)) ++ L.map (·.1)).Nodup → L.foldl (fun acc q => putK acc q.1 q.2.2) acc = acc ++ L.map fun q => (q.1, q.2.2)
  | [], acc, _ => by simp
  | q :: L, acc, nd => by
    have hq : ¬ (acc.any fun kv => decide (kv.1 = q.1)) = true := fun z => by
      obtain ⟨x, hx, e⟩ := List.any_eq_true.mp z
      rw [List.nodup_append] at nd
      exact nd.2.2 q.1 (List.mem_map.mpr ⟨x, hx, of_decide_eq_true e⟩) q.1 (by simp) rfl
    show L.foldl _ (putK acc q.1 q.2.2) = _
    have e : putK acc q.1 q.2.2 = acc ++ [(q.1, q.2.2)] := by unfold putK; rw [if_neg hq]
    rw [e, put_all L _ (by rw [List.map_append, List.append_assoc]; exact nd), List.append_assoc]
    rfl
theorem call_dictPT (hcalm : X.calm = true) (hu : X.A.units + 8 < cLine) : CallR X (.type "dict") (fun xs H Q => ∃ (a : Addr) (L : List (Addr × List Key × Addr × V)), xs = [.ref a] ∧ SqL X.K H a (L.map fun q => V.ref q.1) ∧ (∀ q ∈ L, SqT X.K H q.1 [V.ref q.2.2.1, q.2.2.2]) ∧ (∀ q ∈ L, H q.2.2.1 = some (.tup (q.2.1.map kV))) ∧ (L.map fun q => q.2.1).Nodup ∧
    ∀ p, H p = none → Q (.ref p) (upd H p (.dT (L.map fun q => (q.2.1, q.2.2.2))))) := by
  intro pins s σ H xs us Q I r q
  obtain ⟨a, L, ex, hq, hp, hk, nd, q⟩ := q
  subst ex
  obtain ⟨u, eu, rx⟩ := vals1 r
  subst eu
  cases rx
  obtain ⟨its, rv, pl, hz⟩ := I.list hq
  have ei : its = (L.map fun q => q.1).map Value.ref := refs_at (by rw [List.map_map]; exact rv)
  subst ei
  obtain ⟨ws, hl, hw⟩ := pairsT_of I L hp
  obtain ⟨o, n, ho, hc, hd, hdat⟩ := pl
  have hws : ∀ (j : Nat) (h : j < L.length), ws[j]? = some (ws.getD j .none) := fun j h => by rw [List.getD_eq_getElem?_getD, List.getElem?_eq_getElem (by omega)]; rfl
  let ps : List (List Key × Addr × Value) := ((L.map (·.2)).zip ws).map fun q => (q.1.1, q.1.2.1, q.2)
  have hps : ∀ (j : Nat) q, L[j]? = some q → ∃ u, ws[j]? = some u ∧ ps[j]? = some (q.2.1, q.2.2.1, u) := fun j q e => by
    obtain ⟨u, e1, _, _⟩ := hw j q e
    refine ⟨u, e1, ?_⟩
    show (((L.map (·.2)).zip ws).map fun q => (q.1.1, q.1.2.1, q.2))[j]? = _
    have hz1 : (L.map (·.2))[j]? = some q.2 := by rw [List.getElem?_map, e]; rfl
    have hz2 : ((L.map (·.2)).zip ws)[j]? = some (q.2, u) := List.getElem?_zip_eq_some.mpr ⟨hz1, e1⟩
    rw [List.getElem?_map, hz2]
    rfl
  have hpl : ps.length = L.length := by
    show (((L.map (·.2)).zip ws).map _).length = _
    rw [List.length_map, List.length_zip, List.length_map, hl, Nat.min_self]
  have hz : L.length ≤ sizeLine := by
    have := hz
    simp only [List.length_map] at this
    exact this
  let prs : List (Value × Value) := ps.map fun x => (Value.ref x.2.1, x.2.2)
  let Ts : Nat → Addr := fun j => match L[j]? with
    | some q => q.1
    | none => 0
  have hprl : prs.length = L.length := by show (ps.map _).length = _; rw [List.length_map, hpl]
  have back : ∀ (j : Nat) (k v : Value), prs[j]? = some (k, v) → ∃ q : Addr × List Key × Addr × V, L[j]? = some q ∧ k = Value.ref q.2.2.1 ∧ ws[j]? = some v ∧ ps[j]? = some (q.2.1, q.2.2.1, v) := fun j k v e => by
    have hj : j < L.length := by rw [← hprl]; exact (List.getElem?_eq_some_iff.mp e).1
    obtain ⟨q, hq⟩ : ∃ q, L[j]? = some q := ⟨_, List.getElem?_eq_getElem hj⟩
    obtain ⟨u, e1, e2⟩ := hps j q hq
    have e : (ps.map fun x : List Key × Addr × Value => (Value.ref x.2.1, x.2.2))[j]? = some (k, v) := e
    rw [List.getElem?_map, e2] at e
    cases e
    exact ⟨q, hq, rfl, e1, e2⟩
  have P := PairArg.list (prog := X.prog) (w := X.w) a ((L.map fun q => q.1).map Value.ref).toArray Ts prs
  have hsz : (Heap.objs s.heap).size = s.heap.objs.size := rfl
  refine call_dict_pairsH (knd := tupleKind (mixKind X.prog X.w)) (ps := ps) P (I.ok.hd hcalm) (tupleKind_room_in1 (by simp only [Around.in1_units]; omega)) ⟨⟨o, n, ho, hc, hd, hdat⟩, ?_, ?_⟩ ⟨by rw [hpl, hprl], fun i key v e => ?_⟩ (fun h' hk' x hx => ?_) (by rw [hprl]; exact hz) fun h' tk hd' k => ?_
  · simp [hprl]
  · intro j k v e
    obtain ⟨q2, hq2, rfl, e1, e2⟩ := back j k v e
    obtain ⟨u, e3, _, ht⟩ := hw j q2 hq2
    rw [e1] at e3
    cases e3
    have eT : Ts j = q2.1 := by show (match L[j]? with | some q => q.1 | none => 0) = _; rw [hq2]
    rw [eT]
    exact ⟨by simp [hq2], .inl ht⟩
  · obtain ⟨q2, hq2, rfl, e1, e2⟩ := back i key v e
    exact ⟨_, _, e2, rfl⟩
  · obtain ⟨j, hj⟩ := List.getElem?_of_mem hx
    have hjl : j < L.length := by rw [← hpl]; exact (List.getElem?_eq_some_iff.mp hj).1
    obtain ⟨q2, hq2⟩ : ∃ q, L[j]? = some q := ⟨_, List.getElem?_eq_getElem hjl⟩
    obtain ⟨u, e1, e2⟩ := hps j q2 hq2
    rw [hj] at e2
    cases e2
    obtain ⟨_, its, r, ob, h1, h2, nn, h3⟩ := (show ObjOk X.prog X.w H s.heap q2.2.2.1 (.tup (q2.2.1.map kV)) from I.hok _ _ (hk q2 (List.mem_of_getElem? hq2)))
    exact ⟨ob, its.toArray, nn, hk' _ _ (Nat.ne_of_lt (Heap.lt_size h1)) (List.not_mem_nil) h1, h2, h3, by simpa using items_are r⟩
  · have hm : (s.heap.objs.size == sysModules) = false := beq_eq_false_iff_ne.mpr (Nat.ne_of_gt I.big)
    have KT1 := kt_all (H := H) (L.map (·.2)) ws (kvs := []) (xs := []) .nil (by rw [hl, List.length_map]) fun j q e => by
      rw [List.getElem?_map] at e
      obtain ⟨q2, hq2, rfl⟩ := Option.map_eq_some_iff.mp e
      obtain ⟨u, e1, e2, _⟩ := hw j q2 hq2
      exact ⟨hk q2 (List.mem_of_getElem? hq2), u, e1, e2⟩
    have ekv : (L.map (·.2)).foldl (fun acc q => putK acc q.1 q.2.2) [] = L.map fun q => (q.2.1, q.2.2.2) := by
      rw [put_all _ _ (by rw [List.map_map]; exact nd), List.nil_append, List.map_map]
      rfl
    have exs : ((L.map (·.2)).zip ws).foldl (fun acc q => storedH acc q.1.1 q.1.2.1 q.2) [] = storedAllH [] ps := by
      show _ = (((L.map (·.2)).zip ws).map fun q => (q.1.1, q.1.2.1, q.2)).foldl (fun acc p => storedH acc p.1 p.2.1 p.2.2) []
      rw [List.foldl_map]
    rw [ekv, exs] at KT1
    have hn := I.hok.fresh (Nat.le_refl s.heap.objs.size)
    obtain ⟨qo, es, ep, hqo, h2, h3, h4, _, h5⟩ := hd'
    refine ⟨.ref s.heap.objs.size, upd H s.heap.objs.size (.dT (L.map fun q => (q.2.1, q.2.2.2))), I.laid (t' := tk) (fun b u e => k b u List.not_mem_nil e) (Nat.le_refl _) (show ObjOk X.prog X.w _ _ _ (.dT _) from ⟨by rw [List.length_map]; exact hz, hm, _, KT1.keeps fun c ys ec => ?_, qo, es, ep, hqo, h2, h3, h4, h5⟩), rfl, q _ hn⟩
    rw [upd_ne (ne_of_none ec hn)]
    exact ec
end
end HM
namespace VL
open PySem PySem.Spec PyProof.Rows L2 HM
theorem pairs_rp {F : Hp} : ∀ {xs : List V} {kvs : List (List Key × Dt)}, Rps F xs (kvs.map fun q => Dt.tup [tupD q.1, q.2]) → ∃ L : List (Addr × List Key × Addr × V), xs = L.map (fun q => V.ref q.1) ∧ kvs.map (·.1) = L.map (fun q => q.2.1) ∧ (∀ q ∈ L, F q.1 = some (.tup [.ref q.2.2.1, q.2.2.2]) ∧ F q.2.2.1 = some (.tup (q.2.1.map kV))) ∧ PrK F (L.map fun q => (q.2.1, q.2.2.2)) kvs
  | [], [], _ => ⟨[], rfl, rfl, fun q hq => (by cases hq), .nil⟩
  | _ :: _, [], h => by cases h
  | [], _ :: _, h => by cases h
  | x :: xs, q :: kvs, h => by
    cases h with
    | cons h1 h2 =>
      obtain ⟨L, e1, e2, e3, e4⟩ := pairs_rp h2
      obtain ⟨a, ys, rfl, hF, ry⟩ := h1.tup_inv
      cases ry with
      | cons r1 r2 =>
        cases r2 with
        | cons r3 r4 =>
          cases r4
          obtain ⟨b, rfl, hb⟩ := r1.tupk
          exact ⟨(a, q.1, b, _) :: L, by rw [e1]; rfl, by rw [List.map_cons, e2]; rfl, fun p hp => by
            rcases List.mem_cons.mp hp with rfl | hp
            · exact ⟨hF, hb⟩
            · exact e3 p hp, .cons ⟨rfl, r3⟩ e4⟩
section
variable {c : Fc} {X : Cx} {e : Expr} {tb : VTE}
/-- dict(pairs), the keys unlike tuples -/
def vDictT (te : VTE) : VTN := fun env n Q => te env n fun d env1 n1 => ∃ kvs : List (List Key × Dt), d = .lst (kvs.map fun q => Dt.tup [tupD q.1, q.2]) ∧ (kvs.map (·.1)).Nodup ∧ Q (.dT kvs) env1 n1
theorem vn_dictT {p pos : Pos} (hu : X.A.units + 64 < cLine) (hc : X.calm = true) (hg : Gl X "dict") (hm : X.mg "dict" = none) (ha : PE X e (tOf c tb))
    (na : starEach [e] X.env = (false, eval e X.env) :: starEach [] X.env := by rfl) (hpl : (backTo pos (starEach [] X.env)).any (·.1) = false := by rfl) : PE X (.Call (.Name "dict" p) [e] [] pos) (nOf c (vDictT tb)) :=
  PE.imp (pe_callTy (call_dictPT hc (by omega)) hg hm (by decide +kernel) (va_cons ha va_nil na) (by decide) (by decide) na hpl) fun σ H R ⟨F, env, n, Q, rr, h, k⟩ => by
    refine ⟨F, env, n, fun ds env1 n1 => match ds with | [d] => (∃ kvs : List (List Key × Dt), d = .lst (kvs.map fun q => Dt.tup [tupD q.1, q.2]) ∧ (kvs.map (·.1)).Nodup ∧ Q (.dT kvs) env1 n1) | _ => False, rr, h, fun vs H1 F1 ds env1 n1 r1 u1 p1 q1 => ?_⟩
    match ds, q1 with
    | [d], ⟨kvs, e1, nd, q1⟩ =>
      subst e1
      obtain ⟨v, rfl, pv⟩ := p1.one
      obtain ⟨a, xs, rfl, hF, rx⟩ := pv.lst_inv
      obtain ⟨L, rfl, e2, e3, e4⟩ := pairs_rp rx
      refine ⟨a, L, rfl, .inl (.inl (r1.sub _ _ hF)), fun q hq => .inl (.inl (r1.sub _ _ (e3 q hq).1)), fun q hq => r1.sub _ _ (e3 q hq).2, by rw [← e2]; exact nd, fun p' np => ?_⟩
      exact nOf_new r1 u1 np (kk := .dT kvs) ⟨_, rfl, e4⟩ q1 k
end
end VL
namespace VL
open PySem PySem.Spec PyProof.Rows L2 HM
end VL
namespace HG
open PySem PySem.Spec PyProof.Rows L2 HM GenW
end HG
namespace HG
open PySem PySem.Spec PyProof.Rows L2 HM GenW
end HG
namespace VL
open PySem PySem.Spec PyProof.Rows L2 HM HG
end VL
namespace VL
open PySem PySem.Spec PyProof.Rows L2 HM
def pk3 (b : Addr) (t l : Int) : List (Key × V) := [(.inr "cells", .ref b), (.inr "at", .int t), (.inr "left", .int l)]
theorem k_ca : ¬ (Sum.inr ("cells" : Str) : Key) = Sum.inr ("at" : Str) := by decide +kernel
theorem k_cl : ¬ (Sum.inr ("cells" : Str) : Key) = Sum.inr ("left" : Str) := by decide +kernel
theorem k_atl : ¬ (Sum.inr ("at" : Str) : Key) = Sum.inr ("left" : Str) := by decide +kernel
theorem q_ca : ¬ (("cells" : Str) = "at") := by decide +kernel
theorem q_cl : ¬ (("cells" : Str) = "left") := by decide +kernel
theorem q_atl : ¬ (("at" : Str) = "left") := by decide +kernel
theorem q_lat : ¬ (("left" : Str) = "at") := by decide +kernel
theorem pk3_cells (b : Addr) (t l : Int) : valV (pk3 b t l) (.inr "cells") = some (.ref b) := rfl
theorem pk3_at (b : Addr) (t l : Int) : valV (pk3 b t l) (.inr "at") = some (.int t) := by
  unfold valV pk3
  rw [List.find?_cons_of_neg (by simpa using k_ca), List.find?_cons_of_pos (by simp)]
  rfl
theorem pk3_left (b : Addr) (t l : Int) : valV (pk3 b t l) (.inr "left") = some (.int l) := by
  unfold valV pk3
  rw [List.find?_cons_of_neg (by simpa using k_cl), List.find?_cons_of_neg (by simpa using k_atl), List.find?_cons_of_pos (by simp)]
  rfl
theorem pk3_put_at (b : Addr) (t l t' : Int) : putK (pk3 b t l) (.inr "at") (.int t') = pk3 b t' l := by
  unfold putK pk3
  simp [q_ca, q_lat]
theorem pk3_put_left (b : Addr) (t l l' : Int) : putK (pk3 b t l) (.inr "left") (.int l') = pk3 b t l' := by
  unfold putK pk3
  simp [q_cl, q_atl]
theorem pk3_merge (b : Addr) (t l : Int) : mergeK [] (pk3 b t l) = pk3 b t l := by
  unfold mergeK pk3
  simp [putK, q_ca, q_cl, q_atl]
structure PenB (K : PySem.W.Frag) (am : Am) (p : Addr) : Prop where
  pl : Plain am
  sp : am.sp p
  rd : ∀ {n F H}, am.ok n F H → ∃ (b : Addr) (ns : List Int) (t l : Int), H p = some (.dK (pk3 b t l)) ∧ H b = some (.lst (ns.map V.int)) ∧ ns.length ≤ 63 ∧ 0 ≤ t ∧ 0 ≤ l
  wr : ∀ {n F H b t l}, am.ok n F H → H p = some (.dK (pk3 b t l)) → ∀ (t' l' : Int), 0 ≤ t' → 0 ≤ l' → am.ok n F (upd H p (.dK (pk3 b t' l')))
theorem PenB.out {K : PySem.W.Frag} {am : Am} {p b : Addr} (h : PenB K am p) {F H : Hp} {n : Nat} {t l : Int} (u : Up F H) (hs : ∀ a, am.sp a → F a = none) (ha : am.ok n F H) (hp : H p = some (.dK (pk3 b t l))) {t' l' : Int} (h1 : 0 ≤ t') (h2 : 0 ≤ l') :
    Out am F H F (upd H p (.dK (pk3 b t' l'))) n :=
  ⟨Up.refl F, fun c o e => by rw [upd_ne (fun (z : c = p) => by rw [z, hs p h.sp] at e; cases e)]; exact u c o e, hs, fun _ _ _ _ e => e, fun c o e nb => by rw [upd_ne (fun (z : c = p) => nb (by rw [z]; exact h.sp))]; exact e, h.wr ha hp t' l' h1 h2⟩
theorem PenB.outG {K : PySem.W.Frag} {am : Am} {p b : Addr} (h : PenB K am p) {F H H' : Hp} {n : Nat} {t l : Int} (u : Up F H) (hs : ∀ a, am.sp a → F a = none) (ha : am.ok n F H) (hp : H p = some (.dK (pk3 b t l))) {t' l' : Int} (h1 : 0 ≤ t') (h2 : 0 ≤ l') (e1 : H' p = some (.dK (pk3 b t' l'))) (e2 : ∀ c o, c ≠ p → H c = some o → H' c = some o) : Out am F H F H' n := by
  have hFp : F p = none := hs p h.sp
  refine ⟨Up.refl F, fun c o e => ?_, hs, fun _ _ _ _ e => e, fun c o e nb => e2 c o (fun z => nb (by rw [z]; exact h.sp)) e, am.mono (h.wr ha hp t' l' h1 h2) (fun c hc => ?_) (fun c oc x e => ?_) (Up.refl F)⟩
  · exact e2 c o (fun z => by rw [z, hFp] at e; cases e) (u c o e)
  · by_cases z : c = p
    · rw [z, upd_same, e1]
    · rw [upd_ne z]
      cases e : H c with
      | none => exact absurd e (am.trk ha hc)
      | some o => rw [e2 c o z e]
  · by_cases z : c = p
    · rw [z, upd_same] at e; cases e
    · rw [upd_ne z] at e
      rw [upd_ne z, e]
      exact e2 c _ z e
def penAmB (p b : Addr) (ns : List Int) : Am where
  sp c := c = p ∨ c = b
  ok _ _ H := (∃ t l, H p = some (.dK (pk3 b t l)) ∧ 0 ≤ t ∧ 0 ≤ l) ∧ H b = some (.lst (ns.map V.int))
  trk := fun {n F H c} ⟨⟨t, l, h, _⟩, h2⟩ hb z => by
    rcases hb with rfl | rfl
    · rw [h] at z; cases z
    · rw [h2] at z; cases z
  ntp := fun {n F H c xs} ⟨⟨t, l, h, _⟩, h2⟩ hb z => by
    rcases hb with rfl | rfl
    · rw [h] at z; cases z
    · rw [h2] at z; cases z
  mono := fun {n F F' H H'} ⟨⟨t, l, h, h0⟩, h2⟩ e _ uF => ⟨⟨t, l, by rw [e p (.inl rfl)]; exact h, h0⟩, by rw [e b (.inr rfl)]; exact h2⟩
theorem plain_penB {p b : Addr} {ns : List Int} : Plain (penAmB p b ns) := ⟨fun h => h⟩
theorem penB_in {K : PySem.W.Frag} {p b : Addr} {ns : List Int} (hl : ns.length ≤ 63) : PenB K (penAmB p b ns) p where
  pl := plain_penB
  sp := .inl rfl
  rd := fun {n F H} ⟨⟨t, l, h, h1, h2⟩, h3⟩ => ⟨b, ns, t, l, h, h3, hl, h1, h2⟩
  wr := fun {n F H b' t l} ⟨⟨t1, l1, h, _⟩, h3⟩ hp t' l' h1 h2 => by
    rw [h] at hp
    have ea : b = b' := by
      have : pk3 b t1 l1 = pk3 b' t l := by injection (Option.some.inj hp)
      injection this with e1
      injection e1 with _ e2
      injection e2
    refine ⟨⟨t', l', by rw [upd_same, ea], h1, h2⟩, ?_⟩
    rw [upd_ne fun z => by rw [z, h] at h3; cases h3]
    exact h3
def spPenB (K : PySem.W.Frag) : Sp := fun vs H Q _ => ∃ (a : Addr) (ns : List Int), vs = [.ref a] ∧ Scr K H a ns ∧ ns.length ≤ 63 ∧ ∀ p b H', Up H H' → H p = none → H b = none → p ≠ b → H' p = some (.dK (pk3 b 0 0)) → H' b = some (.lst (ns.map V.int)) → Q (.ref p) H'
def spTakeB (p : Addr) : VSp := fun ds t Q _ => ∃ m : Nat, ds = [.obj p, nD m] ∧ 0 < m ∧ m ≤ 10000 ∧ ∀ r : Nat, r < m → Q (nD r) t
end VL
namespace K35
open PySem PySem.Spec PyProof.Rows L2 HM VL
def topS (i : Nat) : Stmt := PySem.Challenge.pw_heldmarks_k35_pieces_and_holders.main.body.getD i (.Pass ⟨0, 0, 0, 0⟩)
abbrev bn : List Str := ["isinstance", "int", "bool", "len", "abs", "list", "range", "tuple", "set", "all", "sorted", "zip", "sum", "min", "enumerate", "dict", "repr", "max"]
end K35
namespace K35
open PySem PySem.Spec PyProof.Rows L2 HM VL
abbrev s_l_pen : Stmt := topS 4
abbrev s_l_take : Stmt := topS 5
section
variable {P : Program} {w : World} {K : PySem.W.Frag} {mg : Str → Option Value} {base : Heap}
theorem emodb3 (x : Int) : -(2 ^ 64) < x % 2147483647 ∧ x % 2147483647 < 2 ^ 64 := ⟨by have := Int.emod_nonneg x (b := 2147483647) (by decide); omega, by have := Int.emod_lt_of_pos x (b := 2147483647) (by decide); omega⟩
theorem sc_l_pen : FnScope ["_law_script"] ["_law_script"] (defScope s_l_pen) := ⟨rfl, rfl, rfl, by decide +kernel, rfl, by decide +kernel, by decide +kernel⟩
theorem ok_penB {gd : Around → Prop} {f : Addr} {fd : FuncData} {k : Nat} (F : Fun K "_law_pen" "_law_pen" s_l_pen f fd) (mz : ∀ x ∈ bn, mg x = none) : PFn gd P w K mg base CX0 (k + 1) f fd ["_law_script"] (spPenB K) := by
  refine pfn_of F sc_l_pen (fun vs H Q E h => ?_) (fun cdv A outer s H vs Q E hcd hgd hr h => ?_)
  · obtain ⟨a, ns, rfl, _⟩ := h
    rfl
  · obtain ⟨a, ns, rfl, hS, hl, q⟩ := h
    have ml := mz "list" (by decide)
    refine ⟨_, pss_one (ps_ret (pe_disp (pps_cons pe_str (pe_callTy call_list_of (by rfl) ml (by decide +kernel) (pa_cons (pe_slice sl_list (pv 0) po_none (po_some pe_int)) pa_nil) (by decide) (by decide)) (pps_cons pe_str pe_int (pps_cons pe_str pe_int pps_nil))) rfl rfl (by simp) (by decide))), ?_⟩
    intro p np
    refine ⟨.ref a, rfl, 63, rfl, a, ns.map V.int, rfl, (hS.up fun b ob e z => by rw [upd_ne (ne_of_none z np)]; exact z).sq, fun s sn => ⟨s, _, rfl, .inl (.inl (.inl upd_same)), fun b bn => ?_⟩⟩
    have hsp : s ≠ p := fun z => by rw [z, upd_same] at sn; cases sn
    have hbs : b ≠ s := fun z => by rw [z, upd_same] at bn; cases bn
    have hbp : b ≠ p := fun z => by rw [z, upd_ne (Ne.symm hsp), upd_same] at bn; cases bn
    have nb : H b = none := by rw [upd_ne hbs, upd_ne hbp] at bn; exact bn
    have ns' : H s = none := by rw [upd_ne hsp] at sn; exact sn
    have ec : cutV (ns.map V.int) none (some 63) = ns.map V.int := by
      have : (ns.map V.int).length ≤ 63 := by rw [List.length_map]; exact hl
      generalize ns.map V.int = xs at this
      unfold cutV
      have e1 : HT.sIx xs.length xs.length (some 63) = xs.length := by
        rw [show (63 : Int) = ((63 : Nat) : Int) from rfl, HT.sIx_nat]
        omega
      rw [e1, HT.sIx_none, List.drop_zero, Nat.sub_zero, List.take_length]
    rw [ec]
    refine ⟨by rw [upd_ne (Ne.symm hbp), upd_ne (Ne.symm hsp), upd_same], pk3 b 0 0, rfl, (by show 3 ≤ 15; decide), ?_⟩
    rw [pk3_merge]
    refine q p b _ (fun c o e => ?_) np nb (Ne.symm hbp) upd_same (by rw [upd_ne hbp, upd_same])
    rw [upd_ne (ne_of_none e np), upd_ne (ne_of_none e nb), upd_ne (ne_of_none e ns'), upd_ne (ne_of_none e np)]
    exact e
theorem sc_l_take : FnScope ["_law_pen_here", "_law_many", "_law_digit", "_law_at", "_law_cell", "_law_number"] ["_law_pen_here", "_law_many"] (defScope s_l_take) := ⟨rfl, rfl, rfl, by decide +kernel, rfl, by decide +kernel, by decide +kernel⟩
theorem ok_takeB {gd : Around → Prop} {am : Am} {p f : Addr} {fd : FuncData} {k : Nat} (PI : PenB K am p) (F : Fun K "_law_take" "_law_take" s_l_take f fd) (mz : ∀ x ∈ bn, mg x = none) : VFn gd P w K mg base CX0 (k + 1) f fd ["_law_pen_here", "_law_many"] am (spTakeB p) := by
  refine pfn_of F sc_l_take (fun vs H Q E h => ?_) (fun cdv A outer s H vs Q E hcd hgd hr h => ?_)
  · obtain ⟨F0, ds, n, Q', E', _, _, _, r, ⟨m, rfl, _⟩, _⟩ := h
    rw [r.len]
    rfl
  · obtain ⟨F0, ds, n, Q', E', u, hs, ha, r, ⟨m, rfl, hm0, hm1, q⟩, kq, ke⟩ := h
    obtain ⟨b, ns, t, l, hp, hS, hlen, ht, hl⟩ := PI.rd ha
    cases r with | cons r1 r =>
    cases r with | cons r2 r =>
    cases r
    cases r1
    cases r2
    have hu := hu_of hr
    have ml := mz "len" (by decide)
    have ma := mz "abs" (by decide)
    refine ⟨_, pss_cons (ps_if (pt_cmpR op_gt (pe_dget hu (pv 0) pe_str (fun _ _ => rfl)) pe_int (nomark _))
        (pss_cons (ps_set (i := 2) sc_l_take.nd rfl (.inl rfl) (pe_op op_mod (pe_dget hu (pv 0) pe_str (fun _ _ => rfl)) (pv 1)))
        (pss_cons (ps_dput hu (pv 0) pe_str (pe_op op_fdiv (pe_dget hu (pv 0) pe_str (fun _ _ => rfl)) (pv 1)) rfl)
        (pss_one (ps_ret (pv 2))))) pss_nil)
      (pss_cons (ps_set (i := 3) sc_l_take.nd rfl (.inl rfl) (pe_dget hu (pv 0) pe_str (fun _ _ => rfl)))
      (pss_cons (ps_dput hu (pv 0) pe_str (pe_op op_add (pv 3) pe_int) rfl)
      (pss_cons (ps_set (i := 4) sc_l_take.nd rfl (.inl rfl) (pe_op op_add (pe_op op_mul pe_int (pv 3)) pe_int))
      (pss_cons (ps_if (pt_cmpR (op_neD hr.units) (pe_dget hu (pv 0) pe_str (fun _ _ => rfl)) (pe_lst pa_nil) (nomark _))
        (pss_one (ps_set (i := 4) sc_l_take.nd rfl (.inl rfl) (pe_ix ix_list (pe_dget hu (pv 0) pe_str (fun _ _ => rfl)) (pe_op op_mod (pv 3) (pe_callB call_len_seq (by rfl) ml PySem.boot_len (pa_cons (pe_dget hu (pv 0) pe_str (fun _ _ => rfl)) pa_nil))) (fun _ _ => rfl)))) pss_nil)
      (pss_cons (ps_if (pw_and (pt_cmpR op_lt (pv 3) (pe_callB call_len_seq (by rfl) ml PySem.boot_len (pa_cons (pe_dget hu (pv 0) pe_str (fun _ _ => rfl)) pa_nil)) (nomark _)) (pw_and1 (pt_cmpR op_ge (pe_callB call_abs (by rfl) ma (by decide +kernel) (pa_cons (pv 4) pa_nil)) (pe_op op_pow pe_int pe_int) (nomark _)))).pt
        (pss_cons (ps_dput hu (pv 0) pe_str (pe_op op_fdiv (pe_callB call_abs (by rfl) ma (by decide +kernel) (pa_cons (pv 4) pa_nil)) (pv 1)) rfl)
        (pss_one (ps_ret (pe_op op_mod (pe_callB call_abs (by rfl) ma (by decide +kernel) (pa_cons (pv 4) pa_nil)) (pv 1))))) pss_nil)
      (pss_cons (ps_set (i := 5) sc_l_take.nd rfl (.inl rfl) (pe_op op_mod (pe_op op_mul (pe_op op_add (pe_op op_add (pe_op op_mod (pv 4) pe_int) (pe_op op_mul pe_int (pv 3))) pe_int) pe_int) pe_int))
      (pss_cons (ps_set (i := 5) sc_l_take.nd rfl (.inl rfl) (pe_op op_mod (pe_op op_add (pe_op op_add (pe_op op_mul (pv 5) (pv 5)) (pe_op op_mul pe_int (pv 5))) (pv 3)) pe_int))
      (pss_one (ps_ret (pe_op op_mod (pe_op op_fdiv (pv 5) pe_int) (pv 1))))))))))), ?_⟩
    have gS : ∀ {H' : Hp} {t' l' : Int}, H' p = some (.dK (pk3 b t' l')) → DGet H' p (.str "cells") (some (.ref b)) := fun {H' t' l'} e => pk3_cells b t' l' ▸ DGet.k (k := Sum.inr "cells") e
    have gA : ∀ {H' : Hp} {t' l' : Int}, H' p = some (.dK (pk3 b t' l')) → DGet H' p (.str "at") (some (.int t')) := fun {H' t' l'} e => pk3_at b t' l' ▸ DGet.k (k := Sum.inr "at") e
    have gL : ∀ {H' : Hp} {t' l' : Int}, H' p = some (.dK (pk3 b t' l')) → DGet H' p (.str "left") (some (.int l')) := fun {H' t' l'} e => pk3_left b t' l' ▸ DGet.k (k := Sum.inr "left") e
    have pA : ∀ {H' : Hp} {t' l' v : Int}, H' p = some (.dK (pk3 b t' l')) → DPut H' p (.str "at") (.int v) (upd H' p (.dK (pk3 b v l'))) := fun {H' t' l' v} e => pk3_put_at b t' l' v ▸ DPut.k (k := Sum.inr "at") e (by show 3 < sizeLine; decide)
    have pL : ∀ {H' : Hp} {t' l' v : Int}, H' p = some (.dK (pk3 b t' l')) → DPut H' p (.str "left") (.int v) (upd H' p (.dK (pk3 b t' v))) := fun {H' t' l' v} e => pk3_put_left b t' l' v ▸ DPut.k (k := Sum.inr "left") e (by show 3 < sizeLine; decide)
    have hbp : b ≠ p := fun z => by rw [z, hp] at hS; cases hS
    have mi : (0 : Int) < (m : Int) := by omega
    have fin : ∀ (x t' l' : Int) (H' : Hp), H' p = some (.dK (pk3 b t' l')) → (∀ c o, c ≠ p → H c = some o → H' c = some o) → 0 ≤ t' → 0 ≤ l' → Q (.int (x % (m : Int))) H' := fun x t' l' H' e1 e2 h1 h2 => by
      have e0 := Int.emod_nonneg x (b := (m : Int)) (by omega)
      have e1' := Int.emod_lt_of_pos x mi
      obtain ⟨y, hy⟩ : ∃ y : Nat, x % (m : Int) = (y : Int) := ⟨(x % (m : Int)).toNat, by omega⟩
      rw [hy]
      rw [hy] at e1'
      exact kq _ F0 _ (nD y) n (PI.outG u hs ha hp h1 h2 e1 e2) (.int _) (q y (by omega))
    have hne : ∀ (c : Int), 0 ≤ (if c < 0 then -c else c) := fun c => by split <;> omega
    have k1 : ∀ {o : HO} (c : Addr) (oo : HO), c ≠ p → H c = some oo → upd H p o c = some oo := fun c oo hc e => by rw [upd_ne hc]; exact e
    refine ⟨.ref p, rfl, p, _, rfl, gL hp, _, _, rfl, rfl, _, rfl, ite2 (fun e => ?_) (fun e => ?_)⟩
    · refine ⟨.ref p, rfl, p, _, rfl, gL hp, .int m, rfl, _, _, rfl, rfl, mi, .ref p, rfl, p, _, rfl, gL hp, .int m, rfl, _, _, rfl, rfl, ⟨mi, by omega⟩, .ref p, rfl, p, _, rfl, pL hp, _, rfl, ?_⟩
      exact fin _ t _ _ upd_same k1 ht (Int.ediv_nonneg hl (by omega))
    refine ⟨.ref p, rfl, p, _, rfl, gA hp, .int t, rfl, t, 1, rfl, rfl, .ref p, rfl, p, _, rfl, pA hp, .int t, rfl, _, _, rfl, rfl, .inl ⟨by decide, by decide⟩, _, _, rfl, rfl, .ref p, rfl, p, _, rfl, gS upd_same, by show 0 ≤ sizeLine; decide, fun z nz => ?_⟩
    obtain ⟨H2, eH2⟩ : ∃ H2, H2 = upd (upd H p (.dK (pk3 b (t + 1) l))) z (.lst []) := ⟨_, rfl⟩
    have hzp : z ≠ p := fun e => by rw [e, upd_same] at nz; cases nz
    have nz0 : H z = none := by rw [upd_ne hzp] at nz; exact nz
    have hzb : b ≠ z := fun e => by rw [e, nz0] at hS; cases hS
    have e2p : H2 p = some (.dK (pk3 b (t + 1) l)) := by rw [eH2, upd_ne (Ne.symm hzp), upd_same]
    have e2b : H2 b = some (.lst (ns.map V.int)) := by rw [eH2, upd_ne hzb, upd_ne hbp]; exact hS
    have e2z : H2 z = some (.lst []) := by rw [eH2, upd_same]
    have k2 : ∀ (c : Addr) (o : HO), c ≠ p → H c = some o → H2 c = some o := fun c o hc e => by rw [eH2, upd_ne (ne_of_none e nz0), upd_ne hc]; exact e
    have sqb : SqL K H2 b (ns.map V.int) := .inl (.inl e2b)
    have hD : dNeD (.lst (ns.map Dt.int)) (.lst []) (fun d => ∃ bb, d = .bl bb ∧ (bb = true ↔ ns ≠ [])) := dNeD_pl (pls_map (fun _ => rfl) ns) rfl (Nat.le_trans (Nat.succ_le_succ (deps_map (f := Dt.int) (k := 0) (fun _ => Nat.le_refl 0) ns)) (by decide)) (by decide) fun bb hb => ⟨bb, rfl, hb.trans ⟨fun h e => h (by rw [e]; rfl), fun h e => h (List.map_eq_nil_iff.mp (Dt.lst.inj e))⟩⟩
    obtain ⟨i1, i2, s1, s2, bb, ebb, hbb⟩ := hD
    have ebb : (!PyData.eqv (py (.lst (ns.map Dt.int))) (py (.lst []))) = bb := by injection ebb
    rw [← eH2]
    refine ⟨_, _, Rp.dp (F := upd (fun _ => none) b (.lst (ns.map V.int))) (fun c o e => ?_) (.lst upd_same (Rps.ints ns)) i1, Rp.dp (F := upd (fun _ => none) z (.lst [])) (fun c o e => ?_) (.lst upd_same .nil) i2, s1, s2, _, rfl, ?_⟩
    · by_cases hc : c = b
      · subst hc; rw [upd_same] at e; cases e; exact e2b
      · rw [upd_ne hc] at e; cases e
    · by_cases hc : c = z
      · subst hc; rw [upd_same] at e; cases e; exact e2z
      · rw [upd_ne hc] at e; cases e
    rw [ebb]
    refine ite2 (fun e1 => ?_) (fun e1 => ?_)
    · have hpos : (0 : Int) < ((ns.map V.int).length : Int) := by
        have := List.length_pos_iff.mpr (hbb.mp e1)
        rw [List.length_map]
        omega
      have hb0 : 0 ≤ t % ((ns.map V.int).length : Int) := Int.emod_nonneg _ (by omega)
      have hb1 : t % ((ns.map V.int).length : Int) < ((ns.map V.int).length : Int) := Int.emod_lt_of_pos _ hpos
      have hj : (t % ((ns.map V.int).length : Int)).toNat < ns.length := by
        rw [List.length_map] at hb0 hb1 ⊢
        omega
      have hat : atI (ns.map V.int) (t % ((ns.map V.int).length : Int)) = some (.int (ns[(t % ((ns.map V.int).length : Int)).toNat]'hj)) := by
        refine at_of (j := (t % ((ns.map V.int).length : Int)).toNat) (by omega) ?_
        rw [List.getElem?_map, List.getElem?_eq_getElem hj]
        rfl
      refine ⟨.ref p, rfl, p, _, rfl, gS e2p, .int t, rfl, .ref p, rfl, p, _, rfl, gS e2p, b, _, rfl, .inl sqb, _, _, rfl, rfl, hpos, b, _, _, _, rfl, rfl, sqb, hat, ?_⟩
      generalize (ns[(t % ((ns.map V.int).length : Int)).toNat]'hj) = c
      refine ⟨.int t, rfl, .ref p, rfl, p, _, rfl, gS e2p, b, _, rfl, .inl sqb, _, _, rfl, rfl, _, rfl, ite2 (fun e3 => ?_) (fun e3 => ite2 (fun e => by cases e) fun _ => ?_)⟩
      · refine ⟨.int c, rfl, c, rfl, 10, 18, rfl, rfl, ⟨by decide, by decide, by decide⟩, _, _, rfl, rfl, _, rfl, ite2 (fun e4 => ?_) (fun e4 => ?_)⟩
        · refine ⟨.int c, rfl, c, rfl, .int (m : Int), rfl, _, _, rfl, rfl, ⟨mi, by omega⟩, .ref p, rfl, p, _, rfl, pL e2p, ?_⟩
          refine ⟨.int c, rfl, c, rfl, .int (m : Int), rfl, _, _, rfl, rfl, mi, ?_⟩
          exact fin _ (t + 1) _ _ upd_same (fun d o hd e => by rw [upd_ne hd]; exact k2 d o hd e) (by omega) (Int.ediv_nonneg (hne c) (by omega))
        · refine ⟨.int _, rfl, _, _, rfl, rfl, (by show (0 : Int) < _; decide), .int t, rfl, _, _, rfl, rfl, .inl ⟨by decide, by decide⟩, _, _, rfl, rfl, _, _, rfl, rfl, _, _, rfl, rfl, .inr ⟨by decide, by decide⟩, _, _, rfl, rfl, (by show (0 : Int) < _; decide), ?_⟩
          refine ⟨.int _, rfl, .int _, rfl, _, _, rfl, rfl, .inl (emodb3 _), .int _, rfl, _, _, rfl, rfl, .inl ⟨by decide, by decide⟩, _, _, rfl, rfl, .int t, rfl, _, _, rfl, rfl, _, _, rfl, rfl, (by show (0 : Int) < _; decide), ?_⟩
          refine ⟨.int _, rfl, _, _, rfl, rfl, ⟨by decide, by decide⟩, .int (m : Int), rfl, _, _, rfl, rfl, mi, ?_⟩
          exact fin _ (t + 1) l _ e2p k2 (by omega) hl
      · refine ⟨.int _, rfl, _, _, rfl, rfl, (by show (0 : Int) < _; decide), .int t, rfl, _, _, rfl, rfl, .inl ⟨by decide, by decide⟩, _, _, rfl, rfl, _, _, rfl, rfl, _, _, rfl, rfl, .inr ⟨by decide, by decide⟩, _, _, rfl, rfl, (by show (0 : Int) < _; decide), ?_⟩
        refine ⟨.int _, rfl, .int _, rfl, _, _, rfl, rfl, .inl (emodb3 _), .int _, rfl, _, _, rfl, rfl, .inl ⟨by decide, by decide⟩, _, _, rfl, rfl, .int t, rfl, _, _, rfl, rfl, _, _, rfl, rfl, (by show (0 : Int) < _; decide), ?_⟩
        refine ⟨.int _, rfl, _, _, rfl, rfl, ⟨by decide, by decide⟩, .int (m : Int), rfl, _, _, rfl, rfl, mi, ?_⟩
        exact fin _ (t + 1) l _ e2p k2 (by omega) hl
    · refine ⟨.int t, rfl, .ref p, rfl, p, _, rfl, gS e2p, b, _, rfl, .inl sqb, _, _, rfl, rfl, _, rfl, ite2 (fun e3 => ?_) (fun e3 => ite2 (fun e => by cases e) fun _ => ?_)⟩
      · refine ⟨.int (3 * t + 7), rfl, 3 * t + 7, rfl, 10, 18, rfl, rfl, ⟨by decide, by decide, by decide⟩, _, _, rfl, rfl, _, rfl, ite2 (fun e4 => ?_) (fun e4 => ?_)⟩
        · refine ⟨.int (3 * t + 7), rfl, 3 * t + 7, rfl, .int (m : Int), rfl, _, _, rfl, rfl, ⟨mi, by omega⟩, .ref p, rfl, p, _, rfl, pL e2p, ?_⟩
          refine ⟨.int (3 * t + 7), rfl, 3 * t + 7, rfl, .int (m : Int), rfl, _, _, rfl, rfl, mi, ?_⟩
          exact fin _ (t + 1) _ _ upd_same (fun d o hd e => by rw [upd_ne hd]; exact k2 d o hd e) (by omega) (Int.ediv_nonneg (hne (3 * t + 7)) (by omega))
        · refine ⟨.int _, rfl, _, _, rfl, rfl, (by show (0 : Int) < _; decide), .int t, rfl, _, _, rfl, rfl, .inl ⟨by decide, by decide⟩, _, _, rfl, rfl, _, _, rfl, rfl, _, _, rfl, rfl, .inr ⟨by decide, by decide⟩, _, _, rfl, rfl, (by show (0 : Int) < _; decide), ?_⟩
          refine ⟨.int _, rfl, .int _, rfl, _, _, rfl, rfl, .inl (emodb3 _), .int _, rfl, _, _, rfl, rfl, .inl ⟨by decide, by decide⟩, _, _, rfl, rfl, .int t, rfl, _, _, rfl, rfl, _, _, rfl, rfl, (by show (0 : Int) < _; decide), ?_⟩
          refine ⟨.int _, rfl, _, _, rfl, rfl, ⟨by decide, by decide⟩, .int (m : Int), rfl, _, _, rfl, rfl, mi, ?_⟩
          exact fin _ (t + 1) l _ e2p k2 (by omega) hl
      · refine ⟨.int _, rfl, _, _, rfl, rfl, (by show (0 : Int) < _; decide), .int t, rfl, _, _, rfl, rfl, .inl ⟨by decide, by decide⟩, _, _, rfl, rfl, _, _, rfl, rfl, _, _, rfl, rfl, .inr ⟨by decide, by decide⟩, _, _, rfl, rfl, (by show (0 : Int) < _; decide), ?_⟩
        refine ⟨.int _, rfl, .int _, rfl, _, _, rfl, rfl, .inl (emodb3 _), .int _, rfl, _, _, rfl, rfl, .inl ⟨by decide, by decide⟩, _, _, rfl, rfl, .int t, rfl, _, _, rfl, rfl, _, _, rfl, rfl, (by show (0 : Int) < _; decide), ?_⟩
        refine ⟨.int _, rfl, _, _, rfl, rfl, ⟨by decide, by decide⟩, .int (m : Int), rfl, _, _, rfl, rfl, mi, ?_⟩
        exact fin _ (t + 1) l _ e2p k2 (by omega) hl
end
end K35
namespace VL
open PySem PySem.Spec PyProof.Rows L2 HM
/-- all turns that come of some, or none where they are too many -/
def spClosedB : VSp := fun ds t Q _ => ∃ (m : Nat) (ts : List (List Nat)) (most : Nat), ds = [nD m, .lst (tnsD ts), nD most] ∧ 1 ≤ m ∧ m ≤ 7 ∧ ts.length ≤ 4 ∧ most ≤ 60 ∧ (∀ g ∈ ts, Tn m g) ∧ (∀ gl, IsGr m gl → Q (.lst (tnsD gl)) t) ∧ ((∀ l : List (List Nat), l.Nodup → (∀ x ∈ l, GR m ts x) → l.length ≤ most) ∨ Q .non t)
def rInsV : V → List V → Hp → VK → Prop := fun x vs H Q => ∃ (l : Addr) (xs : List V) (i : Int) (y : V), x = .ref l ∧ vs = [.int i, y] ∧ H l = some (.lst xs) ∧ xs.length < sizeLine ∧ 0 ≤ i ∧ i < 2 ^ 63 ∧
    Q .non (upd H l (.lst (xs.take i.toNat ++ [y] ++ xs.drop i.toNat)))
theorem mt_insV {X : Cx} : MtR X "list.insert" rInsV := mt_insert
def mInsert : RMD := fun ds as Q => ∃ (j : Nat) (y : Dt), as = [.int (j : Int), y] ∧ ds.length ≤ 4000 ∧ j ≤ 5000 ∧ Q .non (ds.take j ++ [y] ++ ds.drop j)
theorem rps_take {F : Hp} : ∀ {xs : List V} {ds : List Dt} (j : Nat), Rps F xs ds → Rps F (xs.take j) (ds.take j)
  | _, _, 0, _ => by rw [List.take_zero, List.take_zero]; exact .nil
  | _, _, _ + 1, .nil => .nil
  | _, _, j + 1, .cons h t => .cons h (rps_take j t)
theorem rps_drop {F : Hp} : ∀ {xs : List V} {ds : List Dt} (j : Nat), Rps F xs ds → Rps F (xs.drop j) (ds.drop j)
  | _, _, 0, h => h
  | _, _, _ + 1, .nil => .nil
  | _, _, j + 1, .cons _ t => rps_drop j t
theorem lft_insert : LftM rInsV mInsert := fun F H a xs ds vs as Q R u hF hH rx ra ⟨j, y, e, hl, hj, q⟩ k => by
  subst e
  obtain ⟨v, w, rfl, p1, p2⟩ := ra.two
  rw [p1.int_inv]
  refine ⟨a, xs, (j : Int), w, rfl, rfl, hH, small1000 (by rw [rx.len]; omega), by omega, by omega, ?_⟩
  rw [Int.toNat_natCast]
  exact k _ _ _ _ .non (((rps_take j rx).append (.cons p2 .nil)).append (rps_drop j rx)) q
end VL
namespace K35
open PySem PySem.Spec PyProof.Rows L2 HM VL
abbrev s_l_closed : Stmt := topS 6
theorem sc_l_closed : FnScope ["_law_many", "_law_turns", "_law_most", "_law_found", "_law_left", "_law_here", "_law_turn_here", "_law_k", "_law_there"] ["_law_many", "_law_turns", "_law_most"] (defScope s_l_closed) := ⟨rfl, rfl, rfl, by decide +kernel, rfl, by decide +kernel, by decide +kernel⟩
section
variable {P : Program} {w : World} {K : PySem.W.Frag} {mg : Str → Option Value} {base : Heap} {am : Am} {gd : Around → Prop} {k : Nat}
theorem ok_closedB {f : Addr} {fd : FuncData} (F : Fun K "_law_closed" "_law_closed" s_l_closed f fd) (mz : ∀ x ∈ bn, mg x = none) : VFn gd P w K mg base CX0 (k + 2) f fd ["_law_many", "_law_turns", "_law_most"] am spClosedB := by
  refine vfn_of F sc_l_closed (fun ds n Q E h => ?_) ⟨_, fun cdv A out s H E F0 H0 hcd hgd hr =>
    (vss_cons (vs_setN (i := 3) sc_l_closed.nd rfl (.inl rfl) (vn_dispT (hu_of hr) (fun F0 H0 => (ve_tupRg rfl (by rfl) (mz "tuple" (by decide)) (vrg_1 (by rfl) (mz "range" (by decide)) (ve_var (pv 0))))) (fun F0 H0 => ve_bl)))
      (vss_cons (vs_setN (i := 4) sc_l_closed.nd rfl (.inl rfl) (vn_listDT rfl (by rfl) (mz "list" (by decide)) (pv 3)))
      (vss_cons (vs_while PassesOwn.never (vt_cmpN (op_neD hr.units) lft_neD (pv 4) (vr_of (ve_new (vn_lst va_nil))) (nomark _))
        (vss_cons (vs_set (i := 5) sc_l_closed.nd rfl (.inl rfl) (ve_m0 (pe_bm0 PySem.F.plainAttrs_list PySem.F.slot_list_pop PySem.F.type_list_pop mt_pop (pv 4)) lft_pop))
        (vss_cons (vs_for PassesOwn.never rfl (vi_list (ve_var (pv 1))) (vg_name (pg_name (i := 6) sc_l_closed.nd rfl (.inr rfl)))
          (vss_cons (vs_set (i := 8) sc_l_closed.nd rfl (.inl rfl) (ve_tyTR call_tuple_of lft_tupleOf (by rfl) (mz "tuple" (by decide)) (by decide +kernel) (vb_cons (ve_new (vn_lc (own := [("_law_k", 7)]) rfl sc_l_closed.nd (vi_tup (ve_var (pv 5))) (blkOk_by (own := [("_law_k", 7)]) (N := ["_law_many", "_law_turns", "_law_most", "_law_found", "_law_left", "_law_here", "_law_turn_here", "_law_k", "_law_there"]) (sc := defScope s_l_closed) (by decide +kernel)) (tg_name (by simp)) (fun _ _ _ _ _ => (pg_name (i := 7) sc_l_closed.nd rfl (.inl rfl))) (fun _ _ _ _ _ _ _ => vts_nil) (fun _ _ _ _ _ _ _ => (ve_ix ix_tup lft_ixT (ve_var (pv 6)) (ve_var (pv 7)) (fun _ _ => rfl))))) vb_nil)))
          (vss_one (vs_if (vt_dnotin (hu_of hr) (ve_var (pv 8)) (pv 3))
            (vss_cons (vs_dput (hu_of hr) (pv 3) (ve_var (pv 8)) ve_bl rfl)
            (vss_one (vs_expr (ve_m (pe_bm PySem.F.plainAttrs_list PySem.F.slot_list_append PySem.F.type_list_append mt_append (pv 4) (va_cons (ve_var (pv 8)) va_nil)) lft_append))))
            vss_nil))))
        (vss_one (vs_if (vt_cmp op_gt lft_B0 (ve_dlenT (by rfl) (mz "len" (by decide)) (pv 3)) (ve_var (pv 2)) (nomark _))
          (vss_one (vs_ret ve_non))
          vss_nil)))))
      (vss_one (vs_ret (ve_new (vn_dsortT rfl (by rfl) (mz "sorted" (by decide)) (pv 3)))))))), fun ds t Q E h => ?_⟩
  · obtain ⟨n, ts, mo, rfl, _⟩ := h
    rfl
  · obtain ⟨m, ts, most, rfl, h1, h7, h4, hm60, hT, q, qn⟩ := h
    obtain ⟨td, etd⟩ : ∃ td, td = Dt.lst (tnsD ts) := ⟨_, rfl⟩
    rw [← etd]
    have hgr : ∀ {x : List Nat}, GR m ts x → Tn m x := fun h => h.tn hT
    refine vseq_setN ⟨_, rfl, _, rfl, ⟨by omega, by omega, by omega, by omega⟩, ?_⟩
    rw [show ((m : Int) - 0).toNat = m by omega, rg_stay]
    refine ⟨kN (stay m), tup_key _, ?_⟩
    refine ⟨_, rfl, ?_⟩
    have e0 : ([(kN (stay m), Dt.bl true)].map fun q : List Key × Dt => tupD q.1) = tnsD [stay m] := by
      show [tupD (kN (stay m))] = [Dt.tup (nsD (stay m))]
      rw [← tup_key]
    rw [e0]
    let I : List (List Nat) → List (List Nat) → Sl → Ev → Prop := fun fs ws s5 env => ∃ kvs s6 s8, env = [.fz (nD m), .fz td, .fz (nD most), .ow (.dT kvs), .ow (.lst (tnsD ws)), s5, s6, .no, s8] ∧ kvs.map (·.1) = fs.map kN
    refine ⟨fun mm env t' => ∃ fs ws, mm = 2 * (61 - fs.length) + ws.length ∧ t' = t ∧ (∃ s5, I fs ws s5 env) ∧ GWt m ts fs ws ∧ fs.length ≤ 60, ⟨_, [stay m], [stay m], rfl, rfl, ⟨.no, _, .no, .no, rfl, rfl⟩, ⟨by simp, fun x hx => by rw [List.mem_singleton.mp hx]; exact .stay, by simp, fun x hx => hx, by simp, fun x hx hn => absurd hx hn⟩, (by decide : 1 ≤ 60)⟩, fun mm env t' hW => ?_⟩
    obtain ⟨fs, ws, rfl, rfl, ⟨s5, kvs, s6, s8, rfl, hk⟩, hW, hf60⟩ := hW
    refine ⟨⟨_, .inr ⟨_, rfl, rfl⟩⟩, by decide, _, rfl, _, .inr ⟨_, rfl, rfl⟩, dNeD_pl (pl_tns ws) rfl (dep_tns ws) (by decide) fun b hb => ⟨rfl, b, rfl, iteB (fun e => ?_) (fun e => ?_)⟩⟩
    · have hne : ws ≠ [] := fun z => (hb.mp e) (tnsD_nil.mpr z)
      obtain ⟨ws', x0, rfl⟩ : ∃ l x, ws = l ++ [x] := ⟨_, _, (List.dropLast_concat_getLast hne).symm⟩
      have hx0 : x0 ∈ fs := hW.sb x0 (by simp)
      have hx0n : Tn m x0 := hgr (hW.rc x0 hx0)
      have hwn := hW.wn
      rw [List.nodup_append] at hwn
      have hx0w : x0 ∉ ws' := fun z => hwn.2.2 x0 z x0 (by simp) rfl
      refine vseq_set ⟨⟨_, rfl⟩, _, rfl, .tup (nsD x0), rfl, tnsD_last, ?_⟩
      rw [tnsD_dropLast]
      refine vcut (fun env t3 => t3 = t' ∧ ∃ ext, ext.length ≤ 4 ∧ I (fs ++ ext) (ws' ++ ext) (.fz (.tup (nsD x0))) env ∧ (fs ++ ext).Nodup ∧ (∀ x ∈ fs ++ ext, GR m ts x) ∧ ∀ g ∈ ts, thn x0 g ∈ fs ++ ext) (fun N hN => ?_) (fun env t3 hP => ?_)
      · refine ⟨_, rfl, tnsD ts, etd, fun j env t3 => t3 = t' ∧ ∃ ext, ext.length ≤ j ∧ I (fs ++ ext) (ws' ++ ext) (.fz (.tup (nsD x0))) env ∧ (fs ++ ext).Nodup ∧ (∀ x ∈ fs ++ ext, GR m ts x) ∧ ∀ g ∈ ts.take j, thn x0 g ∈ fs ++ ext, ⟨rfl, [], Nat.le_refl 0, ⟨kvs, s6, s8, by rw [List.append_nil]; rfl, by rw [List.append_nil]; exact hk⟩, by rw [List.append_nil]; exact hW.nd, by rw [List.append_nil]; exact hW.rc, fun g hg => by rw [List.take_zero] at hg; cases hg⟩, fun j x env t3 hx hP => ?_, fun env t3 hP => ?_⟩
        · obtain ⟨rfl, ext, hel, ⟨kvs, s6, s8, rfl, hk⟩, hnd, hrc, hcl⟩ := hP
          unfold tnsD at hx
          rw [List.getElem?_map] at hx
          obtain ⟨g, hg1, rfl⟩ := Option.map_eq_some_iff.mp hx
          have hgm := List.mem_of_getElem? hg1
          have hj : j < ts.length := (List.getElem?_eq_some_iff.mp hg1).1
          have hgT := hT g hgm
          have hkl : kvs.length = (fs ++ ext).length := by
            have := congrArg List.length hk
            rw [List.length_map, List.length_map] at this
            exact this
          have hfl : (fs ++ ext).length ≤ 64 := by rw [List.length_append]; omega
          have htk : ∀ g2 ∈ ts.take (j + 1), g2 ∈ ts.take j ∨ g2 = g := fun g2 h => by
            rw [take_snoc' hg1] at h
            rcases List.mem_append.mp h with h | h
            · exact .inl h
            · exact .inr (List.mem_singleton.mp h)
          have hmem : (valD kvs (kN (thn x0 g))).isSome = decide (thn x0 g ∈ fs ++ ext) := by
            rw [valD_some, hk]
            exact decide_eq_decide.mpr kN_mem
          refine vseq_set ⟨_, rfl, _, rfl, ?_⟩
          refine lc_map (i := 7) (fun j => nD (tA g (tA x0 j))) (.head _) (noOw1 rfl no_ow) (by rw [nsD_len, hx0n.len]; omega) (fun i y hy R q => ?_) ?_
          · unfold nsD at hy
            rw [List.getElem?_map] at hy
            obtain ⟨y0, hy1, rfl⟩ := Option.map_eq_some_iff.mp hy
            have hil := (List.getElem?_eq_some_iff.mp hy1).1
            have e3 : y0 = tA x0 i := Option.some.inj (hy1.symm.trans (tA_get hil))
            rw [← e3] at q
            exact ⟨_, rfl, _, rfl, _, _, _, rfl, rfl, nsD_tA (by rw [hgT.len]; exact hx0n.lt (List.mem_of_getElem? hy1)), q⟩
          rw [thn_lc]
          refine ⟨_, rfl, _, rfl, flats_ns _, ?_⟩
          refine ⟨_, rfl, _, .inr ⟨kvs, kN (thn x0 g), rfl, tup_key _, rfl⟩, _, rfl, iteB (fun e2 => ?_) (fun e2 => ?_)⟩
          · have hnin : thn x0 g ∉ fs ++ ext := by
              have e3 : (!(valD kvs (kN (thn x0 g))).isSome) = true := e2
              rw [hmem, Bool.not_eq_true', decide_eq_false_iff_not] at e3
              exact e3
            have hnk : kN (thn x0 g) ∉ kvs.map (·.1) := by rw [hk, kN_mem]; exact hnin
            refine ⟨.inr ⟨_, rfl⟩, _, rfl, .inr ⟨kvs, kN (thn x0 g), rfl, tup_key _, by omega, ⟨_, rfl⟩, _, rfl, _, rfl, _, rfl, ?_, rfl, ext ++ [thn x0 g], by rw [List.length_append, List.length_singleton]; omega, ⟨putD kvs (kN (thn x0 g)) (.bl true), .fz (.tup (nsD g)), .fz (.tup (nsD (thn x0 g))), ?_, ?_⟩, ?_, fun x hx => ?_, fun g2 hg2 => ?_⟩⟩
            · rw [tnsD_len, List.length_append]
              have h1 := List.Nodup.length_le_of_subset hwn.1 fun x hx => hW.sb x (List.mem_append_left _ hx)
              omega
            · rw [tnsD_app, ← List.append_assoc]
              rfl
            · rw [putD_new hnk, List.map_append, hk, ← List.append_assoc, List.map_append (l₁ := fs ++ ext)]
              rfl
            · rw [← List.append_assoc, List.nodup_append]
              exact ⟨hnd, by simp, fun a ha b hb z => hnin (by rw [List.mem_singleton.mp hb] at z; rw [← z]; exact ha)⟩
            · rw [← List.append_assoc] at hx
              rcases List.mem_append.mp hx with hx | hx
              · exact hrc x hx
              · rw [List.mem_singleton.mp hx]
                exact .step (hW.rc x0 hx0) hgm
            · rw [← List.append_assoc]
              rcases htk g2 hg2 with h | rfl
              · exact List.mem_append_left _ (hcl g2 h)
              · exact List.mem_append_right _ (List.mem_singleton.mpr rfl)
          · have hin : thn x0 g ∈ fs ++ ext := by
              have e3 : (!(valD kvs (kN (thn x0 g))).isSome) = false := e2
              rw [hmem, Bool.not_eq_false', decide_eq_true_iff] at e3
              exact e3
            refine ⟨rfl, ext, by omega, ⟨kvs, _, _, rfl, hk⟩, hnd, hrc, fun g2 hg2 => ?_⟩
            rcases htk g2 hg2 with h | rfl
            · exact hcl g2 h
            · exact hin
        · obtain ⟨rfl, ext, hel, hI, hnd, hrc, hcl⟩ := hP
          rw [tnsD_len] at hel
          rw [tnsD_len, List.take_of_length_le (Nat.le_refl _)] at hcl
          exact hN _ _ ⟨rfl, ext, by omega, hI, hnd, hrc, hcl⟩
      · obtain ⟨rfl, ext, hel, ⟨kvs, s6, s8, rfl, hk⟩, hnd, hrc, hcl⟩ := hP
        have hkl : kvs.length = (fs ++ ext).length := by
          have := congrArg List.length hk
          rw [List.length_map, List.length_map] at this
          exact this
        refine ⟨_, rfl, _, rfl, _, _, rfl, rfl, _, rfl, iteB (fun e2 => ?_) (fun e2 => ?_)⟩
        · have hbig : most < (fs ++ ext).length := by
            have : (most : Int) < (kvs.length : Int) := of_decide_eq_true e2
            omega
          rcases qn with z | z
          · have := z _ hnd hrc
            omega
          · exact z
        · have hsm : (fs ++ ext).length ≤ 60 := by
            have : ¬ (most : Int) < (kvs.length : Int) := of_decide_eq_false e2
            omega
          have hl := hsm
          rw [List.length_append] at hl
          rw [List.nodup_append] at hnd
          refine ⟨_, by rw [List.length_append, List.length_append, List.length_append, List.length_singleton]; omega, fs ++ ext, ws' ++ ext, rfl, rfl, ⟨_, kvs, s6, s8, rfl, hk⟩, ⟨List.nodup_append.mpr hnd, hrc, List.mem_append_left _ hW.ze, fun x hx => ?_, ?_, fun x hx hnx g hg => ?_⟩, hsm⟩
          · rcases List.mem_append.mp hx with hx | hx
            · exact List.mem_append_left _ (hW.sb x (List.mem_append_left _ hx))
            · exact List.mem_append_right _ hx
          · rw [List.nodup_append]
            exact ⟨hwn.1, hnd.2.1, fun a ha b hb => hnd.2.2 a (hW.sb a (List.mem_append_left _ ha)) b hb⟩
          · rw [List.mem_append, not_or] at hnx
            rcases List.mem_append.mp hx with hx | hx
            · by_cases z : x = x0
              · rw [z]
                exact hcl g hg
              · exact List.mem_append_left _ (hW.cl x hx (by rw [List.mem_append, List.mem_singleton, not_or]; exact ⟨hnx.1, z⟩) g hg)
            · exact absurd hx hnx.2
    · have hnil : ws = [] := Classical.byContradiction fun z => by
        have := hb.mpr fun h => z (tnsD_nil.mp h)
        rw [this] at e
        cases e
      subst hnil
      refine ⟨kvs, fs.map iN, m, (m : Int), rfl, ?_, by rw [List.length_map]; omega, h1, fun k hk => ?_, fun ls hp hs => ⟨_, rfl, ?_⟩⟩
      · rw [hk, List.map_map]
        exact List.map_congr_left fun l _ => (kN_ikey l).symm
      · obtain ⟨l, hl, rfl⟩ := List.mem_map.mp hk
        have := hgr (hW.rc l hl)
        exact ⟨by unfold iN; rw [List.length_map, this.len], bd_tn this⟩
      · obtain ⟨gl, hg, rfl⟩ := permInv hp
        rw [tns_int]
        have hm : ∀ x, x ∈ gl ↔ GR m ts x := fun x => by rw [hg.mem_iff, hW.all]
        exact q gl ⟨by rw [hg.length_eq]; exact hf60, hg.nodup_iff.mpr hW.nd, fun a ha => hgr ((hm a).mp ha), fun a ha b hb => (hm _).mpr (GR.mul hT ((hm a).mp ha) ((hm b).mp hb)), stay_first (fun a ha => hgr ((hm a).mp ha)) ((hm _).mpr .stay) hs⟩
end
end K35
namespace K35
open PySem PySem.Spec PyProof.Rows L2 HM VL
abbrev s_l_turn : Stmt := topS 7
theorem sc_l_turn : FnScope ["_law_pen_here", "_law_many", "_law_found", "_law_k"] ["_law_pen_here", "_law_many"] (defScope s_l_turn) := ⟨rfl, rfl, rfl, by decide +kernel, rfl, by decide +kernel, by decide +kernel⟩
section
variable {P : Program} {w : World} {K : PySem.W.Frag} {mg : Str → Option Value} {base : Heap} {am : Am} {gd : Around → Prop} {k : Nat}
theorem ok_turnB {p : Addr} {f f_l_take : Addr} {fd fd_l_take : FuncData} (F : Fun K "_law_turn" "_law_turn" s_l_turn f fd) (G_l_take : VFn anyA P w K mg base CX0 (k + 1) f_l_take fd_l_take ["_law_pen_here", "_law_many"] am (spTakeB p)) (g_l_take : mg "_law_take" = some (.ref f_l_take)) (k_l_take : PySem.W.keepIn K (.ref f_l_take) = true) (b_l_take : Binds K fd_l_take ["_law_pen_here", "_law_many"] [])
    (mz : ∀ x ∈ bn, mg x = none) : VFn gd P w K mg base CX0 (k + 2) f fd ["_law_pen_here", "_law_many"] am (spTurn p) := by
  refine vfn_of F sc_l_turn (fun ds n Q E h => ?_) ⟨_, fun cdv A out s H E F0 H0 hcd hgd hr =>
    (vss_cons (vs_setN (i := 2) sc_l_turn.nd rfl (.inl rfl) (vn_lst va_nil))
      (vss_cons (vs_for PassesOwn.never rfl (vi_range1 (by rfl) (mz "range" (by decide)) (vb_cons (ve_var (pv 1)) vb_nil)) (vg_name (pg_name (i := 3) sc_l_turn.nd rfl (.inl rfl)))
        (vss_one (vs_expr (ve_m (pe_bm PySem.F.plainAttrs_list PySem.F.slot_list_insert PySem.F.type_list_insert mt_insV (pv 2) (va_cons (ve_call G_l_take trivial (hr.mono (by omega)) (by rfl) g_l_take k_l_take b_l_take pass0 (va_cons (ve_var (pv 0)) (va_cons (ve_op op_add lft_I0 (ve_var (pv 3)) ve_int) va_nil))) (va_cons (ve_var (pv 3)) va_nil))) lft_insert))))
      (vss_one (vs_ret (ve_tyTR call_tuple_of lft_tupleOf (by rfl) (mz "tuple" (by decide)) (by decide +kernel) (vb_rd (pv 2) vb_nil)))))), fun ds t Q E h => ?_⟩
  · obtain ⟨n, rfl, _⟩ := h
    rfl
  · obtain ⟨m, rfl, hm, q⟩ := h
    refine ⟨Nat.zero_le _, _, rfl, _, rfl, ⟨by omega, by omega⟩, fun j env t' => t' = t ∧ ∃ fs s3, env = [.fz (.obj p), .fz (nD m), .ow (.lst (nsD fs)), s3] ∧ fs.Perm (List.range j), ⟨rfl, [], .no, rfl, List.Perm.refl _⟩, fun j x env t' hx hP => ?_, fun env t' hP => ?_⟩
    · obtain ⟨rfl, fs, s3, rfl, hpm⟩ := hP
      obtain ⟨rfl, hj⟩ := rngD_get0 hx
      have hj : j < m := hj
      have hfl := hpm.length_eq
      rw [List.length_range] at hfl
      refine ⟨⟨_, rfl⟩, _, rfl, _, rfl, _, _, rfl, rfl, j + 1, ?_, by omega, by omega, fun r hr => ?_⟩
      · rfl
      refine ⟨_, rfl, _, rfl, r, nD j, rfl, by rw [nsD_len]; omega, by omega, rfl, fs.take r ++ [j] ++ fs.drop r, .fz (nD j), ?_, ?_⟩
      · unfold nsD
        rw [List.map_append, List.map_append, List.map_take, List.map_drop]
        rfl
      · rw [List.range_succ]
        have h1 : (fs.take r ++ [j] ++ fs.drop r).Perm ((fs.take r ++ fs.drop r) ++ [j]) := by
          rw [List.append_assoc, List.append_assoc]
          exact List.Perm.append_left _ List.perm_append_comm
        rw [List.take_append_drop] at h1
        exact h1.trans (hpm.append_right _)
    · obtain ⟨rfl, fs, s3, rfl, hpm⟩ := hP
      rw [rngD_len, show (m : Int).toNat = m by omega] at hpm
      exact ⟨⟨_, .inr ⟨_, rfl, rfl⟩⟩, _, .inr ⟨_, rfl, rfl⟩, _, rfl, flats_ns fs, q fs hpm⟩
end
end K35
namespace K35
open PySem PySem.Spec PyProof.Rows L2 HM VL
abbrev s_l_house_by : Stmt := topS 10
theorem sc_l_house_by : FnScope ["_law_group", "_law_k", "_law_turn_here", "_law_number", "_law_found", "_law_one", "_law_other"] ["_law_group"] (defScope s_l_house_by) := ⟨rfl, rfl, rfl, by decide +kernel, rfl, by decide +kernel, by decide +kernel⟩
section
variable {P : Program} {w : World} {K : PySem.W.Frag} {mg : Str → Option Value} {base : Heap} {am : Am} {gd : Around → Prop} {k : Nat}
theorem ok_houseby {f : Addr} {fd : FuncData} (F : Fun K "_law_house_by" "_law_house_by" s_l_house_by f fd) (mz : ∀ x ∈ bn, mg x = none) : VFn gd P w K mg base CX0 (k + 1) f fd ["_law_group"] am spTable := by
  refine vfn_of F sc_l_house_by (fun ds n Q E h => ?_) ⟨_, fun cdv A out s H E F0 H0 hcd hgd hr =>
    (vss_cons (vs_setN (i := 3) sc_l_house_by.nd rfl (.inr rfl) (vn_dictT hr.units rfl (by rfl) (mz "dict" (by decide)) (ve_new (vn_lc (own := [("_law_k", 1), ("_law_turn_here", 2)]) rfl sc_l_house_by.nd (vi_enum (by rfl) (mz "enumerate" (by decide)) (va_cons (ve_var (pv 0)) va_nil)) (blkOk_by (own := [("_law_k", 1), ("_law_turn_here", 2)]) (N := ["_law_group", "_law_k", "_law_turn_here", "_law_number", "_law_found", "_law_one", "_law_other"]) (sc := defScope s_l_house_by) (by decide +kernel)) (tg_two (by simp) (by simp)) (fun _ _ _ _ _ => pg_tup rfl (pgs_cons (pg_name (i := 1) sc_l_house_by.nd rfl (.inl rfl)) (pgs_cons (pg_name (i := 2) sc_l_house_by.nd rfl (.inl rfl)) pgs_nil))) (fun _ _ _ _ _ _ _ => vts_nil) (fun _ _ _ _ _ _ _ => (ve_tup (va_cons (ve_var (pv 2)) (va_cons (ve_var (pv 1)) va_nil))))))))
      (vss_cons (vs_setN (i := 4) sc_l_house_by.nd rfl (.inl rfl) (vn_lst va_nil))
      (vss_cons (vs_for PassesOwn.never rfl (vi_list (ve_var (pv 0))) (vg_name (pg_name (i := 5) sc_l_house_by.nd rfl (.inr rfl)))
        (vss_one (vs_expr (ve_m (pe_bm PySem.F.plainAttrs_list PySem.F.slot_list_append PySem.F.type_list_append mt_append (pv 4) (va_cons (ve_new (vn_lc (own := [("_law_other", 6)]) rfl sc_l_house_by.nd (vi_list (ve_var (pv 0))) (blkOk_by (own := [("_law_other", 6)]) (N := ["_law_group", "_law_k", "_law_turn_here", "_law_number", "_law_found", "_law_one", "_law_other"]) (sc := defScope s_l_house_by) (by decide +kernel)) (tg_name (by simp)) (fun _ _ _ _ _ => (pg_name (i := 6) sc_l_house_by.nd rfl (.inr rfl))) (fun _ _ _ _ _ _ _ => vts_nil) (fun _ _ _ _ _ _ _ => (ve_dget (hu_of hr) (pv 3) (ve_tyTR call_tuple_of lft_tupleOf (by rfl) (mz "tuple" (by decide)) (by decide +kernel) (vb_cons (ve_new (vn_lc (own := [("_law_k", 1)]) rfl sc_l_house_by.nd (vi_tup (ve_var (pv 5))) (blkOk_by (own := [("_law_k", 1)]) (by rfl)) (tg_name (by simp)) (fun _ _ _ _ _ => (pg_name (i := 1) sc_l_house_by.nd rfl (.inl rfl))) (fun _ _ _ _ _ _ _ => vts_nil) (fun _ _ _ _ _ _ _ => (ve_ix ix_tup lft_ixT (ve_var (pv 6)) (ve_var (pv 1)) (fun _ _ => rfl))))) vb_nil)) (fun _ _ => rfl))))) va_nil)) lft_append))))
      (vss_one (vs_ret (ve_mv (pv 4))))))), fun ds t Q E h => ?_⟩
  · obtain ⟨n, ts, rfl, _⟩ := h
    rfl
  · obtain ⟨m, gl, rfl, h7, hG, q⟩ := h
    obtain ⟨td, etd⟩ : ∃ td, td = Dt.lst (tnsD gl) := ⟨_, rfl⟩
    rw [← etd]
    have hn := hG.few
    have hkn : ((numK gl gl.length).map (·.1)).Nodup := by
      unfold numK
      rw [List.map_map]
      refine List.pairwise_map.mpr (List.Pairwise.imp_of_mem (fun {x y} hx hy hxy e => ?_) (List.pairwise_lt_range (n := gl.length)))
      have hx := List.mem_range.mp hx
      have hy := List.mem_range.mp hy
      have e : glA gl x = glA gl y := kN_inj e
      have : x = y := by
        have h1 := glA_get hx
        have h2 := glA_get hy
        rw [e, ← h2] at h1
        obtain ⟨a1, a2⟩ := List.getElem?_eq_some_iff.mp (h1.trans h2)
        obtain ⟨b1, b2⟩ := List.getElem?_eq_some_iff.mp h2
        exact (List.getElem_inj (i := x) (j := y) (h₀ := a1) (h₁ := b1) hG.nd).mp (by rw [a2, b2])
      omega
    refine ⟨_, rfl, tnsD gl, by rw [etd], lc_map2 (i := 1) (i2 := 2) (fun j => Dt.tup [tupD (kN (glA gl j)), nD j]) (.head _) (.tail _ (.head _)) (noOw2 (s := .no) (s2 := .no) rfl rfl no_ow no_ow) (by rw [enD_len, tnsD_len]; omega) (fun j z hz => ?_) ?_⟩
    · obtain ⟨x, hx, rfl⟩ := enD_get hz
      obtain ⟨rfl, hj⟩ := tns_get hx
      refine ⟨_, _, rfl, fun R hR => ⟨_, rfl, _, rfl, (by decide : 2 ≤ 5000), ?_⟩⟩
      rw [← tup_key] at hR
      exact hR
    have eL : (List.range (enD (tnsD gl)).length).map (fun j => Dt.tup [tupD (kN (glA gl j)), nD j]) = (numK gl gl.length).map fun q => Dt.tup [tupD q.1, q.2] := by
      rw [enD_len, tnsD_len]
      unfold numK
      rw [List.map_map]
      rfl
    refine ⟨_, rfl, numK gl gl.length, by rw [eL], hkn, ?_⟩
    refine ⟨Nat.zero_le _, ?_⟩
    refine ⟨_, rfl, _, etd, fun j env t2 => t2 = t ∧ ∃ s4, env = [.fz td, .no, .no, .ow (.dT (numK gl gl.length)), .ow (.lst ((List.range j).map fun a => rowD gl.length (tblM gl a))), s4, .no], ⟨rfl, .no, rfl⟩, fun j x env t2 hx hP => ?_, fun env t2 hP => ?_⟩
    · obtain ⟨rfl, s4, rfl⟩ := hP
      obtain ⟨rfl, hj⟩ := tns_get hx
      have hjT := hG.tn _ (glA_mem hj)
      refine ⟨⟨_, rfl⟩, _, rfl, _, etd, ?_⟩
      refine lc_map (i := 6) (fun k => nD (tblM gl j k)) (.head _) (noOw1 rfl no_ow) (by rw [tnsD_len]; omega) (fun k x hx R q => ?_) ?_
      · obtain ⟨rfl, hk⟩ := tns_get hx
        have hkT := hG.tn _ (glA_mem hk)
        refine ⟨.inr ⟨_, rfl⟩, _, rfl, _, rfl, ?_⟩
        refine lc_map (i := 1) (fun i => nD (tA (glA gl k) (tA (glA gl j) i))) (.head _) (noOw1 rfl no_ow) (by rw [nsD_len, hjT.len]; omega) (fun i y hy R q => ?_) ?_
        · unfold nsD at hy
          rw [List.getElem?_map] at hy
          obtain ⟨y0, hy1, rfl⟩ := Option.map_eq_some_iff.mp hy
          have hil := (List.getElem?_eq_some_iff.mp hy1).1
          have e3 : y0 = tA (glA gl j) i := Option.some.inj (hy1.symm.trans (tA_get hil))
          rw [← e3] at q
          exact ⟨_, rfl, _, rfl, _, _, _, rfl, rfl, nsD_tA (by rw [hkT.len]; exact hjT.lt (List.mem_of_getElem? hy1)), q⟩
        rw [thn_lc]
        have hin := hG.mul _ (glA_mem hj) _ (glA_mem hk)
        refine ⟨_, rfl, _, rfl, flats_ns _, nD (tblM gl j k), .inr ⟨_, kN (thn (glA gl j) (glA gl k)), rfl, tup_key _, ?_⟩, q⟩
        have e4 := numK_val hG.nd (Nat.le_refl gl.length) (List.idxOf_lt_length_of_mem hin)
        rw [glA_idx hin] at e4
        exact e4.symm
      · rw [tnsD_len]
        refine ⟨_, rfl, _, rfl, _, rfl, by rw [List.length_map, List.length_range]; omega, rfl, .fz (.tup (nsD (glA gl j))), ?_⟩
        rw [List.range_succ (n := j), List.map_append]
        rw [show (List.range gl.length).map (fun k => nD (tblM gl j k)) = nsD ((List.range gl.length).map (tblM gl j)) by unfold nsD; rw [List.map_map]; rfl]
        rfl
    · obtain ⟨rfl, s4, rfl⟩ := hP
      rw [tnsD_len]
      exact ⟨_, rfl, q⟩
end
end K35
namespace VL
open PySem PySem.Spec PyProof.Rows L2 HM
def mB (k : Nat) (m1 m2 : Nat → Nat → Nat) : Nat → Nat → Nat := fun x y => m1 (x / k) (y / k) * k + m2 (x % k) (y % k)
section
variable {n k : Nat} {m1 m2 : Nat → Nat → Nat}
theorem mB_div {q r : Nat} (hr : r < k) : (q * k + r) / k = q ∧ (q * k + r) % k = r := by
  have hk : 0 < k := by omega
  rw [Nat.mul_comm q k]
  exact ⟨by rw [Nat.mul_add_div hk, Nat.div_eq_of_lt hr, Nat.add_zero], by rw [Nat.mul_add_mod, Nat.mod_eq_of_lt hr]⟩
theorem pair_lt2 {q r : Nat} (hq : q < n) (hr : r < k) : q * k + r < n * k := by
  have : (q + 1) * k ≤ n * k := Nat.mul_le_mul_right k hq
  rw [Nat.succ_mul] at this
  omega
theorem div_lt2 {x : Nat} (h : x < n * k) : x / k < n ∧ x % k < k := by
  have hk : 0 < k := Nat.pos_of_ne_zero fun z => by rw [z, Nat.mul_zero] at h; omega
  exact ⟨(Nat.div_lt_iff_lt_mul hk).mpr h, Nat.mod_lt _ hk⟩
theorem hse_both (h1 : Hse n m1) (h2 : Hse k m2) : Hse (n * k) (mB k m1 m2) := by
  have hk := h2.pos
  have split : ∀ x : Nat, x / k * k + x % k = x := fun x => by rw [Nat.mul_comm]; exact Nat.div_add_mod x k
  refine ⟨Nat.mul_pos h1.pos h2.pos, fun a b ha hb => ?_, fun a ha => ?_, fun a ha => ?_, fun a b c ha hb hc => ?_, fun a b c ha hb hc e => ?_⟩
  · obtain ⟨a1, a2⟩ := div_lt2 ha
    obtain ⟨b1, b2⟩ := div_lt2 hb
    exact pair_lt2 (h1.lt _ _ a1 b1) (h2.lt _ _ a2 b2)
  · obtain ⟨a1, a2⟩ := div_lt2 ha
    unfold mB
    rw [Nat.zero_div, Nat.zero_mod, h1.zl _ a1, h2.zl _ a2, split]
  · obtain ⟨a1, a2⟩ := div_lt2 ha
    unfold mB
    rw [Nat.zero_div, Nat.zero_mod, h1.zr _ a1, h2.zr _ a2, split]
  · obtain ⟨a1, a2⟩ := div_lt2 ha
    obtain ⟨b1, b2⟩ := div_lt2 hb
    obtain ⟨c1, c2⟩ := div_lt2 hc
    unfold mB
    rw [(mB_div (h2.lt _ _ a2 b2)).1, (mB_div (h2.lt _ _ a2 b2)).2, (mB_div (h2.lt _ _ b2 c2)).1, (mB_div (h2.lt _ _ b2 c2)).2, h1.as _ _ _ a1 b1 c1, h2.as _ _ _ a2 b2 c2]
  · obtain ⟨a1, a2⟩ := div_lt2 ha
    obtain ⟨b1, b2⟩ := div_lt2 hb
    obtain ⟨c1, c2⟩ := div_lt2 hc
    have e1 := congrArg (· / k) e
    have e2 := congrArg (· % k) e
    simp only [mB] at e1 e2
    rw [(mB_div (h2.lt _ _ a2 b2)).1, (mB_div (h2.lt _ _ a2 c2)).1] at e1
    rw [(mB_div (h2.lt _ _ a2 b2)).2, (mB_div (h2.lt _ _ a2 c2)).2] at e2
    rw [← split b, ← split c, h1.cn _ _ _ a1 b1 c1 e1, h2.cn _ _ _ a2 b2 c2 e2]
theorem row_more (x1 x2 i : Nat) (hx2 : x2 < k) : (List.range ((i + 1) * k)).map (mB k m1 m2 (x1 * k + x2)) = (List.range (i * k)).map (mB k m1 m2 (x1 * k + x2)) ++ (List.range k).map fun j => m1 x1 i * k + m2 x2 j := by
  rw [Nat.succ_mul, List.range_add, List.map_append, List.map_map]
  congr 1
  refine List.map_congr_left fun j hj => ?_
  have hj := List.mem_range.mp hj
  show mB k m1 m2 (x1 * k + x2) (i * k + j) = _
  unfold mB
  rw [(mB_div hx2).1, (mB_div hx2).2, (mB_div hj).1, (mB_div hj).2]
end
def spBoth : VSp := fun ds t Q _ => ∃ (n k : Nat) (m1 m2 : Nat → Nat → Nat), ds = [houD n m1, houD k m2] ∧ Hse n m1 ∧ Hse k m2 ∧ n * k ≤ 64 ∧ n ≤ 64 ∧ k ≤ 64 ∧ Q (houD (n * k) (mB k m1 m2)) t
end VL
namespace K35
open PySem PySem.Spec PyProof.Rows L2 HM VL
abbrev s_l_both : Stmt := topS 13
theorem sc_l_both : FnScope ["_law_one", "_law_other", "_law_found", "_law_row", "_law_more", "_law_both_here", "_law_a", "_law_b"] ["_law_one", "_law_other"] (defScope s_l_both) := ⟨rfl, rfl, rfl, by decide +kernel, rfl, by decide +kernel, by decide +kernel⟩
section
variable {P : Program} {w : World} {K : PySem.W.Frag} {mg : Str → Option Value} {base : Heap} {am : Am} {gd : Around → Prop} {k : Nat}
theorem ok_both {f : Addr} {fd : FuncData} (F : Fun K "_law_both" "_law_both" s_l_both f fd) (mz : ∀ x ∈ bn, mg x = none) : VFn gd P w K mg base CX0 (k + 1) f fd ["_law_one", "_law_other"] am spBoth := by
  refine vfn_of F sc_l_both (fun ds n Q E h => ?_) ⟨_, fun cdv A out s H E F0 H0 hcd hgd hr =>
    (vss_cons (vs_setN (i := 2) sc_l_both.nd rfl (.inl rfl) (vn_lst va_nil))
      (vss_cons (vs_for PassesOwn.never rfl (vi_list (ve_var (pv 0))) (vg_name (pg_name (i := 3) sc_l_both.nd rfl (.inl rfl)))
        (vss_one (vs_for PassesOwn.never rfl (vi_list (ve_var (pv 1))) (vg_name (pg_name (i := 4) sc_l_both.nd rfl (.inl rfl)))
          (vss_cons (vs_setN (i := 5) sc_l_both.nd rfl (.inl rfl) (vn_lst va_nil))
          (vss_cons (vs_for PassesOwn.never rfl (vi_list (ve_var (pv 3))) (vg_name (pg_name (i := 6) sc_l_both.nd rfl (.inr rfl)))
            (vss_one (vs_expr (ve_m (pe_bm PySem.F.plainAttrs_list PySem.F.slot_list_extend PySem.F.type_list_extend mt_extend (pv 5) (va_cons (ve_new (vn_lc (own := [("_law_b", 7)]) rfl sc_l_both.nd (vi_list (ve_var (pv 4))) (blkOk_by (own := [("_law_b", 7)]) (N := ["_law_one", "_law_other", "_law_found", "_law_row", "_law_more", "_law_both_here", "_law_a", "_law_b"]) (sc := defScope s_l_both) (by decide +kernel)) (tg_name (by simp)) (fun _ _ _ _ _ => (pg_name (i := 7) sc_l_both.nd rfl (.inl rfl))) (fun _ _ _ _ _ _ _ => vts_nil) (fun _ _ _ _ _ _ _ => (ve_op op_add lft_I0 (ve_op op_mul lft_I (ve_var (pv 6)) (ve_cbR call_len_seq lft_len (by rfl) (mz "len" (by decide)) PySem.boot_len (vb_rd (pv 1) vb_nil))) (ve_var (pv 7)))))) va_nil)) lft_extend))))
          (vss_one (vs_expr (ve_m (pe_bm PySem.F.plainAttrs_list PySem.F.slot_list_append PySem.F.type_list_append mt_append (pv 2) (va_cons (ve_mv (pv 5)) va_nil)) lft_append))))))))
      (vss_one (vs_ret (ve_mv (pv 2)))))), fun ds t Q E h => ?_⟩
  · obtain ⟨n, k, m1, m2, rfl, _⟩ := h
    rfl
  · obtain ⟨n, n2, m1, m2, rfl, hH1, hH2, hnk, hn, hk, q⟩ := h
    obtain ⟨h2, eh2⟩ : ∃ h2, h2 = (List.range n2).map fun a => rowD n2 (m2 a) := ⟨_, rfl⟩
    have eho : houD n2 m2 = .lst h2 := by rw [eh2]; rfl
    have hl2 : h2.length = n2 := by rw [eh2, List.length_map, List.length_range]
    rw [eho]
    refine ⟨Nat.zero_le _, ?_⟩
    refine ⟨_, rfl, _, rfl, fun x1 env t' => t' = t ∧ ∃ s3 s4 s5 s6, env = [.fz (houD n m1), .fz (.lst h2), .ow (.lst ((List.range (x1 * n2)).map fun a => rowD (n * n2) (mB n2 m1 m2 a))), s3, s4, s5, s6, .no], ⟨rfl, .no, .no, .no, .no, by rw [Nat.zero_mul]; rfl⟩, fun x1 x env t' hx hP => ?_, fun env t' hP => ?_⟩
    · obtain ⟨rfl, s3, s4, s5, s6, rfl⟩ := hP
      rw [List.getElem?_map] at hx
      obtain ⟨y1, hy1, rfl⟩ := Option.map_eq_some_iff.mp hx
      have hx1 : x1 < n := by have := (List.getElem?_eq_some_iff.mp hy1).1; rwa [List.length_range] at this
      rw [List.getElem?_range hx1] at hy1
      cases hy1
      refine ⟨_, rfl, _, rfl, fun x2 env t2 => t2 = t' ∧ ∃ s4 s5 s6, env = [.fz (houD n m1), .fz (.lst h2), .ow (.lst ((List.range (x1 * n2 + x2)).map fun a => rowD (n * n2) (mB n2 m1 m2 a))), .fz (rowD n (m1 x1)), s4, s5, s6, .no], ⟨rfl, _, _, _, rfl⟩, fun x2 x env t2 hx hP => ?_, fun env t2 hP => ?_⟩
      · obtain ⟨rfl, s4, s5, s6, rfl⟩ := hP
        rw [eh2, List.getElem?_map] at hx
        obtain ⟨y2, hy2, rfl⟩ := Option.map_eq_some_iff.mp hx
        have hx2 : x2 < n2 := by have := (List.getElem?_eq_some_iff.mp hy2).1; rwa [List.length_range] at this
        rw [List.getElem?_range hx2] at hy2
        cases hy2
        have hrow : x1 * n2 + x2 < n * n2 := pair_lt2 hx1 hx2
        refine ⟨Nat.zero_le _, ?_⟩
        refine ⟨_, rfl, _, rfl, fun i env t3 => t3 = t2 ∧ ∃ s6, env = [.fz (houD n m1), .fz (.lst h2), .ow (.lst ((List.range (x1 * n2 + x2)).map fun a => rowD (n * n2) (mB n2 m1 m2 a))), .fz (rowD n (m1 x1)), .fz (rowD n2 (m2 x2)), .ow (.lst (nsD ((List.range (i * n2)).map (mB n2 m1 m2 (x1 * n2 + x2))))), s6, .no], ⟨rfl, _, by rw [Nat.zero_mul]; rfl⟩, fun i x env t3 hx hP => ?_, fun env t3 hP => ?_⟩
        · obtain ⟨rfl, s6, rfl⟩ := hP
          unfold nsD at hx
          rw [List.getElem?_map, List.getElem?_map] at hx
          obtain ⟨y3, hy3, rfl⟩ := Option.map_eq_some_iff.mp hx
          obtain ⟨y4, hy4, rfl⟩ := Option.map_eq_some_iff.mp hy3
          have hi : i < n := by have := (List.getElem?_eq_some_iff.mp hy4).1; rwa [List.length_range] at this
          rw [List.getElem?_range hi] at hy4
          cases hy4
          have hin : i * n2 ≤ n * n2 := Nat.mul_le_mul_right _ (by omega)
          refine ⟨⟨_, rfl⟩, _, rfl, _, rfl, lc_map (i := 7) (fun j => nD (m1 x1 i * n2 + m2 x2 j)) (.head _) (noOw1 rfl no_ow) (by rw [nsD_len, List.length_map, List.length_range]; omega) (fun j x hx R hR => ?_) ?_⟩
          · unfold nsD at hx
            rw [List.getElem?_map, List.getElem?_map] at hx
            obtain ⟨z3, hz3, rfl⟩ := Option.map_eq_some_iff.mp hx
            obtain ⟨z4, hz4, rfl⟩ := Option.map_eq_some_iff.mp hz3
            have hj : j < n2 := by have := (List.getElem?_eq_some_iff.mp hz4).1; rwa [List.length_range] at this
            rw [List.getElem?_range hj] at hz4
            cases hz4
            refine ⟨_, rfl, ⟨_, .inl rfl⟩, _, .inl rfl, _, .inl rfl, rfl, _, _, rfl, rfl, .inr ⟨by omega, by omega⟩, _, rfl, _, _, rfl, rfl, ?_⟩
            have e : ((m1 x1 i : Nat) : Int) * ((h2.length : Nat) : Int) + ((m2 x2 j : Nat) : Int) = ((m1 x1 i * n2 + m2 x2 j : Nat) : Int) := by rw [hl2]; push_cast; rfl
            show R (.int (((m1 x1 i : Nat) : Int) * ((h2.length : Nat) : Int) + ((m2 x2 j : Nat) : Int))) _ _
            rw [e]
            exact hR
          · refine ⟨_, rfl, _, rfl, _, rfl, ?_, rfl, .fz (nD (m1 x1 i)), ?_⟩
            · rw [nsD_len, List.length_map, List.length_range, List.length_map, List.length_range, nsD_len, List.length_map, List.length_range]
              omega
            · rw [row_more x1 x2 i hx2, nsD_len, List.length_map, List.length_range]
              have e : (List.range n2).map (fun j => nD (m1 x1 i * n2 + m2 x2 j)) = nsD ((List.range n2).map fun j => m1 x1 i * n2 + m2 x2 j) := by unfold nsD; rw [List.map_map]; rfl
              rw [e, show ∀ a b : List Nat, nsD (a ++ b) = nsD a ++ nsD b from fun a b => List.map_append]
              rfl
        · obtain ⟨rfl, s6, rfl⟩ := hP
          rw [nsD_len, List.length_map, List.length_range]
          refine ⟨⟨_, rfl⟩, _, rfl, _, rfl, _, rfl, ?_, rfl, ?_⟩
          · rw [List.length_map, List.length_range]
            omega
          refine ⟨.fz (rowD n2 (m2 x2)), .fz (rowD (n * n2) (mB n2 m1 m2 (x1 * n2 + x2))), s6, ?_⟩
          rw [show x1 * n2 + (x2 + 1) = (x1 * n2 + x2) + 1 from rfl, List.range_succ (n := x1 * n2 + x2), List.map_append]
          rfl
      · obtain ⟨rfl, s4, s5, s6, rfl⟩ := hP
        rw [hl2]
        exact ⟨rfl, _, _, _, _, by rw [Nat.succ_mul]⟩
    · obtain ⟨rfl, s3, s4, s5, s6, rfl⟩ := hP
      rw [List.length_map, List.length_range]
      exact ⟨_, rfl, q⟩
end
end K35
namespace VL
open PySem PySem.Spec PyProof.Rows L2 HM
/-- all that comes of some, breadth first, at most so many steps -/
def grow (ts : List (List Nat)) : Nat → List (List Nat) → List (List Nat)
  | 0, l => l
  | k + 1, l => grow ts k (ts.foldl (fun acc g => l.foldl (fun acc x => if (thn x g) ∈ acc then acc else acc ++ [thn x g]) acc) l)
def closedB (m : Nat) (ts : List (List Nat)) (L : List (List Nat)) : Bool := decide (stay m ∈ L) && L.all fun x => ts.all fun g => decide (thn x g ∈ L)
theorem few_by {m : Nat} {ts L : List (List Nat)} (h : closedB m ts L = true) : ∀ l : List (List Nat), l.Nodup → (∀ x ∈ l, GR m ts x) → l.length ≤ L.length := fun l nd hl => by
  unfold closedB at h
  rw [Bool.and_eq_true, decide_eq_true_iff, List.all_eq_true] at h
  have all : ∀ x, GR m ts x → x ∈ L := fun x g => by
    induction g with
    | stay => exact h.1
    | step _ hg ih => exact of_decide_eq_true (List.all_eq_true.mp (h.2 _ ih) _ hg)
  exact List.Nodup.length_le_of_subset nd fun x hx => all x (hl x hx)
def gr1 : List (List Nat) := [[1, 2, 3, 0, 4, 5, 6], [2, 1, 0, 3, 4, 5, 6], [0, 1, 2, 3, 5, 6, 4], [0, 1, 2, 3, 5, 4, 6]]
def gr2 : List (List Nat) := [[1, 2, 3, 0, 4, 5], [1, 0, 2, 3, 4, 5], [0, 1, 2, 3, 5, 4]]
def gr3 : List (List Nat) := [[1, 2, 3, 4, 0], [1, 2, 0, 3, 4]]
def gr4 : List (List Nat) := [[1, 2, 0, 3, 4, 5], [1, 0, 2, 3, 4, 5], [0, 1, 2, 4, 5, 3], [0, 1, 2, 4, 3, 5]]
theorem few1 : closedB 7 gr1 (grow gr1 12 [stay 7]) = true ∧ (grow gr1 12 [stay 7]).length ≤ 60 := by decide +kernel
theorem few2 : closedB 6 gr2 (grow gr2 12 [stay 6]) = true ∧ (grow gr2 12 [stay 6]).length ≤ 60 := by decide +kernel
theorem few3 : closedB 5 gr3 (grow gr3 12 [stay 5]) = true ∧ (grow gr3 12 [stay 5]).length ≤ 60 := by decide +kernel
theorem few4 : closedB 6 gr4 (grow gr4 12 [stay 6]) = true ∧ (grow gr4 12 [stay 6]).length ≤ 60 := by decide +kernel
def spGreat : VSp := fun ds t Q _ => ∃ j : Nat, ds = [nD j] ∧ j < 4 ∧ ∀ (m : Nat) (gl : List (List Nat)), m ≤ 7 → IsGr m gl → Q (.lst (tnsD gl)) t
def spDrawn : Addr → VSp := fun p ds t Q _ => ds = [.obj p] ∧ ∀ (m : Nat) (gl : List (List Nat)), m ≤ 7 → IsGr m gl → Q (.lst (tnsD gl)) t
end VL
namespace K35
open PySem PySem.Spec PyProof.Rows L2 HM VL
abbrev s_l_great_group : Stmt := topS 9
theorem sc_l_great_group : FnScope ["_law_which", "_law_some"] ["_law_which"] (defScope s_l_great_group) := ⟨rfl, rfl, rfl, by decide +kernel, rfl, by decide +kernel, by decide +kernel⟩
section
variable {P : Program} {w : World} {K : PySem.W.Frag} {mg : Str → Option Value} {base : Heap} {am : Am} {gd : Around → Prop} {k : Nat}
theorem ok_great {f f_l_closed : Addr} {fd fd_l_closed : FuncData} (F : Fun K "_law_great_group" "_law_great_group" s_l_great_group f fd)
    (G_l_closed : VFn anyA P w K mg base CX0 (k + 2) f_l_closed fd_l_closed ["_law_many", "_law_turns", "_law_most"] am spClosedB) (g_l_closed : mg "_law_closed" = some (.ref f_l_closed)) (k_l_closed : PySem.W.keepIn K (.ref f_l_closed) = true) (b_l_closed : Binds K fd_l_closed ["_law_many", "_law_turns", "_law_most"] [])
    (mz : ∀ x ∈ bn, mg x = none) : VFn gd P w K mg base CX0 (k + 3) f fd ["_law_which"] am spGreat := by
  refine vfn_of F sc_l_great_group (fun ds n Q E h => ?_) ⟨_, fun cdv A out s H E F0 H0 hcd hgd hr =>
    (vss_cons (vs_setN (i := 1) sc_l_great_group.nd rfl (.inl rfl) (vn_lst (va_cons (ve_tupK (ka_cons ve_int (ka_cons (ve_lstK (ka_cons (ve_tupK (ka_cons ve_int (ka_cons ve_int (ka_cons ve_int (ka_cons ve_int (ka_cons ve_int (ka_cons ve_int (ka_cons ve_int ka_nil))))))) (by decide)) (ka_cons (ve_tupK (ka_cons ve_int (ka_cons ve_int (ka_cons ve_int (ka_cons ve_int (ka_cons ve_int (ka_cons ve_int (ka_cons ve_int ka_nil))))))) (by decide)) (ka_cons (ve_tupK (ka_cons ve_int (ka_cons ve_int (ka_cons ve_int (ka_cons ve_int (ka_cons ve_int (ka_cons ve_int (ka_cons ve_int ka_nil))))))) (by decide)) (ka_cons (ve_tupK (ka_cons ve_int (ka_cons ve_int (ka_cons ve_int (ka_cons ve_int (ka_cons ve_int (ka_cons ve_int (ka_cons ve_int ka_nil))))))) (by decide)) ka_nil)))) (by decide)) ka_nil)) (by decide)) va_nil)))
      (vss_cons (vs_expr (ve_m (pe_bm PySem.F.plainAttrs_list PySem.F.slot_list_append PySem.F.type_list_append mt_append (pv 1) (va_cons (ve_tupK (ka_cons ve_int (ka_cons (ve_lstK (ka_cons (ve_tupK (ka_cons ve_int (ka_cons ve_int (ka_cons ve_int (ka_cons ve_int (ka_cons ve_int (ka_cons ve_int ka_nil)))))) (by decide)) (ka_cons (ve_tupK (ka_cons ve_int (ka_cons ve_int (ka_cons ve_int (ka_cons ve_int (ka_cons ve_int (ka_cons ve_int ka_nil)))))) (by decide)) (ka_cons (ve_tupK (ka_cons ve_int (ka_cons ve_int (ka_cons ve_int (ka_cons ve_int (ka_cons ve_int (ka_cons ve_int ka_nil)))))) (by decide)) ka_nil))) (by decide)) ka_nil)) (by decide)) va_nil)) lft_append))
      (vss_cons (vs_expr (ve_m (pe_bm PySem.F.plainAttrs_list PySem.F.slot_list_append PySem.F.type_list_append mt_append (pv 1) (va_cons (ve_tupK (ka_cons ve_int (ka_cons (ve_lstK (ka_cons (ve_tupK (ka_cons ve_int (ka_cons ve_int (ka_cons ve_int (ka_cons ve_int (ka_cons ve_int ka_nil))))) (by decide)) (ka_cons (ve_tupK (ka_cons ve_int (ka_cons ve_int (ka_cons ve_int (ka_cons ve_int (ka_cons ve_int ka_nil))))) (by decide)) ka_nil)) (by decide)) ka_nil)) (by decide)) va_nil)) lft_append))
      (vss_cons (vs_expr (ve_m (pe_bm PySem.F.plainAttrs_list PySem.F.slot_list_append PySem.F.type_list_append mt_append (pv 1) (va_cons (ve_tupK (ka_cons ve_int (ka_cons (ve_lstK (ka_cons (ve_tupK (ka_cons ve_int (ka_cons ve_int (ka_cons ve_int (ka_cons ve_int (ka_cons ve_int (ka_cons ve_int ka_nil)))))) (by decide)) (ka_cons (ve_tupK (ka_cons ve_int (ka_cons ve_int (ka_cons ve_int (ka_cons ve_int (ka_cons ve_int (ka_cons ve_int ka_nil)))))) (by decide)) (ka_cons (ve_tupK (ka_cons ve_int (ka_cons ve_int (ka_cons ve_int (ka_cons ve_int (ka_cons ve_int (ka_cons ve_int ka_nil)))))) (by decide)) (ka_cons (ve_tupK (ka_cons ve_int (ka_cons ve_int (ka_cons ve_int (ka_cons ve_int (ka_cons ve_int (ka_cons ve_int ka_nil)))))) (by decide)) ka_nil)))) (by decide)) ka_nil)) (by decide)) va_nil)) lft_append))
      (vss_one (vs_ret (ve_call G_l_closed trivial (hr.mono (by omega)) (by rfl) g_l_closed k_l_closed b_l_closed pass0 (va_cons (ve_ix ix_tup lft_ixT (ve_ixO (pv 1) (ve_var (pv 0)) (fun _ _ => rfl)) ve_int (fun _ _ => rfl)) (va_cons (ve_ix ix_tup lft_ixT (ve_ixO (pv 1) (ve_var (pv 0)) (fun _ _ => rfl)) ve_int (fun _ _ => rfl)) (va_cons ve_int va_nil)))))))))), fun ds t Q E h => ?_⟩
  · obtain ⟨j, rfl, _⟩ := h
    rfl
  · obtain ⟨j, rfl, hj, q⟩ := h
    refine ⟨(by decide : 1 ≤ 5000), ⟨_, rfl⟩, _, rfl, _, rfl, by decide, ⟨_, rfl⟩, _, rfl, _, rfl, by decide, ⟨_, rfl⟩, _, rfl, _, rfl, by decide, ?_⟩
    have go : ∀ (m : Nat) (ts L : List (List Nat)), 1 ≤ m → m ≤ 7 → ts.length ≤ 4 → (ts.all fun g => tnB m g) = true → closedB m ts L = true ∧ L.length ≤ 60 → spClosedB [nD m, .lst (tnsD ts), nD 60] t Q fun _ _ _ => False := fun m ts L h1 h2 h3 h4 h5 =>
      ⟨m, ts, 60, rfl, h1, h2, h3, by decide, fun g hg => tn_B (List.all_eq_true.mp h4 g hg), fun gl hg => q m gl h2 hg, .inl fun l nd hl => Nat.le_trans (few_by h5.1 l nd hl) h5.2⟩
    have hjj : j = 0 ∨ j = 1 ∨ j = 2 ∨ j = 3 := by omega
    rcases hjj with rfl | rfl | rfl | rfl
    · exact ⟨⟨_, .inr ⟨_, rfl, rfl⟩⟩, _, rfl, _, _, _, .inr ⟨_, rfl, rfl⟩, rfl, rfl, _, _, _, rfl, rfl, rfl, ⟨_, .inr ⟨_, rfl, rfl⟩⟩, _, rfl, _, _, _, .inr ⟨_, rfl, rfl⟩, rfl, rfl, _, _, _, rfl, rfl, rfl, go 7 gr1 _ (by decide) (by decide) (by decide) (by decide +kernel) few1⟩
    · exact ⟨⟨_, .inr ⟨_, rfl, rfl⟩⟩, _, rfl, _, _, _, .inr ⟨_, rfl, rfl⟩, rfl, rfl, _, _, _, rfl, rfl, rfl, ⟨_, .inr ⟨_, rfl, rfl⟩⟩, _, rfl, _, _, _, .inr ⟨_, rfl, rfl⟩, rfl, rfl, _, _, _, rfl, rfl, rfl, go 6 gr2 _ (by decide) (by decide) (by decide) (by decide +kernel) few2⟩
    · exact ⟨⟨_, .inr ⟨_, rfl, rfl⟩⟩, _, rfl, _, _, _, .inr ⟨_, rfl, rfl⟩, rfl, rfl, _, _, _, rfl, rfl, rfl, ⟨_, .inr ⟨_, rfl, rfl⟩⟩, _, rfl, _, _, _, .inr ⟨_, rfl, rfl⟩, rfl, rfl, _, _, _, rfl, rfl, rfl, go 5 gr3 _ (by decide) (by decide) (by decide) (by decide +kernel) few3⟩
    · exact ⟨⟨_, .inr ⟨_, rfl, rfl⟩⟩, _, rfl, _, _, _, .inr ⟨_, rfl, rfl⟩, rfl, rfl, _, _, _, rfl, rfl, rfl, ⟨_, .inr ⟨_, rfl, rfl⟩⟩, _, rfl, _, _, _, .inr ⟨_, rfl, rfl⟩, rfl, rfl, _, _, _, rfl, rfl, rfl, go 6 gr4 _ (by decide) (by decide) (by decide) (by decide +kernel) few4⟩
end
end K35
namespace VL
open PySem PySem.Spec PyProof.Rows L2 HM
def pl3 (a : Addr) (t l : Int) : List V := [.ref a, .int t, .int l]
structure PenL (K : PySem.W.Frag) (am : Am) (p : Addr) : Prop where
  pl : Plain am
  sp : am.sp p
  rd : ∀ {n F H}, am.ok n F H → ∃ a ns t l, H p = some (.lst (pl3 a t l)) ∧ Scr K H a ns ∧ ns.length ≤ 63 ∧ 0 ≤ t ∧ 0 ≤ l
  wr : ∀ {n F H a t l}, am.ok n F H → H p = some (.lst (pl3 a t l)) → ∀ (t' l' : Int), 0 ≤ t' → 0 ≤ l' → am.ok n F (upd H p (.lst (pl3 a t' l')))
theorem PenL.out {K : PySem.W.Frag} {am : Am} {p a : Addr} (h : PenL K am p) {F H : Hp} {n : Nat} {t l : Int} (u : Up F H) (hs : ∀ a, am.sp a → F a = none) (ha : am.ok n F H) (hp : H p = some (.lst (pl3 a t l))) {t' l' : Int} (h1 : 0 ≤ t') (h2 : 0 ≤ l') :
    Out am F H F (upd H p (.lst (pl3 a t' l'))) n :=
  ⟨Up.refl F, fun b o e => by rw [upd_ne (fun (z : b = p) => by rw [z, hs p h.sp] at e; cases e)]; exact u b o e, hs, fun _ _ _ _ e => e, fun b o e nb => by rw [upd_ne (fun (z : b = p) => nb (by rw [z]; exact h.sp))]; exact e, h.wr ha hp t' l' h1 h2⟩
end VL
namespace VL
open PySem PySem.Spec PyProof.Rows L2 HM
mutual
theorem py_flat : ∀ d : Dt, (py d).hasDict = false
  | .non => by simp [py, PyData.hasDict]
  | .bl b => by simp [py, PyData.hasDict]
  | .int b => by simp [py, PyData.hasDict]
  | .str b => by simp [py, PyData.hasDict]
  | .ty b => by simp [py, PyData.hasDict]
  | .obj b => by simp [py, PyData.hasDict]
  | .dic a b => by simp [py, PyData.hasDict]
  | .dik a b => by simp [py, PyData.hasDict]
  | .tuP ds => by
    have := pys_flat ds
    simpa [py, PyData.hasDict] using this
  | .lst ds => by
    have := pys_flat ds
    simpa [py, PyData.hasDict] using this
  | .tup ds => by
    have := pys_flat ds
    simpa [py, PyData.hasDict] using this
theorem pys_flat : ∀ ds : List Dt, PyData.hasDictAll (pys ds) = false
  | [] => rfl
  | d :: ds => by
    show ((py d).hasDict || PyData.hasDictAll (pys ds)) = false
    rw [py_flat d, pys_flat ds]
    rfl
end
/-- x is None -/
def isNonD : Dt → Bool
  | .non => true
  | _ => false
def dIsN : R2D := fun x y Q => y = .non ∧ Q (.bl (isNonD x))
theorem lft_isN : Lft2 (fun x y H Q => y = V.non ∧ Q (.bl (decide (x = .non))) H) dIsN := fun F H x y d1 d2 Q R u p1 p2 ⟨e, q⟩ k => by
  subst e
  refine ⟨p2.non_inv, ?_⟩
  have : decide (x = V.non) = isNonD d1 := by
    cases p1 with
    | non => rfl
    | _ => exact decide_eq_false fun z => by cases z
  rw [this]
  exact k _ _ (.bl _) q
end VL
namespace HM
open PySem PySem.Spec PyProof.Rows L2
end HM
namespace VL
open PySem PySem.Spec PyProof.Rows L2 HM
end VL
namespace K35
open PySem PySem.Spec PyProof.Rows L2 HM VL
abbrev s_l_drawn_group : Stmt := topS 8
theorem sc_l_drawn_group : FnScope ["_law_pen_here", "_law_many", "_law_k", "_law_turns", "_law_found"] ["_law_pen_here"] (defScope s_l_drawn_group) := ⟨rfl, rfl, rfl, by decide +kernel, rfl, by decide +kernel, by decide +kernel⟩
section
variable {P : Program} {w : World} {K : PySem.W.Frag} {mg : Str → Option Value} {base : Heap} {am : Am} {gd : Around → Prop} {k : Nat}
theorem ok_drawn {p f f_l_take f_l_turn f_l_closed : Addr} {fd fd_l_take fd_l_turn fd_l_closed : FuncData} (F : Fun K "_law_drawn_group" "_law_drawn_group" s_l_drawn_group f fd)
    (G_l_take : VFn anyA P w K mg base CX0 (k + 2) f_l_take fd_l_take ["_law_pen_here", "_law_many"] am (spTakeB p)) (g_l_take : mg "_law_take" = some (.ref f_l_take)) (k_l_take : PySem.W.keepIn K (.ref f_l_take) = true) (b_l_take : Binds K fd_l_take ["_law_pen_here", "_law_many"] [])
    (G_l_turn : VFn anyA P w K mg base CX0 (k + 2) f_l_turn fd_l_turn ["_law_pen_here", "_law_many"] am (spTurn p)) (g_l_turn : mg "_law_turn" = some (.ref f_l_turn)) (k_l_turn : PySem.W.keepIn K (.ref f_l_turn) = true) (b_l_turn : Binds K fd_l_turn ["_law_pen_here", "_law_many"] [])
    (G_l_closed : VFn anyA P w K mg base CX0 (k + 2) f_l_closed fd_l_closed ["_law_many", "_law_turns", "_law_most"] am spClosedB) (g_l_closed : mg "_law_closed" = some (.ref f_l_closed)) (k_l_closed : PySem.W.keepIn K (.ref f_l_closed) = true) (b_l_closed : Binds K fd_l_closed ["_law_many", "_law_turns", "_law_most"] [])
    (mz : ∀ x ∈ bn, mg x = none) : VFn gd P w K mg base CX0 (k + 3) f fd ["_law_pen_here"] am (spDrawn p) := by
  refine vfn_of F sc_l_drawn_group (fun ds n Q E h => ?_) ⟨_, fun cdv A out s H E F0 H0 hcd hgd hr =>
    (vss_cons (vs_set (i := 1) sc_l_drawn_group.nd rfl (.inr rfl) (ve_op op_add lft_I0 ve_int (ve_call G_l_take trivial (hr.mono (by omega)) (by rfl) g_l_take k_l_take b_l_take pass0 (va_cons (ve_var (pv 0)) (va_cons ve_int va_nil)))))
      (vss_cons (vs_setLcF (i := 3) (own := [("_law_k", 2)]) rfl sc_l_drawn_group.nd rfl rfl (sw_true rfl rfl rfl (by decide +kernel)) (vi_range1 (by rfl) (mz "range" (by decide)) (vb_cons (ve_call G_l_take trivial (hr.mono (by omega)) (by rfl) g_l_take k_l_take b_l_take pass0 (va_cons (ve_var (pv 0)) (va_cons ve_int va_nil))) vb_nil)) (blkOk_by (own := [("_law_k", 2)]) (N := ["_law_pen_here", "_law_many", "_law_k", "_law_turns", "_law_found"]) (sc := defScope s_l_drawn_group) (by decide +kernel)) (tg_name (by simp)) (fun _ _ _ _ _ => (pg_name (i := 2) sc_l_drawn_group.nd rfl (.inl rfl))) (fun _ _ _ _ _ _ _ => vts_nil) (fun _ _ _ _ _ _ _ => (ve_call G_l_turn trivial (hr.mono (by omega)) (by rfl) g_l_turn k_l_turn b_l_turn pass0 (va_cons (ve_var (pv 0)) (va_cons (ve_var (pv 1)) va_nil)))))
      (vss_cons (vs_set (i := 4) sc_l_drawn_group.nd rfl (.inl rfl) (ve_call G_l_closed trivial (hr.mono (by omega)) (by rfl) g_l_closed k_l_closed b_l_closed pass0 (va_cons (ve_var (pv 1)) (va_cons (ve_var (pv 3)) (va_cons (ve_ix ix_list lft_ixL (ve_lstK (ka_cons ve_int (ka_cons ve_int ka_nil)) (by decide)) (ve_intB (by rfl) (mz "int" (by decide)) (ve_cmp op_eq lft_eq (ve_call G_l_take trivial (hr.mono (by omega)) (by rfl) g_l_take k_l_take b_l_take pass0 (va_cons (ve_var (pv 0)) (va_cons ve_int va_nil))) ve_int (nomark _))) (fun _ _ => rfl)) va_nil)))))
      (vss_cons (vs_if (vt_cmp op_isN lft_isN (ve_var (pv 4)) ve_non (nomark _))
        (vss_one (vs_set (i := 4) sc_l_drawn_group.nd rfl (.inl rfl) (ve_call G_l_closed trivial (hr.mono (by omega)) (by rfl) g_l_closed k_l_closed b_l_closed pass0 (va_cons (ve_var (pv 1)) (va_cons (ve_new (vn_slL (ve_var (pv 3)) vo_none (vo_some ve_int))) (va_cons ve_int va_nil))))))
        vss_nil)
      (vss_one (vs_ret (ve_var (pv 4)))))))), fun ds t Q E h => ?_⟩
  · obtain ⟨rfl, _⟩ := h
    rfl
  · obtain ⟨rfl, q⟩ := h
    refine ⟨_, rfl, 7, rfl, by decide, by decide, fun r hr => ⟨_, _, rfl, rfl, ?_⟩⟩
    obtain ⟨m, hm, hm1, hm7⟩ : ∃ m : Nat, (1 : Int) + ((r : Nat) : Int) = (m : Nat) ∧ 1 ≤ m ∧ m ≤ 7 := ⟨1 + r, by omega, by omega, by omega⟩
    have ed : Dt.int (1 + ((r : Nat) : Int)) = nD m := by rw [hm]; rfl
    dsimp only
    rw [ed]
    refine ⟨_, rfl, 3, rfl, by decide, by decide, fun r2 hr2 => ⟨_, rfl, ⟨by omega, by omega⟩, ?_⟩⟩
    refine lc_any (i := 2) (fun j acc => ∃ ts, acc = tnsD ts ∧ ts.length = j ∧ ∀ g ∈ ts, Tn m g) (.head _) (noOw1 rfl no_ow) (by rw [rngD_len]; omega) ⟨[], rfl, rfl, fun g hg => by cases hg⟩ (fun j x acc hx hP R hR => ?_) (fun acc hP => ?_)
    · obtain ⟨ts, rfl, htl, hT⟩ := hP
      refine ⟨_, rfl, _, rfl, m, rfl, by omega, fun l hl => hR _ ⟨ts ++ [l], by rw [← tnsD_app], by rw [List.length_append, htl]; rfl, fun g hg => ?_⟩⟩
      rcases List.mem_append.mp hg with hg | hg
      · exact hT g hg
      · rw [List.mem_singleton.mp hg]; exact hl
    obtain ⟨ts, rfl, htl, hT⟩ := hP
    rw [rngD_len] at htl
    refine ⟨_, rfl, ?_⟩
    have hv : ∀ b : Bool, ∃ v : Nat, atI [Dt.int 24, .int 60] (if b = true then 1 else 0) = some (nD v) ∧ v ≤ 60 := fun b => by
      cases b
      · exact ⟨24, rfl, by decide⟩
      · exact ⟨60, rfl, by decide⟩
    refine ⟨_, rfl, _, rfl, _, rfl, 8, rfl, by decide, by decide, fun r3 h3 => .inl ⟨_, _, rfl, rfl, _, rfl, ?_⟩⟩
    obtain ⟨v, hv1, hv2⟩ := hv (decide (((r3 : Nat) : Int) = 7))
    refine ⟨_, _, _, rfl, rfl, hv1, m, ts, v, rfl, hm1, hm7, by omega, hv2, hT, fun gl hg => ⟨_, rfl, rfl, _, rfl, iteB (fun e => by cases e) (fun _ => ⟨_, rfl, q m gl hm7 hg⟩)⟩, .inr ⟨_, rfl, rfl, _, rfl, iteB (fun _ => ?_) (fun e => by cases e)⟩⟩
    refine ⟨_, rfl, _, rfl, _, rfl, _, rfl, _, rfl, m, ts.take 1, 60, ?_, hm1, hm7, by rw [List.length_take]; omega, by decide, fun g hg => hT g (List.mem_of_mem_take hg), fun gl hg => ⟨_, rfl, q m gl hm7 hg⟩, .inl fun l nd hl => ?_⟩
    · rw [cut1]
      rfl
    · exact GR.few (fun g hg => hT g (List.mem_of_mem_take hg)) hm7 (by rw [List.length_take]; omega) nd hl
end
end K35
namespace K35
open PySem PySem.Spec PyProof.Rows L2 HM VL
abbrev s_l_part : Stmt := topS 16
theorem sc_l_part : FnScope ["_law_house_here", "_law_numbers", "_law_found", "_law_left", "_law_here", "_law_number", "_law_there"] ["_law_house_here", "_law_numbers"] (defScope s_l_part) := ⟨rfl, rfl, rfl, by decide +kernel, rfl, by decide +kernel, by decide +kernel⟩
section
variable {P : Program} {w : World} {K : PySem.W.Frag} {mg : Str → Option Value} {base : Heap} {am : Am} {gd : Around → Prop} {k : Nat}
theorem ok_partB {f : Addr} {fd : FuncData} (F : Fun K "_law_part" "_law_part" s_l_part f fd) (mz : ∀ x ∈ bn, mg x = none) : VFn gd P w K mg base CX0 (k + 1) f fd ["_law_house_here", "_law_numbers"] am spPart := by
  refine vfn_of F sc_l_part (fun ds n Q E h => ?_) ⟨_, fun cdv A out s H E F0 H0 hcd hgd hr =>
    (vss_cons (vs_setN (i := 2) sc_l_part.nd rfl (.inl rfl) (vn_dispK (fun F0 H0 => ve_int) (fun F0 H0 => ve_bl)))
      (vss_cons (vs_setN (i := 3) sc_l_part.nd rfl (.inl rfl) (vn_lst (va_cons ve_int va_nil)))
      (vss_cons (vs_while PassesOwn.never (vt_cmpN (op_neD hr.units) lft_neD (pv 3) (vr_of (ve_new (vn_lst va_nil))) (nomark _))
        (vss_cons (vs_set (i := 4) sc_l_part.nd rfl (.inl rfl) (ve_m0 (pe_bm0 PySem.F.plainAttrs_list PySem.F.slot_list_pop PySem.F.type_list_pop mt_pop (pv 3)) lft_pop))
        (vss_one (vs_for PassesOwn.never rfl (vi_list (ve_var (pv 1))) (vg_name (pg_name (i := 5) sc_l_part.nd rfl (.inl rfl)))
          (vss_cons (vs_set (i := 6) sc_l_part.nd rfl (.inl rfl) (ve_ix ix_list lft_ixL (ve_ixO (pv 0) (ve_var (pv 4)) (fun _ _ => rfl)) (ve_var (pv 5)) (fun _ _ => rfl)))
          (vss_one (vs_if (vt_dnotin (hu_of hr) (ve_var (pv 6)) (pv 2))
            (vss_cons (vs_dput (hu_of hr) (pv 2) (ve_var (pv 6)) ve_bl rfl)
            (vss_one (vs_expr (ve_m (pe_bm PySem.F.plainAttrs_list PySem.F.slot_list_append PySem.F.type_list_append mt_append (pv 3) (va_cons (ve_var (pv 6)) va_nil)) lft_append))))
            vss_nil)))))))
      (vss_one (vs_ret (ve_tyTR call_tuple_of lft_tupleOf (by rfl) (mz "tuple" (by decide)) (by decide +kernel) (vb_cons (ve_new (vn_dsortK rfl (by rfl) (mz "sorted" (by decide)) (pv 2))) vb_nil))))))), fun ds t Q E h => ?_⟩
  · obtain ⟨n, m, gs, rfl, _⟩ := h
    rfl
  · obtain ⟨n, m, gs, rfl, h0, h60, hgl, hm, hg, q⟩ := h
    obtain ⟨hou, ehou⟩ : ∃ hou, hou = houD n m := ⟨_, rfl⟩
    rw [← ehou]
    refine ⟨.inl 0, rfl, by decide, ?_⟩
    let I : List Nat → List Nat → Sl → Ev → Prop := fun fs ws s4 env => ∃ kvs s5 s6, env = [.fz hou, .fz (.lst (nsD gs)), .ow (.dK kvs), .ow (.lst (nsD ws)), s4, s5, s6] ∧ kvs.map (·.1) = fs.map (fun i : Nat => (Sum.inl (i : Int) : Key))
    have hfew : ∀ {fs ws : List Nat}, Wt m gs fs ws → fs.length ≤ n := fun h => few_of_nodup h.nd fun x hx => (h.rc x hx).lt h0 hm hg
    refine ⟨fun mm env t' => ∃ fs ws, mm = 2 * (61 - fs.length) + ws.length ∧ t' = t ∧ (∃ s4, I fs ws s4 env) ∧ Wt m gs fs ws, ⟨_, [0], [0], rfl, rfl, ⟨.no, _, .no, .no, rfl, rfl⟩, ⟨by simp, fun x hx => by rw [List.mem_singleton.mp hx]; exact .zero, by simp, fun x hx => hx, by simp, fun x hx hn => absurd hx hn⟩⟩, fun mm env t' hW => ?_⟩
    obtain ⟨fs, ws, rfl, rfl, ⟨s4, kvs, s5, s6, rfl, hk⟩, hW⟩ := hW
    refine ⟨⟨_, .inr ⟨_, rfl, rfl⟩⟩, by decide, _, rfl, _, .inr ⟨_, rfl, rfl⟩, dNeD_pl (pl_ns ws) rfl (dep_ns ws) (by decide) fun b hb => ⟨rfl, b, rfl, iteB (fun e => ?_) (fun e => ?_)⟩⟩
    · have hne : ws ≠ [] := fun z => (hb.mp e) (nsD_nil.mpr z)
      obtain ⟨ws', x0, rfl⟩ : ∃ l x, ws = l ++ [x] := ⟨_, _, (List.dropLast_concat_getLast hne).symm⟩
      have hx0 : x0 ∈ fs := hW.sb x0 (by simp)
      have hx0n : x0 < n := (hW.rc x0 hx0).lt h0 hm hg
      have hwn := hW.wn
      rw [List.nodup_append] at hwn
      have hx0w : x0 ∉ ws' := fun z => hwn.2.2 x0 z x0 (by simp) rfl
      have hfn := hfew hW
      refine ⟨⟨_, rfl⟩, _, rfl, nD x0, rfl, nsD_last, ?_⟩
      rw [nsD_dropLast]
      refine ⟨_, rfl, nsD gs, rfl, fun j env t3 => t3 = t' ∧ ∃ ext, I (fs ++ ext) (ws' ++ ext) (.fz (nD x0)) env ∧ (fs ++ ext).Nodup ∧ (∀ x ∈ fs ++ ext, Rch m gs x) ∧ ∀ g ∈ gs.take j, m x0 g ∈ fs ++ ext, ⟨rfl, [], ⟨kvs, s5, s6, by rw [List.append_nil]; rfl, by rw [List.append_nil]; exact hk⟩, by rw [List.append_nil]; exact hW.nd, by rw [List.append_nil]; exact hW.rc, fun g hg => by rw [List.take_zero] at hg; cases hg⟩, fun j x env t3 hx hP => ?_, fun env t3 hP => ?_⟩
      · obtain ⟨rfl, ext, ⟨kvs, s5, s6, rfl, hk⟩, hnd, hrc, hcl⟩ := hP
        unfold nsD at hx
        rw [List.getElem?_map] at hx
        obtain ⟨g, hg1, rfl⟩ := Option.map_eq_some_iff.mp hx
        have hgm := List.mem_of_getElem? hg1
        have hl : (fs ++ ext).length ≤ n := few_of_nodup hnd fun x hx => (hrc x hx).lt h0 hm hg
        have hkl : kvs.length = (fs ++ ext).length := by
          have := congrArg List.length hk
          rw [List.length_map, List.length_map] at this
          exact this
        have htk : ∀ g2 ∈ gs.take (j + 1), g2 ∈ gs.take j ∨ g2 = g := fun g2 h => by
          rw [take_snoc' hg1] at h
          rcases List.mem_append.mp h with h | h
          · exact .inl h
          · exact .inr (List.mem_singleton.mp h)
        have hmem : (valD kvs (Sum.inl ((m x0 g : Nat) : Int) : Key)).isSome = decide (m x0 g ∈ fs ++ ext) := by
          rw [valD_some, hk]
          exact decide_eq_decide.mpr keyN_mem
        refine ⟨⟨_, .inl rfl⟩, _, rfl, _, _, _, .inl (by rw [ehou]; rfl), rfl, hou_at hx0n, _, rfl, _, _, _, rfl, rfl, row_at (hg g hgm), ?_⟩
        refine ⟨_, rfl, _, .inl ⟨kvs, .inl ((m x0 g : Nat) : Int), rfl, rfl, rfl⟩, _, rfl, iteB (fun e2 => ?_) (fun e2 => ?_)⟩
        · have hnin : m x0 g ∉ fs ++ ext := by
            have e3 : (!(valD kvs (Sum.inl ((m x0 g : Nat) : Int) : Key)).isSome) = true := e2
            rw [hmem, Bool.not_eq_true', decide_eq_false_iff_not] at e3
            exact e3
          have hnk : (Sum.inl ((m x0 g : Nat) : Int) : Key) ∉ kvs.map (·.1) := by rw [hk, keyN_mem]; exact hnin
          refine ⟨.inl ⟨_, rfl⟩, _, rfl, .inl ⟨kvs, .inl ((m x0 g : Nat) : Int), rfl, rfl, by omega, ⟨_, rfl⟩, _, rfl, _, rfl, _, rfl, ?_, rfl, ext ++ [m x0 g], ⟨putD kvs (.inl ((m x0 g : Nat) : Int)) (.bl true), .fz (nD g), .fz (nD (m x0 g)), ?_, ?_⟩, ?_, fun x hx => ?_, fun g2 hg2 => ?_⟩⟩
          · have := few_of_nodup (n := n) (l := ws' ++ ext) ?_ fun x hx => ?_
            · rw [nsD_len]; omega
            · rw [List.nodup_append] at hnd ⊢
              exact ⟨hwn.1, hnd.2.1, fun a ha b hb => hnd.2.2 a (hW.sb a (List.mem_append_left _ ha)) b hb⟩
            · rcases List.mem_append.mp hx with hx | hx
              · exact (hW.rc x (hW.sb x (List.mem_append_left _ hx))).lt h0 hm hg
              · exact (hrc x (List.mem_append_right _ hx)).lt h0 hm hg
          · rw [nsD_app, ← List.append_assoc]
            rfl
          · rw [putD_new hnk, List.map_append, hk, ← List.append_assoc, List.map_append (l₁ := fs ++ ext)]
            rfl
          · rw [← List.append_assoc, List.nodup_append]
            exact ⟨hnd, by simp, fun a ha b hb z => hnin (by rw [List.mem_singleton.mp hb] at z; rw [← z]; exact ha)⟩
          · rw [← List.append_assoc] at hx
            rcases List.mem_append.mp hx with hx | hx
            · exact hrc x hx
            · rw [List.mem_singleton.mp hx]
              exact .step (hW.rc x0 hx0) hgm
          · rw [← List.append_assoc]
            rcases htk g2 hg2 with h | rfl
            · exact List.mem_append_left _ (hcl g2 h)
            · exact List.mem_append_right _ (List.mem_singleton.mpr rfl)
        · have hin : m x0 g ∈ fs ++ ext := by
            have e3 : (!(valD kvs (Sum.inl ((m x0 g : Nat) : Int) : Key)).isSome) = false := e2
            rw [hmem, Bool.not_eq_false', decide_eq_true_iff] at e3
            exact e3
          refine ⟨rfl, ext, ⟨kvs, _, _, rfl, hk⟩, hnd, hrc, fun g2 hg2 => ?_⟩
          rcases htk g2 hg2 with h | rfl
          · exact hcl g2 h
          · exact hin
      · obtain ⟨rfl, ext, ⟨kvs, s5, s6, rfl, hk⟩, hnd, hrc, hcl⟩ := hP
        rw [nsD_len, List.take_of_length_le (Nat.le_refl _)] at hcl
        have hl : (fs ++ ext).length ≤ n := few_of_nodup hnd fun x hx => (hrc x hx).lt h0 hm hg
        rw [List.length_append] at hl
        rw [List.nodup_append] at hnd
        refine ⟨_, by rw [List.length_append, List.length_append, List.length_append, List.length_singleton]; omega, fs ++ ext, ws' ++ ext, rfl, rfl, ⟨_, kvs, s5, s6, rfl, hk⟩, ⟨List.nodup_append.mpr hnd, hrc, List.mem_append_left _ hW.ze, fun x hx => ?_, ?_, fun x hx hnx g hg => ?_⟩⟩
        · rcases List.mem_append.mp hx with hx | hx
          · exact List.mem_append_left _ (hW.sb x (List.mem_append_left _ hx))
          · exact List.mem_append_right _ hx
        · rw [List.nodup_append]
          exact ⟨hwn.1, hnd.2.1, fun a ha b hb => hnd.2.2 a (hW.sb a (List.mem_append_left _ ha)) b hb⟩
        · rw [List.mem_append, not_or] at hnx
          rcases List.mem_append.mp hx with hx | hx
          · by_cases z : x = x0
            · rw [z]
              exact hcl g hg
            · exact List.mem_append_left _ (hW.cl x hx (by rw [List.mem_append, List.mem_singleton, not_or]; exact ⟨hnx.1, z⟩) g hg)
          · exact absurd hx hnx.2
    · have hnil : ws = [] := Classical.byContradiction fun z => by
        have := hb.mpr fun h => z (nsD_nil.mp h)
        rw [this] at e
        cases e
      subst hnil
      have hfn := hfew hW
      refine ⟨kvs, fs.map (fun i : Nat => (i : Int)), rfl, by rw [hk, List.map_map]; rfl, by rw [List.length_map]; omega, fun ns h1 h2 => ⟨_, rfl, _, rfl, flats_int ns, ?_⟩⟩
      obtain ⟨l, rfl, hpm⟩ := perm_cast h1
      rw [← nsD_ints]
      refine q l ⟨lt_of_le_nodup' h2 (hpm.nodup_iff.mpr hW.nd), fun x => ?_⟩
      rw [hpm.mem_iff, hW.all]
end
end K35
namespace VL
open PySem PySem.Spec PyProof.Rows L2 HM
def v8 (a b : Int) : Int :=
  if a / 2 = 0 ∨ b / 2 = 0 then 2 * (a / 2 + b / 2) + (a + b) % 2
  else if a / 2 = b / 2 then 2 * 0 + (1 - (a + b) % 2)
  else if (b / 2 - a / 2) % 3 = 2 then 2 * (6 - a / 2 - b / 2) + (1 - (a + b) % 2)
  else 2 * (6 - a / 2 - b / 2) + (a + b) % 2
def m8 (a b : Nat) : Nat := (v8 a b).toNat
theorem v8_nat : ∀ a, a < 8 → ∀ b, b < 8 → v8 (a : Nat) (b : Nat) = ((m8 a b : Nat) : Int) := by decide +kernel
theorem m8_lt : ∀ a, a < 8 → ∀ b, b < 8 → m8 a b < 8 := by decide +kernel
theorem m8_z : ∀ a, a < 8 → m8 0 a = a ∧ m8 a 0 = a := by decide +kernel
theorem m8_as : ∀ a, a < 8 → ∀ b, b < 8 → ∀ c, c < 8 → m8 (m8 a b) c = m8 a (m8 b c) := by decide +kernel
theorem m8_cn : ∀ a, a < 8 → ∀ b, b < 8 → ∀ c, c < 8 → m8 a b = m8 a c → b = c := by decide +kernel
theorem hse8 : Hse 8 m8 := ⟨by decide, fun a b ha hb => m8_lt a ha b hb, fun a ha => (m8_z a ha).1, fun a ha => (m8_z a ha).2, fun a b c ha hb hc => m8_as a ha b hb c hc, fun a b c ha hb hc => m8_cn a ha b hb c hc⟩
/-- a, b = x, y -/
def vPar (i j : Nat) (ta : VTA) : VTS := fun V env n => ta env n fun ds env1 n1 => ∃ d e, ds = [d, e] ∧ V.nx ((env1.set i (.fz d)).set j (.fz e)) n1
theorem vs_par {c : Fc} {X : Cx} {i j : Nat} {x y : Str} {a b : Expr} {ta : VTA} {px py pt pos : Pos} {kt k2 pt2} (hc : X.calm = true) (hN : X.N.Nodup) (hi : X.N[i]? = some x) (hj : X.N[j]? = some y) (hij : i ≠ j)
    (hx : X.env.scope.names.lookup x = some .local) (hy : X.env.scope.names.lookup y = some .local) (ha : PA X [a, b] (aOf c ta))
    (hw : swappedStores [.Tuple [.Name x px, .Name y py] kt pt] (.Tuple [a, b] k2 pt2) X.env = pure (some [x, y]) := by rfl)
    (hs : swapsWithSole [.Tuple [.Name x px, .Name y py] kt pt] (.Tuple [a, b] k2 pt2) pos.line X.env = pure false := by rfl) :
    PS X (.Assign [.Tuple [.Name x px, .Name y py] kt pt] (.Tuple [a, b] k2 pt2) pos) (sOf c (vPar i j ta)) := PS.imp (ps_par hc hN hi hj hij hx hy ha hw hs) fun D σ H ⟨F, env, n, V, r, q, k⟩ => by
  refine ⟨F, env, n, _, r, q, fun vs H1 F1 ds env1 n1 r1 u1 p1 q1 => ?_⟩
  obtain ⟨d, e, rfl, q1⟩ := q1
  obtain ⟨v, w, rfl, pv, pw⟩ := p1.two
  exact ⟨v, w, rfl, k.nx F1 H1 _ _ n1 ((r1.setF pv).setF pw) u1 q1⟩
def spEight : VSp := fun ds t Q _ => ds = [] ∧ Q (houD 8 m8) t
end VL
namespace K35
open PySem PySem.Spec PyProof.Rows L2 HM VL
abbrev s_l_eight : Stmt := topS 12
theorem sc_l_eight : FnScope ["_law_found", "_law_a", "_law_row", "_law_b", "_law_u", "_law_v", "_law_sign", "_law_w"] [] (defScope s_l_eight) := ⟨rfl, rfl, rfl, by decide +kernel, rfl, by decide +kernel, by decide +kernel⟩
section
variable {P : Program} {w : World} {K : PySem.W.Frag} {mg : Str → Option Value} {base : Heap} {am : Am} {gd : Around → Prop} {k : Nat}
theorem ok_eight {f : Addr} {fd : FuncData} (F : Fun K "_law_eight" "_law_eight" s_l_eight f fd) (mz : ∀ x ∈ bn, mg x = none) : VFn gd P w K mg base CX0 (k + 1) f fd [] am spEight := by
  refine vfn_of F sc_l_eight (fun ds n Q E h => ?_) ⟨_, fun cdv A out s H E F0 H0 hcd hgd hr =>
    (vss_cons (vs_setN (i := 0) sc_l_eight.nd rfl (.inl rfl) (vn_lst va_nil))
      (vss_cons (vs_for PassesOwn.never rfl (vi_range1 (by rfl) (mz "range" (by decide)) (vb_cons ve_int vb_nil)) (vg_name (pg_name (i := 1) sc_l_eight.nd rfl (.inl rfl)))
        (vss_cons (vs_setN (i := 2) sc_l_eight.nd rfl (.inl rfl) (vn_lst va_nil))
        (vss_cons (vs_for PassesOwn.never rfl (vi_range1 (by rfl) (mz "range" (by decide)) (vb_cons ve_int vb_nil)) (vg_name (pg_name (i := 3) sc_l_eight.nd rfl (.inl rfl)))
          (vss_cons (vs_par (i := 4) (j := 5) rfl sc_l_eight.nd rfl rfl (by decide) rfl rfl (va_cons (ve_op op_fdiv lft_I (ve_var (pv 1)) ve_int) (va_cons (ve_op op_fdiv lft_I (ve_var (pv 3)) ve_int) va_nil)))
          (vss_cons (vs_set (i := 6) sc_l_eight.nd rfl (.inl rfl) (ve_op op_mod lft_I (ve_op op_add lft_I0 (ve_var (pv 1)) (ve_var (pv 3))) ve_int))
          (vss_cons (vs_set (i := 7) sc_l_eight.nd rfl (.inl rfl) (ve_op op_sub lft_I0 (ve_op op_sub lft_I0 ve_int (ve_var (pv 4))) (ve_var (pv 5))))
          (vss_cons (vs_if (vt_or (vt_cmp op_eq lft_eq (ve_var (pv 4)) ve_int (nomark _)) (vt_or1 (vt_cmp op_eq lft_eq (ve_var (pv 5)) ve_int (nomark _)))).pt
            (vss_one (vs_set (i := 7) sc_l_eight.nd rfl (.inl rfl) (ve_op op_add lft_I0 (ve_var (pv 4)) (ve_var (pv 5)))))
            (vss_one (vs_if (vt_cmp op_eq lft_eq (ve_var (pv 4)) (ve_var (pv 5)) (nomark _))
              (vss_cons (vs_set (i := 7) sc_l_eight.nd rfl (.inl rfl) ve_int)
              (vss_one (vs_set (i := 6) sc_l_eight.nd rfl (.inl rfl) (ve_op op_sub lft_I0 ve_int (ve_var (pv 6))))))
              (vss_one (vs_if (vt_cmp op_eq lft_eq (ve_op op_mod lft_I (ve_op op_sub lft_I0 (ve_var (pv 5)) (ve_var (pv 4))) ve_int) ve_int (nomark _))
                (vss_one (vs_set (i := 6) sc_l_eight.nd rfl (.inl rfl) (ve_op op_sub lft_I0 ve_int (ve_var (pv 6)))))
                vss_nil)))))
          (vss_one (vs_expr (ve_m (pe_bm PySem.F.plainAttrs_list PySem.F.slot_list_append PySem.F.type_list_append mt_append (pv 2) (va_cons (ve_op op_add lft_I0 (ve_op op_mul lft_I ve_int (ve_var (pv 7))) (ve_var (pv 6))) va_nil)) lft_append))))))))
        (vss_one (vs_expr (ve_m (pe_bm PySem.F.plainAttrs_list PySem.F.slot_list_append PySem.F.type_list_append mt_append (pv 0) (va_cons (ve_mv (pv 2)) va_nil)) lft_append))))))
      (vss_one (vs_ret (ve_mv (pv 0)))))), fun ds t Q E h => ?_⟩
  · obtain ⟨rfl, _⟩ := h
    rfl
  · obtain ⟨rfl, q⟩ := h
    refine ⟨Nat.zero_le _, 8, rfl, ⟨by decide, by decide⟩, fun a env t' => t' = t ∧ ∃ s1 s2 s3 s4 s5 s6 s7, env = [.ow (.lst ((List.range a).map fun a => rowD 8 (m8 a))), s1, s2, s3, s4, s5, s6, s7], ⟨rfl, .no, .no, .no, .no, .no, .no, .no, rfl⟩, fun a x env t' hx hP => ?_, fun env t' hP => ?_⟩
    · obtain ⟨rfl, s1, s2, s3, s4, s5, s6, s7, rfl⟩ := hP
      obtain ⟨rfl, ha⟩ := rngD_get0 hx
      have ha : a < 8 := ha
      refine ⟨Nat.zero_le _, ?_⟩
      refine ⟨8, rfl, ⟨by decide, by decide⟩, fun b env t2 => t2 = t' ∧ ∃ s3 s4 s5 s6 s7, env = [.ow (.lst ((List.range a).map fun a => rowD 8 (m8 a))), .fz (nD a), .ow (.lst (nsD ((List.range b).map (m8 a)))), s3, s4, s5, s6, s7], ⟨rfl, _, _, _, _, _, rfl⟩, fun b x env t2 hx hP => ?_, fun env t2 hP => ?_⟩
      · obtain ⟨rfl, s3, s4, s5, s6, s7, rfl⟩ := hP
        obtain ⟨rfl, hb⟩ := rngD_get0 hx
        have hb : b < 8 := hb
        have fin : ∀ (X : Int), X = ((m8 a b : Nat) : Int) → ∀ (s3 s4 s5 s6 s7 : Sl), [Sl.ow (Con.lst ((List.range a).map fun a => rowD 8 (m8 a))), Sl.fz (nD a), Sl.ow (Con.lst (nsD ((List.range b).map (m8 a)) ++ [Dt.int X])), s3, s4, s5, s6, s7] = [Sl.ow (Con.lst ((List.range a).map fun a => rowD 8 (m8 a))), Sl.fz (nD a), Sl.ow (Con.lst (nsD ((List.range (b + 1)).map (m8 a)))), s3, s4, s5, s6, s7] := fun X hX s3 s4 s5 s6 s7 => by
          rw [hX, List.range_succ, List.map_append, show ∀ a b : List Nat, nsD (a ++ b) = nsD a ++ nsD b from fun a b => List.map_append]
          rfl
        refine ⟨_, rfl, _, _, rfl, rfl, ⟨by decide, by decide⟩, _, rfl, _, _, rfl, rfl, ⟨by decide, by decide⟩, _, _, rfl, ?_⟩
        refine ⟨_, rfl, _, rfl, _, _, rfl, rfl, _, _, rfl, rfl, (by show (0 : Int) < 2; decide), ?_⟩
        refine ⟨_, rfl, _, _, rfl, rfl, _, rfl, _, _, rfl, rfl, ?_⟩
        refine ⟨_, rfl, .inl ⟨_, _, rfl, rfl, _, rfl, iteB (fun e1 => iteB (fun _ => ?_) (fun e => by cases e)) (fun e1 => ⟨_, rfl, .inl ⟨_, _, rfl, rfl, _, rfl, iteB (fun e2 => ?_) (fun e2 => ?_)⟩⟩)⟩⟩
        · have h1 := of_decide_eq_true e1
          refine ⟨_, rfl, _, rfl, _, _, rfl, rfl, ?_⟩
          refine ⟨⟨_, rfl⟩, _, rfl, _, _, rfl, rfl, .inl ⟨by decide, by decide⟩, _, rfl, _, _, rfl, rfl, _, rfl, _, rfl, by rw [nsD_len, List.length_map, List.length_range]; omega, rfl, .fz (nD b), .fz (.int ((a : Int) / 2)), .fz (.int ((b : Int) / 2)), .fz (.int (((a : Int) + (b : Int)) % 2)), .fz (.int ((a : Int) / 2 + (b : Int) / 2)), ?_⟩
          exact fin _ (by rw [← v8_nat a ha b hb]; unfold v8; rw [if_pos (.inl h1)]) _ _ _ _ _
        · have h2 := of_decide_eq_true e2
          refine ⟨_, rfl, _, rfl, _, _, rfl, rfl, ?_⟩
          refine ⟨⟨_, rfl⟩, _, rfl, _, _, rfl, rfl, .inl ⟨by decide, by decide⟩, _, rfl, _, _, rfl, rfl, _, rfl, _, rfl, by rw [nsD_len, List.length_map, List.length_range]; omega, rfl, .fz (nD b), .fz (.int ((a : Int) / 2)), .fz (.int ((b : Int) / 2)), .fz (.int (((a : Int) + (b : Int)) % 2)), .fz (.int ((a : Int) / 2 + (b : Int) / 2)), ?_⟩
          exact fin _ (by rw [← v8_nat a ha b hb]; unfold v8; rw [if_pos (.inr h2)]) _ _ _ _ _
        have h1 := of_decide_eq_false e1
        have h2 := of_decide_eq_false e2
        have hn : ¬ ((a : Int) / 2 = 0 ∨ (b : Int) / 2 = 0) := fun z => z.elim h1 h2
        refine ⟨_, rfl, _, rfl, .inl ⟨_, _, rfl, rfl, _, rfl, iteB (fun e3 => ?_) (fun e3 => ?_)⟩⟩
        · have h3 := of_decide_eq_true e3
          refine ⟨_, rfl, _, _, rfl, rfl, ?_⟩
          refine ⟨⟨_, rfl⟩, _, rfl, _, _, rfl, rfl, .inl ⟨by decide, by decide⟩, _, rfl, _, _, rfl, rfl, _, rfl, _, rfl, by rw [nsD_len, List.length_map, List.length_range]; omega, rfl, .fz (nD b), .fz (.int ((a : Int) / 2)), .fz (.int ((b : Int) / 2)), .fz (.int (1 - (((a : Int) + (b : Int)) % 2))), .fz (.int 0), ?_⟩
          exact fin _ (by rw [← v8_nat a ha b hb]; unfold v8; rw [if_neg hn, if_pos h3]) _ _ _ _ _
        · have h3 := of_decide_eq_false e3
          refine ⟨_, rfl, _, rfl, _, _, rfl, rfl, _, _, rfl, rfl, (by show (0 : Int) < 3; decide), .inl ⟨_, _, rfl, rfl, _, rfl, iteB (fun e4 => ?_) (fun e4 => ?_)⟩⟩
          · have h4 := of_decide_eq_true e4
            refine ⟨_, rfl, _, _, rfl, rfl, ?_⟩
            refine ⟨⟨_, rfl⟩, _, rfl, _, _, rfl, rfl, .inl ⟨by decide, by decide⟩, _, rfl, _, _, rfl, rfl, _, rfl, _, rfl, by rw [nsD_len, List.length_map, List.length_range]; omega, rfl, .fz (nD b), .fz (.int ((a : Int) / 2)), .fz (.int ((b : Int) / 2)), .fz (.int (1 - (((a : Int) + (b : Int)) % 2))), .fz (.int (6 - (a : Int) / 2 - (b : Int) / 2)), ?_⟩
            exact fin _ (by rw [← v8_nat a ha b hb]; unfold v8; rw [if_neg hn, if_neg h3, if_pos h4]) _ _ _ _ _
          · have h4 := of_decide_eq_false e4
            refine ⟨⟨_, rfl⟩, _, rfl, _, _, rfl, rfl, .inl ⟨by decide, by decide⟩, _, rfl, _, _, rfl, rfl, _, rfl, _, rfl, by rw [nsD_len, List.length_map, List.length_range]; omega, rfl, .fz (nD b), .fz (.int ((a : Int) / 2)), .fz (.int ((b : Int) / 2)), .fz (.int (((a : Int) + (b : Int)) % 2)), .fz (.int (6 - (a : Int) / 2 - (b : Int) / 2)), ?_⟩
            exact fin _ (by rw [← v8_nat a ha b hb]; unfold v8; rw [if_neg hn, if_neg h3, if_neg h4]) _ _ _ _ _
      · obtain ⟨rfl, s3, s4, s5, s6, s7, rfl⟩ := hP
        rw [rngD_len]
        refine ⟨⟨_, rfl⟩, _, rfl, _, rfl, _, rfl, by rw [List.length_map, List.length_range]; omega, rfl, .fz (nD a), .fz (rowD 8 (m8 a)), s3, s4, s5, s6, s7, ?_⟩
        rw [List.range_succ (n := a), List.map_append]
        rfl
    · obtain ⟨rfl, s1, s2, s3, s4, s5, s6, s7, rfl⟩ := hP
      exact ⟨_, rfl, q⟩
end
end K35
namespace HM
open PySem PySem.Spec PyProof.Rows L2
end HM
namespace VL
open PySem PySem.Spec PyProof.Rows L2 HM
def dicD (kvs : List (List Key × Dt)) : Dt := .dic (kvs.map (·.1)) (kvs.map (·.2))
theorem prk_of {κ : Type} {F : Hp} : ∀ {a : List (κ × V)} {b : List (κ × Dt)}, a.map (·.1) = b.map (·.1) → Rps F (a.map (·.2)) (b.map (·.2)) → PrK F a b
  | [], [], _, _ => .nil
  | x :: a, y :: b, e, h => by
    rw [List.map_cons, List.map_cons] at e
    injection e with e1 e2
    rw [List.map_cons, List.map_cons] at h
    cases h with | cons h t => exact .cons ⟨e1, h⟩ (prk_of e2 t)
  | [], _ :: _, e, _ => by cases e
  | _ :: _, [], e, _ => by cases e
theorem Rp.dic_inv {F : Hp} {v : V} {kvs : List (List Key × Dt)} (h : Rp F v (dicD kvs)) : ∃ a od ks, v = .ref a ∧ F a = some (.frz od (.dT ks)) ∧ PrK F ks kvs := by
  unfold dicD at h
  cases h with | dic h e t => exact ⟨_, _, _, rfl, h, prk_of e t⟩
section
variable {c : Fc} {X : Cx} {a b e o : Expr} {te ta tb : VTE} {pos apos p : Pos}
/-- slot i holds a still dict: what stands at k -/
def hasF (env : Ev) (i : Nat) (d : Dt) (r : Option Dt) : Prop := ∃ kvs k, env[i]? = some (.fz (dicD kvs)) ∧ d = tupD k ∧ r = valD kvs k
theorem hasF.get {F H : Hp} {σ : L2.St} {env : Ev} {n i : Nat} {y : V} {d : Dt} {r : Option Dt} (rr : Rel c F H σ env n) (ry : Rp F y d) (h : hasF env i d r) : ∃ a v, σ[i]? = some (some (.ref a)) ∧ DGet H a y v ∧ ((v = none ∧ r = none) ∨ ∃ x z, v = some x ∧ r = some z ∧ Rp F x z) := by
  obtain ⟨kvs, k, e, rfl, rfl⟩ := h
  obtain ⟨v, g1, rv⟩ := rr.sl i _ e
  obtain ⟨a, od, ks, rfl, hF, pr⟩ := rv.dic_inv
  obtain ⟨bb, rfl, hb⟩ := ry.tupk
  refine ⟨a, valV ks k, g1, .inr ⟨ks, k, bb, .inr ⟨od, rr.sub _ _ hF⟩, rfl, rr.sub _ _ hb, rfl⟩, ?_⟩
  rcases pr.val (k := k) with ⟨h1, h2⟩ | ⟨x, z, h1, h2, h3⟩
  · exact .inl ⟨h1, h2⟩
  · exact .inr ⟨x, z, h1, h2, h3⟩
end
end VL
namespace VL
open PySem PySem.Spec PyProof.Rows L2 HM
def rnd1 : List (Nat × Nat × Nat) := [(7, 3, 2), (5, 4, 2), (3, 4, 2), (4, 4, 3), (8, 2, 3), (3, 8, 2), (9, 2, 8), (6, 4, 5)]
def rnd2 : List (Nat × Nat × Nat) := [(4, 2, 1), (3, 3, 1), (24, 1, 1), (1, 1, 1), (2, 2, 1), (8, 2, 5), (5, 2, 4), (12, 2, 1)]
def rnd3 : List (Nat × Nat × Nat) := [(11, 2, 10), (23, 1, 1), (13, 1, 1), (19, 1, 1), (17, 1, 1)]
def rnD (e : Nat × Nat × Nat) : Dt := .tup [nD e.1, nD e.2.1, nD e.2.2]
def rnB (e : Nat × Nat × Nat) : Bool := decide (0 < e.1) && decide (e.1 ≤ 24) && decide (0 < e.2.1) && decide (e.2.1 ≤ 24) && decide (e.2.2 ≤ 12) && decide (e.1 * e.2.1 ≤ 24) && ((decide (e.1 ≤ 12) && decide (pwB e.1 e.2.2 e.2.1 % e.1 = 1 % e.1)) || (decide (e.2.2 = 1) && decide (1 < e.1)))
def RnOk (x : Dt) : Prop := ∃ s o b, x = .tup [nD s, nD o, nD b] ∧ 0 < s ∧ s ≤ 24 ∧ 0 < o ∧ o ≤ 24 ∧ b ≤ 12 ∧ s * o ≤ 24 ∧ Pws s o (pwB s b)
theorem pw_one {s : Nat} (hs : 1 < s) : ∀ j, pwB s 1 j = 1
  | 0 => rfl
  | j + 1 => by rw [pwB, pw_one hs j, Nat.mul_one, Nat.mod_eq_of_lt hs]
theorem pws_one {s o : Nat} (hs : 1 < s) : Pws s o (pwB s 1) := ⟨fun a => by rw [pw_one hs]; decide, rfl, fun a b _ _ => by rw [pw_one hs, pw_one hs, pw_one hs]⟩
theorem rn_good {e : Nat × Nat × Nat} (h : rnB e = true) : RnOk (rnD e) := by
  unfold rnB at h
  simp only [Bool.and_eq_true, Bool.or_eq_true, decide_eq_true_iff] at h
  obtain ⟨⟨⟨⟨⟨⟨h1, h2⟩, h3⟩, h4⟩, h5⟩, h6⟩, h7⟩ := h
  refine ⟨e.1, e.2.1, e.2.2, rfl, h1, h2, h3, h4, h5, h6, ?_⟩
  rcases h7 with ⟨a, b⟩ | ⟨a, b⟩
  · exact pws_b h1 a b
  · rw [a]; exact pws_one b
theorem rn_all {T : List (Nat × Nat × Nat)} (h : T.all rnB = true) : ∀ x ∈ T.map rnD, RnOk x := fun x hx => by
  obtain ⟨e, he, rfl⟩ := List.mem_map.mp hx
  exact rn_good (List.all_eq_true.mp h e he)
section
variable {V : VEn} {B : VTS} {t : Nat} {env : Ev} {i : Nat} {L : List Dt}
theorem rn_new {ta : VTA} (T : List (Nat × Nat × Nat)) (hl : T.length ≤ 5000) (hta : ∀ Q : List Dt → Ev → Nat → Prop, Q (T.map rnD) env t → ta env t Q) (hT : T.all rnB = true)
    (nx : ∀ L : List Dt, L.length = T.length → (∀ x ∈ L, RnOk x) → B V (env.set i (.fz (.lst L))) t) : vSeq (vSet i (fun env n Q => vLst ta env n fun k env' n' => ∃ ds, k = .lst ds ∧ Q (.lst ds) env' n')) B V env t :=
  hta _ ⟨by rw [List.length_map]; exact hl, _, rfl, nx _ (List.length_map _) (rn_all hT)⟩
theorem rn_cat {te : VTE} (T : List (Nat × Nat × Nat)) (hte : ∀ Q : Dt → Ev → Nat → Prop, Q (.lst (T.map rnD)) env t → te env t Q) (hT : T.all rnB = true) (hi : env[i]? = some (.fz (.lst L))) (hL : ∀ x ∈ L, RnOk x) (hl : L.length + T.length ≤ 5000)
    (nx : ∀ L' : List Dt, L'.length = L.length + T.length → (∀ x ∈ L', RnOk x) → B V (env.set i (.fz (.lst L'))) t) : vSeq (vSet i (fun env n Q => vOpNew dCat (vVar i) te env n fun k env' n' => ∃ ds, k = .lst ds ∧ Q (.lst ds) env' n')) B V env t :=
  ⟨_, hi, hte _ ⟨L, _, rfl, rfl, by rw [List.length_map]; exact hl, _, rfl, nx _ (by rw [List.length_append, List.length_map]) fun x hx => (List.mem_append.mp hx).elim (hL x) (rn_all hT x)⟩⟩
end
theorem rn1 : rnd1.all rnB = true := by decide +kernel
theorem rn2 : rnd2.all rnB = true := by decide +kernel
theorem rn3 : rnd3.all rnB = true := by decide +kernel
theorem prM_at {s o x i y j : Nat} (hi : i < o) (hj : j < o) (pw : Nat → Nat) : prM s o pw (x * o + i) (y * o + j) = (x + pw i * y) % s * o + (i + j) % o := by
  unfold prM
  rw [pr_div hi, pr_div hj, pr_mod hi, pr_mod hj]
theorem pr_more {s o x i y : Nat} (hi : i < o) (pw : Nat → Nat) : (List.range ((y + 1) * o)).map (prM s o pw (x * o + i)) = (List.range (y * o)).map (prM s o pw (x * o + i)) ++ (List.range o).map fun j => (x + pw i * y) % s * o + (i + j) % o := by
  rw [Nat.succ_mul, List.range_add, List.map_append, List.map_map]
  congr 1
  exact List.map_congr_left fun j hj => prM_at hi (List.mem_range.mp hj) pw
def m3 : Nat → Nat → Nat := fun a b => (a + b) % 3
theorem hse3 : Hse 3 m3 := ⟨by omega, fun a b _ _ => by unfold m3; omega, fun a ha => by unfold m3; omega, fun a ha => by unfold m3; omega, fun a b c _ _ _ => by unfold m3; omega, fun a b c _ hb hc h => by unfold m3 at h; omega⟩
theorem tn3 {a : List Nat} (h : Tn 3 a) : a ∈ [[0, 1, 2], [0, 2, 1], [1, 0, 2], [1, 2, 0], [2, 0, 1], [2, 1, 0]] := by
  have hl := h.len
  match a, hl with
  | [x, y, z], _ =>
    have hx := h.lt (x := x) (by simp)
    have hy := h.lt (x := y) (by simp)
    have hz := h.lt (x := z) (by simp)
    have nd := h.nd
    have nd2 : (x ≠ y ∧ x ≠ z) ∧ y ≠ z := by simpa using nd
    have hx : x = 0 ∨ x = 1 ∨ x = 2 := by omega
    have hy : y = 0 ∨ y = 1 ∨ y = 2 := by omega
    have hz : z = 0 ∨ z = 1 ∨ z = 2 := by omega
    rcases hx with rfl | rfl | rfl <;> rcases hy with rfl | rfl | rfl <;> rcases hz with rfl | rfl | rfl <;> first | exact absurd rfl nd2.1.1 | exact absurd rfl nd2.1.2 | exact absurd rfl nd2.2 | simp
theorem few3s {l : List (List Nat)} (nd : l.Nodup) (h : ∀ a ∈ l, Tn 3 a) : l.length ≤ 6 :=
  List.Nodup.length_le_of_subset nd (l₂ := [[0, 1, 2], [0, 2, 1], [1, 0, 2], [1, 2, 0], [2, 0, 1], [2, 1, 0]]) fun x hx => tn3 (h x hx)
theorem nsD_cat (a b : List Nat) : nsD (a ++ b) = nsD a ++ nsD b := List.map_append
end VL
namespace K35
open PySem PySem.Spec PyProof.Rows L2 HM VL
abbrev s_l_rounds : Stmt := topS 11
theorem sc_l_rounds : FnScope ["_law_pen_here", "_law_some", "_law_m", "_law_n", "_law_by", "_law_found", "_law_x", "_law_scale", "_law_i", "_law_row", "_law_y", "_law_j"] ["_law_pen_here"] (defScope s_l_rounds) := ⟨rfl, rfl, rfl, by decide +kernel, rfl, by decide +kernel, by decide +kernel⟩
section
variable {P : Program} {w : World} {K : PySem.W.Frag} {mg : Str → Option Value} {base : Heap} {am : Am} {gd : Around → Prop} {k : Nat}
theorem ok_rounds {p f f_l_take : Addr} {fd fd_l_take : FuncData} (F : Fun K "_law_rounds" "_law_rounds" s_l_rounds f fd)
    (G_l_take : VFn anyA P w K mg base CX0 (k + 1) f_l_take fd_l_take ["_law_pen_here", "_law_many"] am (spTakeB p)) (g_l_take : mg "_law_take" = some (.ref f_l_take)) (k_l_take : PySem.W.keepIn K (.ref f_l_take) = true) (b_l_take : Binds K fd_l_take ["_law_pen_here", "_law_many"] [])
    (mz : ∀ x ∈ bn, mg x = none) : VFn gd P w K mg base CX0 (k + 2) f fd ["_law_pen_here"] am (spHouse p) := by
  refine vfn_of F sc_l_rounds (fun ds n Q E h => ?_) ⟨_, fun cdv A out s H E F0 H0 hcd hgd hr =>
    (vss_cons (vs_set (i := 1) sc_l_rounds.nd rfl (.inl rfl) (ve_new (vn_lst (va_cons (ve_tupK (ka_cons ve_int (ka_cons ve_int (ka_cons ve_int ka_nil))) (by decide)) (va_cons (ve_tupK (ka_cons ve_int (ka_cons ve_int (ka_cons ve_int ka_nil))) (by decide)) (va_cons (ve_tupK (ka_cons ve_int (ka_cons ve_int (ka_cons ve_int ka_nil))) (by decide)) (va_cons (ve_tupK (ka_cons ve_int (ka_cons ve_int (ka_cons ve_int ka_nil))) (by decide)) (va_cons (ve_tupK (ka_cons ve_int (ka_cons ve_int (ka_cons ve_int ka_nil))) (by decide)) (va_cons (ve_tupK (ka_cons ve_int (ka_cons ve_int (ka_cons ve_int ka_nil))) (by decide)) (va_cons (ve_tupK (ka_cons ve_int (ka_cons ve_int (ka_cons ve_int ka_nil))) (by decide)) (va_cons (ve_tupK (ka_cons ve_int (ka_cons ve_int (ka_cons ve_int ka_nil))) (by decide)) va_nil)))))))))))
      (vss_cons (vs_set (i := 1) sc_l_rounds.nd rfl (.inl rfl) (ve_new (vn_op op_cat lft_cat (ve_var (pv 1)) (ve_lstK (ka_cons (ve_tupK (ka_cons ve_int (ka_cons ve_int (ka_cons ve_int ka_nil))) (by decide)) (ka_cons (ve_tupK (ka_cons ve_int (ka_cons ve_int (ka_cons ve_int ka_nil))) (by decide)) (ka_cons (ve_tupK (ka_cons ve_int (ka_cons ve_int (ka_cons ve_int ka_nil))) (by decide)) (ka_cons (ve_tupK (ka_cons ve_int (ka_cons ve_int (ka_cons ve_int ka_nil))) (by decide)) (ka_cons (ve_tupK (ka_cons ve_int (ka_cons ve_int (ka_cons ve_int ka_nil))) (by decide)) (ka_cons (ve_tupK (ka_cons ve_int (ka_cons ve_int (ka_cons ve_int ka_nil))) (by decide)) (ka_cons (ve_tupK (ka_cons ve_int (ka_cons ve_int (ka_cons ve_int ka_nil))) (by decide)) (ka_cons (ve_tupK (ka_cons ve_int (ka_cons ve_int (ka_cons ve_int ka_nil))) (by decide)) ka_nil)))))))) (by decide)))))
      (vss_cons (vs_set (i := 1) sc_l_rounds.nd rfl (.inl rfl) (ve_new (vn_op op_cat lft_cat (ve_var (pv 1)) (ve_lstK (ka_cons (ve_tupK (ka_cons ve_int (ka_cons ve_int (ka_cons ve_int ka_nil))) (by decide)) (ka_cons (ve_tupK (ka_cons ve_int (ka_cons ve_int (ka_cons ve_int ka_nil))) (by decide)) (ka_cons (ve_tupK (ka_cons ve_int (ka_cons ve_int (ka_cons ve_int ka_nil))) (by decide)) (ka_cons (ve_tupK (ka_cons ve_int (ka_cons ve_int (ka_cons ve_int ka_nil))) (by decide)) (ka_cons (ve_tupK (ka_cons ve_int (ka_cons ve_int (ka_cons ve_int ka_nil))) (by decide)) ka_nil))))) (by decide)))))
      (vss_cons (vs_asg (ve_ixO (pv 1) (ve_call G_l_take trivial (hr.mono (by omega)) (by rfl) g_l_take k_l_take b_l_take pass0 (va_cons (ve_var (pv 0)) (va_cons ve_int va_nil))) (fun _ _ => rfl)) (vg_tup (m := 3) rfl (vgs_cons (vg_name (pg_name (i := 2) sc_l_rounds.nd rfl (.inr rfl))) (vgs_cons (vg_name (pg_name (i := 3) sc_l_rounds.nd rfl (.inr rfl))) (vgs_cons (vg_name (pg_name (i := 4) sc_l_rounds.nd rfl (.inl rfl))) vgs_nil)))))
      (vss_cons (vs_setN (i := 5) sc_l_rounds.nd rfl (.inl rfl) (vn_lst va_nil))
      (vss_cons (vs_for PassesOwn.never rfl (vi_range1 (by rfl) (mz "range" (by decide)) (vb_cons (ve_var (pv 2)) vb_nil)) (vg_name (pg_name (i := 6) sc_l_rounds.nd rfl (.inr rfl)))
        (vss_cons (vs_set (i := 7) sc_l_rounds.nd rfl (.inr rfl) ve_int)
        (vss_one (vs_for PassesOwn.never rfl (vi_range1 (by rfl) (mz "range" (by decide)) (vb_cons (ve_var (pv 3)) vb_nil)) (vg_name (pg_name (i := 8) sc_l_rounds.nd rfl (.inr rfl)))
          (vss_cons (vs_setN (i := 9) sc_l_rounds.nd rfl (.inl rfl) (vn_lst va_nil))
          (vss_cons (vs_for PassesOwn.never rfl (vi_range1 (by rfl) (mz "range" (by decide)) (vb_cons (ve_var (pv 2)) vb_nil)) (vg_name (pg_name (i := 10) sc_l_rounds.nd rfl (.inr rfl)))
            (vss_one (vs_expr (ve_m (pe_bm PySem.F.plainAttrs_list PySem.F.slot_list_extend PySem.F.type_list_extend mt_extend (pv 9) (va_cons (ve_new (vn_lc (own := [("_law_j", 11)]) rfl sc_l_rounds.nd (vi_range1 (by rfl) (mz "range" (by decide)) (vb_cons (ve_var (pv 3)) vb_nil)) (blkOk_by (own := [("_law_j", 11)]) (N := ["_law_pen_here", "_law_some", "_law_m", "_law_n", "_law_by", "_law_found", "_law_x", "_law_scale", "_law_i", "_law_row", "_law_y", "_law_j"]) (sc := defScope s_l_rounds) (by decide +kernel)) (tg_name (by simp)) (fun _ _ _ _ _ => (pg_name (i := 11) sc_l_rounds.nd rfl (.inl rfl))) (fun _ _ _ _ _ _ _ => vts_nil) (fun _ _ _ _ _ _ _ => (ve_op op_add lft_I0 (ve_op op_mul lft_I (ve_op op_mod lft_I (ve_op op_add lft_I0 (ve_var (pv 6)) (ve_op op_mul lft_I (ve_var (pv 7)) (ve_var (pv 10)))) (ve_var (pv 2))) (ve_var (pv 3))) (ve_op op_mod lft_I (ve_op op_add lft_I0 (ve_var (pv 8)) (ve_var (pv 11))) (ve_var (pv 3))))))) va_nil)) lft_extend))))
          (vss_cons (vs_expr (ve_m (pe_bm PySem.F.plainAttrs_list PySem.F.slot_list_append PySem.F.type_list_append mt_append (pv 5) (va_cons (ve_mv (pv 9)) va_nil)) lft_append))
          (vss_one (vs_set (i := 7) sc_l_rounds.nd rfl (.inr rfl) (ve_op op_mod lft_I (ve_op op_mul lft_I (ve_var (pv 7)) (ve_var (pv 4))) (ve_var (pv 2))))))))))))
      (vss_one (vs_ret (ve_mv (pv 5)))))))))), fun ds t Q E h => ?_⟩
  · obtain ⟨rfl, _⟩ := h
    rfl
  · obtain ⟨rfl, q⟩ := h
    refine rn_new rnd1 (by decide) (fun Q q => q) rn1 fun L1 hl1 hL1 => ?_
    refine rn_cat rnd2 (fun Q q => q) rn2 rfl hL1 (by rw [hl1]; decide) fun L2 hl2 hL2 => ?_
    rw [hl1] at hl2
    refine rn_cat rnd3 (fun Q q => q) rn3 rfl hL2 (by rw [hl2]; decide) fun L3 hl3 hL3 => ?_
    rw [hl2] at hl3
    have hl3 : L3.length = 21 := hl3
    refine ⟨⟨_, .inl rfl⟩, _, rfl, 21, rfl, by decide, by decide, fun r hr => ?_⟩
    obtain ⟨x, hx⟩ : ∃ x, L3[r]? = some x := ⟨_, List.getElem?_eq_getElem (by rw [hl3]; exact hr)⟩
    obtain ⟨s, o, b, rfl, hs, hs24, ho, ho24, hb, hso, hpw⟩ := hL3 x (List.mem_of_getElem? hx)
    refine ⟨_, _, _, .inl rfl, rfl, atI_nat hx, _, rfl, rfl, _, _, rfl, _, _, rfl, _, _, rfl, rfl, ?_⟩
    obtain ⟨l3, el3⟩ : ∃ l3, l3 = Sl.fz (.lst L3) := ⟨_, rfl⟩
    show vSeq _ _ _ [.fz (.obj p), .fz (.lst L3), .fz (nD s), .fz (nD o), .fz (nD b), .no, .no, .no, .no, .no, .no, .no] t
    rw [← el3]
    refine ⟨Nat.zero_le _, ?_⟩
    refine ⟨_, rfl, s, rfl, ⟨by omega, by omega⟩, fun x env t' => t' = t ∧ ∃ s6 s7 s8 s9 s10, env = [.fz (.obj p), l3, .fz (nD s), .fz (nD o), .fz (nD b), .ow (.lst ((List.range (x * o)).map fun a => rowD (s * o) (prM s o (pwB s b) a))), s6, s7, s8, s9, s10, .no], ⟨rfl, .no, .no, .no, .no, .no, by rw [Nat.zero_mul]; rfl⟩, fun x d env t' hx hP => ?_, fun env t' hP => ?_⟩
    · obtain ⟨rfl, s6, s7, s8, s9, s10, rfl⟩ := hP
      obtain ⟨rfl, hxs⟩ := rngD_get0 hx
      have hxs : x < s := by have : x < ((s : Nat) : Int).toNat := hxs; omega
      refine ⟨_, rfl, o, rfl, ⟨by omega, by omega⟩, fun i env t2 => t2 = t' ∧ ∃ s8 s9 s10, env = [.fz (.obj p), l3, .fz (nD s), .fz (nD o), .fz (nD b), .ow (.lst ((List.range (x * o + i)).map fun a => rowD (s * o) (prM s o (pwB s b) a))), .fz (nD x), .fz (nD (pwB s b i)), s8, s9, s10, .no], ⟨rfl, _, _, _, rfl⟩, fun i d env t2 hx hP => ?_, fun env t2 hP => ?_⟩
      · obtain ⟨rfl, s8, s9, s10, rfl⟩ := hP
        obtain ⟨rfl, hi⟩ := rngD_get0 hx
        have hi : i < o := by have : i < ((o : Nat) : Int).toNat := hi; omega
        have hrow : x * o + i < s * o := pair_lt2 hxs hi
        have hpb := hpw.bd i
        refine ⟨Nat.zero_le _, ?_⟩
        refine ⟨_, rfl, s, rfl, ⟨by omega, by omega⟩, fun y env t3 => t3 = t2 ∧ ∃ s10, env = [.fz (.obj p), l3, .fz (nD s), .fz (nD o), .fz (nD b), .ow (.lst ((List.range (x * o + i)).map fun a => rowD (s * o) (prM s o (pwB s b) a))), .fz (nD x), .fz (nD (pwB s b i)), .fz (nD i), .ow (.lst (nsD ((List.range (y * o)).map (prM s o (pwB s b) (x * o + i))))), s10, .no], ⟨rfl, _, by rw [Nat.zero_mul]; rfl⟩, fun y d env t3 hx hP => ?_, fun env t3 hP => ?_⟩
        · obtain ⟨rfl, s10, rfl⟩ := hP
          obtain ⟨rfl, hy⟩ := rngD_get0 hx
          have hy : y < s := by have : y < ((s : Nat) : Int).toNat := hy; omega
          have hyo : y * o ≤ s * o := Nat.mul_le_mul_right _ (by omega)
          refine ⟨⟨_, rfl⟩, _, rfl, o, rfl, ⟨by omega, by omega⟩, ?_⟩
          refine lc_map (i := 11) (fun j => nD ((x + pwB s b i * y) % s * o + (i + j) % o)) (.head _) (noOw1 rfl no_ow) (by rw [rngD_len]; omega) (fun j d hx R hR => ?_) ?_
          · obtain ⟨rfl, hj⟩ := rngD_get0 hx
            have e : ((((x : Nat) : Int) + ((pwB s b i : Nat) : Int) * ((y : Nat) : Int)) % ((s : Nat) : Int)) * ((o : Nat) : Int) + (((i : Nat) : Int) + ((j : Nat) : Int)) % ((o : Nat) : Int) = (((x + pwB s b i * y) % s * o + (i + j) % o : Nat) : Int) := by push_cast; rfl
            have hms : (((x : Nat) : Int) + ((pwB s b i : Nat) : Int) * ((y : Nat) : Int)) % ((s : Nat) : Int) = (((x + pwB s b i * y) % s : Nat) : Int) := by push_cast; rfl
            have hlt := Nat.mod_lt (x + pwB s b i * y) hs
            refine ⟨_, rfl, _, rfl, _, rfl, _, _, rfl, rfl, .inr ⟨by omega, by omega⟩, _, _, rfl, rfl, _, rfl, _, _, rfl, rfl, (by show (0 : Int) < (s : Nat); omega), _, rfl, _, _, rfl, rfl, .inr ⟨by omega, by omega⟩, _, rfl, _, rfl, _, _, rfl, rfl, _, rfl, _, _, rfl, rfl, (by show (0 : Int) < (o : Nat); omega), _, _, rfl, rfl, ?_⟩
            show R (.int (((((x : Nat) : Int) + ((pwB s b i : Nat) : Int) * ((y : Nat) : Int)) % ((s : Nat) : Int)) * ((o : Nat) : Int) + (((i : Nat) : Int) + ((j : Nat) : Int)) % ((o : Nat) : Int))) _ _
            rw [e]
            exact hR
          · refine ⟨_, rfl, _, rfl, _, rfl, ?_, rfl, .fz (nD y), ?_⟩
            · rw [nsD_len, List.length_map, List.length_range, List.length_map, List.length_range, rngD_len]
              omega
            · rw [pr_more hi, rngD_len, nsD_cat]
              rw [show (List.range ((o : Nat) : Int).toNat).map (fun j => nD ((x + pwB s b i * y) % s * o + (i + j) % o)) = nsD ((List.range o).map fun j => (x + pwB s b i * y) % s * o + (i + j) % o) by unfold nsD; rw [List.map_map, Int.toNat_natCast]; rfl]
              rfl
        · obtain ⟨rfl, s10, rfl⟩ := hP
          rw [rngD_len]
          refine ⟨⟨_, rfl⟩, _, rfl, _, rfl, _, rfl, by rw [List.length_map, List.length_range]; omega, ?_⟩
          refine ⟨_, rfl, _, rfl, _, _, rfl, rfl, .inr ⟨by omega, by omega⟩, _, rfl, _, _, rfl, rfl, (by show (0 : Int) < (s : Nat); omega), ?_⟩
          refine ⟨rfl, .fz (nD i), .fz (rowD (s * o) (prM s o (pwB s b) (x * o + i))), s10, ?_⟩
          rw [show x * o + (i + 1) = (x * o + i) + 1 from rfl, List.range_succ (n := x * o + i), List.map_append, Int.toNat_natCast, show nD (pwB s b (i + 1)) = .int (((pwB s b i : Nat) : Int) * ((b : Nat) : Int) % ((s : Nat) : Int)) by show Dt.int ((pwB s b i * b % s : Nat) : Int) = _; push_cast; rfl]
          rfl
      · obtain ⟨rfl, s8, s9, s10, rfl⟩ := hP
        rw [rngD_len, Int.toNat_natCast]
        exact ⟨rfl, .fz (nD x), _, s8, s9, s10, by rw [Nat.succ_mul]⟩
    · obtain ⟨rfl, s6, s7, s8, s9, s10, rfl⟩ := hP
      rw [rngD_len, Int.toNat_natCast]
      exact ⟨_, rfl, q _ _ (hse_pairs hs ho hpw) (by omega)⟩
end
end K35
namespace K35
open PySem PySem.Spec PyProof.Rows L2 HM VL
abbrev s_l_anew : Stmt := topS 14
theorem sc_l_anew : FnScope ["_law_pen_here", "_law_house_here", "_law_k", "_law_order", "_law_row", "_law_found", "_law_a", "_law_b", "_law_number"] ["_law_pen_here", "_law_house_here"] (defScope s_l_anew) := ⟨rfl, rfl, rfl, by decide +kernel, rfl, by decide +kernel, by decide +kernel⟩
section
variable {P : Program} {w : World} {K : PySem.W.Frag} {mg : Str → Option Value} {base : Heap} {am : Am} {gd : Around → Prop} {k : Nat}
theorem ok_anew {p : Addr} {f f_l_turn : Addr} {fd fd_l_turn : FuncData} (F : Fun K "_law_anew" "_law_anew" s_l_anew f fd) (G_l_turn : VFn anyA P w K mg base CX0 (k + 2) f_l_turn fd_l_turn ["_law_pen_here", "_law_many"] am (spTurn p)) (g_l_turn : mg "_law_turn" = some (.ref f_l_turn)) (k_l_turn : PySem.W.keepIn K (.ref f_l_turn) = true) (b_l_turn : Binds K fd_l_turn ["_law_pen_here", "_law_many"] [])
    (mz : ∀ x ∈ bn, mg x = none) : VFn gd P w K mg base CX0 (k + 3) f fd ["_law_pen_here", "_law_house_here"] am (spRen p) := by
  refine vfn_ofX F sc_l_anew (fun ds n Q E h => ?_) ⟨fun F0 H0 => _, fun cdv A out s H E F0 H0 hcd hgd hr =>
    (xss_out (xss_cons (xs_lift fun H0 => (vs_set (i := 3) sc_l_anew.nd rfl (.inl rfl) (ve_new (vn_op op_cat lft_cat (ve_lstK (ka_cons ve_int ka_nil) (by decide)) (ve_new (vn_lc (own := [("_law_k", 2)]) rfl sc_l_anew.nd (vi_tup (ve_call G_l_turn trivial (hr.mono (by omega)) (by rfl) g_l_turn k_l_turn b_l_turn pass0 (va_cons (ve_var (pv 0)) (va_cons (ve_op op_sub lft_I0 (ve_cbR call_len_seq lft_len (by rfl) (mz "len" (by decide)) PySem.boot_len (vb_rd (pv 1) vb_nil)) ve_int) va_nil)))) (blkOk_by (own := [("_law_k", 2)]) (N := ["_law_pen_here", "_law_house_here", "_law_k", "_law_order", "_law_row", "_law_found", "_law_a", "_law_b", "_law_number"]) (sc := defScope s_l_anew) (by decide +kernel)) (tg_name (by simp)) (fun _ _ _ _ _ => (pg_name (i := 2) sc_l_anew.nd rfl (.inl rfl))) (fun _ _ _ _ _ _ _ => vts_nil) (fun _ _ _ _ _ _ _ => (ve_op op_add lft_I0 ve_int (ve_var (pv 2))))))))))
      (xss_cons (xs_setLcRows (i := 5) (iv := 4) (own := [("_law_row", 4)]) rfl sc_l_anew.nd rfl rfl (sw_true rfl rfl rfl (by decide +kernel)) (fun H0 => (vi_list (ve_var (pv 1)))) (blkOk_by (own := [("_law_row", 4)]) (N := ["_law_pen_here", "_law_house_here", "_law_k", "_law_order", "_law_row", "_law_found", "_law_a", "_law_b", "_law_number"]) (sc := defScope s_l_anew) (by decide +kernel)) (fun _ _ _ _ _ => (pg_name (i := 4) sc_l_anew.nd rfl (.inl rfl))) (fun H0 _ _ _ _ _ => (vn_op op_rep lft_rep (ve_lstK (ka_cons ve_int ka_nil) (by decide)) (ve_cbR call_len_seq lft_len (by rfl) (mz "len" (by decide)) PySem.boot_len (vb_rd (pv 1) vb_nil)))))
      (xss_cons (xs_for PassesOwn.never rfl (fun H0 => (vi_enum (by rfl) (mz "enumerate" (by decide)) (va_cons (ve_var (pv 1)) va_nil))) (fun H0 => (vg_tup (m := 2) rfl (vgs_cons (vg_name (pg_name (i := 6) sc_l_anew.nd rfl (.inl rfl))) (vgs_cons (vg_name (pg_name (i := 4) sc_l_anew.nd rfl (.inl rfl))) vgs_nil))))
        (xss_one (xs_for PassesOwn.never rfl (fun H0 => (vi_enum (by rfl) (mz "enumerate" (by decide)) (va_cons (ve_var (pv 4)) va_nil))) (fun H0 => (vg_tup (m := 2) rfl (vgs_cons (vg_name (pg_name (i := 7) sc_l_anew.nd rfl (.inl rfl))) (vgs_cons (vg_name (pg_name (i := 8) sc_l_anew.nd rfl (.inl rfl))) vgs_nil))))
          (xss_one (xs_row (fun H0 => (ve_ixO (pv 5) (ve_ixO (pv 3) (ve_var (pv 6)) (fun _ _ => rfl)) (fun _ _ => rfl))) (fun H0 => (ve_ixO (pv 3) (ve_var (pv 7)) (fun _ _ => rfl))) (fun H0 => (ve_ixO (pv 3) (ve_var (pv 8)) (fun _ _ => rfl))))))))
      (xss_one (xs_retRows (pv 5))))))), fun F0 H0 ds t Q E h => ?_⟩
  · obtain ⟨n, m, rfl, _⟩ := h
    rfl
  · obtain ⟨n, m, rfl, hH, hn, q⟩ := h
    have hp := hH.pos
    have hlen : ((List.range n).map fun a => rowD n (m a)).length = n := by rw [List.length_map, List.length_range]
    refine ⟨_, rfl, ⟨_, .inl rfl⟩, _, .inl rfl, _, .inl rfl, rfl, _, _, rfl, rfl, n - 1, by rw [hlen]; show [_, Dt.int ((n : Int) - 1)] = [_, Dt.int ((n - 1 : Nat) : Int)]; rw [show ((n : Int) - 1) = ((n - 1 : Nat) : Int) by omega], by omega, fun l hl => ⟨_, rfl, ?_⟩⟩
    have hll := hl.len
    refine lc_map (i := 2) (fun j => nD (1 + tA l j)) (.head _) (noOw1 rfl no_ow) (by rw [nsD_len]; omega) (fun j x hx R hR => ?_) ?_
    · unfold nsD at hx
      rw [List.getElem?_map] at hx
      obtain ⟨y, hy, rfl⟩ := Option.map_eq_some_iff.mp hx
      have ey : tA l j = y := by
        have := tA_get (List.getElem?_eq_some_iff.mp hy).1
        rw [hy] at this
        exact (Option.some.inj this).symm
      rw [ey, show nD (1 + y) = .int (1 + ((y : Nat) : Int)) by show Dt.int ((1 + y : Nat) : Int) = _; push_cast; rfl] at hR
      exact ⟨_, rfl, _, _, rfl, rfl, hR⟩
    rw [show (List.range (nsD l).length).map (fun j => nD (1 + tA l j)) = nsD (l.map (1 + ·)) by
      unfold nsD
      rw [List.length_map, List.map_map]
      refine List.ext_getElem? fun j => ?_
      rw [List.getElem?_map, List.getElem?_map]
      by_cases hj : j < l.length
      · rw [List.getElem?_range hj, tA_get hj]; rfl
      · rw [List.getElem?_eq_none (by rw [List.length_range]; omega), List.getElem?_eq_none (by omega)]; rfl]
    have ho : Tn n (0 :: l.map (1 + ·)) := tn_cons hp (by
      have : (fun x : Nat => 1 + x) = (· + 1) := by funext x; omega
      rw [this]
      exact List.Perm.map _ hl)
    generalize hoe : (0 :: l.map (1 + ·)) = o at ho
    have ho0 : tA o 0 = 0 := by rw [← hoe]; rfl
    refine ⟨_, rfl, _, _, rfl, rfl, by rw [nsD_len, List.length_map]; show 1 + l.length ≤ 5000; omega, _, rfl, ?_⟩
    rw [show [Dt.int 0] ++ nsD (l.map (1 + ·)) = nsD o by rw [← hoe]; rfl]
    refine ⟨_, rfl, _, rfl, noOw1 (s := .no) rfl no_ow, by rw [hlen]; omega, List.mem_cons_self, fun _ => List.replicate n 0, fun i x hx R hR => ?_, ?_⟩
    · refine ⟨⟨_, .inl rfl⟩, _, .inl rfl, _, .inl rfl, rfl, [.int 0], n, rfl, by rw [hlen], by omega, by show 1 * n ≤ 5000; omega, ?_⟩
      rw [rep_ints]
      exact hR
    rw [hlen]
    intro A mo
    refine ⟨_, rfl, _, rfl, fun a H1 env t2 => t2 = t ∧ ∃ r s4 s6 s7 s8, H1 = mat H0 n A r ∧ env = [.fz (.obj p), .fz (houD n m), .no, .fz (.lst (nsD o)), s4, .ow (.lst (objD n A)), s6, s7, s8] ∧ (∀ i, i < n → (r i).length = n) ∧ ∀ a' b', a' < a → b' < n → (r (tA o a'))[tA o b']? = some ((tA o (m a' b') : Nat) : Int), ⟨rfl, _, .no, .no, .no, .no, rfl, rfl, fun i _ => List.length_replicate, fun a' _ h => absurd h (Nat.not_lt_zero _)⟩, fun a x H1 env t2 hx hP => ?_, fun H1 env t2 hP => ?_⟩
    · obtain ⟨rfl, r, s4, s6, s7, s8, rfl, rfl, hl, hr⟩ := hP
      obtain ⟨y, hy, rfl⟩ := enD_get hx
      rw [List.getElem?_map] at hy
      obtain ⟨a0, ha0, rfl⟩ := Option.map_eq_some_iff.mp hy
      have ha : a < n := by have := (List.getElem?_eq_some_iff.mp ha0).1; rwa [List.length_range] at this
      rw [List.getElem?_range ha] at ha0
      cases ha0
      refine ⟨_, rfl, rfl, _, _, rfl, _, _, rfl, rfl, ?_⟩
      refine ⟨_, rfl, _, rfl, fun b H1 env t3 => t3 = t2 ∧ ∃ r s7 s8, H1 = mat H0 n A r ∧ env = [.fz (.obj p), .fz (houD n m), .no, .fz (.lst (nsD o)), .fz (rowD n (m a)), .ow (.lst (objD n A)), .fz (nD a), s7, s8] ∧ (∀ i, i < n → (r i).length = n) ∧ ∀ a' b', (a' < a ∨ (a' = a ∧ b' < b)) → b' < n → (r (tA o a'))[tA o b']? = some ((tA o (m a' b') : Nat) : Int), ⟨rfl, r, s7, s8, rfl, rfl, hl, fun a' b' h hb => hr a' b' (by omega) hb⟩, fun b x H1 env t3 hx hP => ?_, fun H1 env t3 hP => ?_⟩
      · obtain ⟨rfl, r, s7, s8, rfl, rfl, hl, hr⟩ := hP
        obtain ⟨y, hy, rfl⟩ := enD_get hx
        unfold nsD at hy
        rw [List.getElem?_map, List.getElem?_map] at hy
        obtain ⟨y1, hy1, rfl⟩ := Option.map_eq_some_iff.mp hy
        obtain ⟨y2, hy2, rfl⟩ := Option.map_eq_some_iff.mp hy1
        have hb : b < n := by have := (List.getElem?_eq_some_iff.mp hy2).1; rwa [List.length_range] at this
        rw [List.getElem?_range hb] at hy2
        cases hy2
        have hmab := hH.lt a b ha hb
        have hoa := ho.at_lt ha
        have hob := ho.at_lt hb
        refine ⟨_, rfl, rfl, _, _, rfl, _, _, rfl, rfl, ?_⟩
        refine ⟨⟨_, .inl rfl⟩, _, rfl, _, _, _, .inl rfl, rfl, nsD_tA (by rw [ho.len]; exact hmab), ?_⟩
        refine ⟨⟨_, .inr ⟨_, rfl, rfl⟩⟩, ⟨_, .inl rfl⟩, _, rfl, _, _, _, .inl rfl, rfl, nsD_tA (by rw [ho.len]; exact ha), _, _, _, .inr ⟨_, rfl, rfl⟩, rfl, objD_at hoa, ?_⟩
        refine ⟨⟨_, .inl rfl⟩, _, rfl, _, _, _, .inl rfl, rfl, nsD_tA (by rw [ho.len]; exact hb), ?_⟩
        refine ⟨H0, n, A, r, tA o a, tA o b, _, rfl, mo, rfl, hoa, rfl, by rw [hl _ hoa]; exact hob, rfl, rfl, _, _, _, rfl, rfl, fun i hi => ?_, fun a' b' h hb' => ?_⟩
        · by_cases z : i = tA o a
          · rw [if_pos z, List.length_set]; exact hl _ hoa
          · rw [if_neg z]; exact hl i hi
        · by_cases z : a' = a
          · subst z
            rw [if_pos rfl]
            by_cases z2 : b' = b
            · subst z2
              rw [List.getElem?_set_self (by rw [hl _ hoa]; exact hob)]
            · rw [List.getElem?_set_ne fun e => z2 (ho.inj hb' hb e.symm)]
              exact hr a' b' (by omega) hb'
          · have ha' : a' < n := by omega
            rw [if_neg fun e => z (ho.inj ha' ha e)]
            exact hr a' b' (by omega) hb'
      · obtain ⟨rfl, r, s7, s8, rfl, rfl, hl, hr⟩ := hP
        rw [enD_len, nsD_len, List.length_map, List.length_range] at hr
        exact ⟨rfl, r, _, _, s7, s8, rfl, rfl, hl, fun a' b' h hb => hr a' b' (by omega) hb⟩
    · obtain ⟨rfl, r, s4, s6, s7, s8, rfl, rfl, hl, hr⟩ := hP
      rw [enD_len, hlen] at hr
      have hr2 : ∀ i j, i < n → j < n → ∃ k : Nat, (r i)[j]? = some (k : Int) := fun i j hi hj => by
        obtain ⟨a, ha, rfl⟩ := ho.onto hi
        obtain ⟨b, hb, rfl⟩ := ho.onto hj
        exact ⟨_, hr a b (by omega) hb⟩
      refine ⟨H0, n, A, r, rfl, mo, rfl, rfl, ?_⟩
      rw [rows_hou hl hr2]
      refine q _ (hse_ren hH ho ho0 fun a b ha hb => ?_)
      show ((r (tA o a)).getD (tA o b) 0).toNat = _
      rw [List.getD_eq_getElem?_getD, hr a b (by omega) hb]
      rfl
end
end K35
namespace VL
open PySem PySem.Spec PyProof.Rows L2 HM
/-- the numbers below n move the things below N -/
structure Act (n : Nat) (m : Nat → Nat → Nat) (N : Nat) (a : Nat → Nat → Nat) : Prop where
  lt : ∀ x g, x < N → g < n → a x g < N
  ze : ∀ x, x < N → a x 0 = x
  mu : ∀ x g k, x < N → g < n → k < n → a (a x g) k = a x (m g k)
def hld (n : Nat) (a : Nat → Nat → Nat) (x : Nat) : List Nat := (List.range n).filter fun g => decide (a x g = x)
def orb (n N : Nat) (a : Nat → Nat → Nat) (x : Nat) : List Nat := (List.range N).filter fun y => (List.range n).any fun g => decide (a x g = y)
def fst1 (n : Nat) (a : Nat → Nat → Nat) (x : Nat) : Bool := (List.range n).all fun g => decide (x ≤ a x g)
def fsts (n N : Nat) (a : Nat → Nat → Nat) : List Nat := (List.range N).filter (fst1 n a)
def pcs (n N : Nat) (a : Nat → Nat → Nat) : List (List Nat) := (fsts n N a).map (orb n N a)
section
variable {n : Nat} {m : Nat → Nat → Nat} {N : Nat} {a : Nat → Nat → Nat}
theorem Act.of_mov (M : Mov m (List.range n) N a) : Act n m N a :=
  ⟨fun x g hx hg => M.lt x g hx (List.mem_range.mpr hg), M.ze, fun x g k hx hg hk => M.mu x g k hx (List.mem_range.mpr hg) (List.mem_range.mpr hk)⟩
theorem orb_mem {x y : Nat} : y ∈ orb n N a x ↔ y < N ∧ ∃ g, g < n ∧ a x g = y := by
  unfold orb
  rw [List.mem_filter, List.mem_range, List.any_eq_true]
  exact and_congr_right fun _ => ⟨fun ⟨g, hg, e⟩ => ⟨g, List.mem_range.mp hg, of_decide_eq_true e⟩, fun ⟨g, hg, e⟩ => ⟨g, List.mem_range.mpr hg, decide_eq_true e⟩⟩
theorem fst1_iff {x : Nat} : fst1 n a x = true ↔ ∀ g, g < n → x ≤ a x g := by
  unfold fst1
  rw [List.all_eq_true]
  exact ⟨fun h g hg => of_decide_eq_true (h g (List.mem_range.mpr hg)), fun h g hg => decide_eq_true (h g (List.mem_range.mp hg))⟩
theorem fsts_mem {x : Nat} : x ∈ fsts n N a ↔ x < N ∧ ∀ g, g < n → x ≤ a x g := by
  unfold fsts
  rw [List.mem_filter, List.mem_range, fst1_iff]
theorem orb_up (x : Nat) : (orb n N a x).Pairwise (· < ·) := List.Pairwise.filter _ List.pairwise_lt_range
theorem Act.back (h : Hse n m) (A : Act n m N a) {x g : Nat} (hx : x < N) (hg : g < n) : ∃ k, k < n ∧ m g k = 0 ∧ m k g = 0 ∧ a (a x g) k = x := by
  obtain ⟨k, hk, e1, e2⟩ := h.inv2 hg
  exact ⟨k, hk, e1, e2, by rw [A.mu x g k hx hg hk, e1, A.ze x hx]⟩
theorem orb_self (h : Hse n m) (A : Act n m N a) {x : Nat} (hx : x < N) : x ∈ orb n N a x := orb_mem.mpr ⟨hx, 0, h.pos, A.ze x hx⟩
theorem fst_ex (h : Hse n m) (A : Act n m N a) : ∀ (b x : Nat), x < b → x < N → ∃ z ∈ fsts n N a, x ∈ orb n N a z
  | 0, _, hb, _ => absurd hb (Nat.not_lt_zero _)
  | b + 1, x, hb, hx => by
    by_cases e : ∀ g, g < n → x ≤ a x g
    · exact ⟨x, fsts_mem.mpr ⟨hx, e⟩, orb_self h A hx⟩
    · obtain ⟨g, hg, hl⟩ : ∃ g, g < n ∧ a x g < x := Classical.byContradiction fun z => e fun g hg => Nat.le_of_not_lt fun w => z ⟨g, hg, w⟩
      obtain ⟨z, hz, hm⟩ := fst_ex h A b (a x g) (by omega) (A.lt x g hx hg)
      obtain ⟨k, hk, _, _, e3⟩ := A.back h hx hg
      obtain ⟨_, u, hu, e4⟩ := orb_mem.mp hm
      have hzN := (fsts_mem.mp hz).1
      exact ⟨z, hz, orb_mem.mpr ⟨hx, m u k, h.lt u k hu hk, by rw [← A.mu z u k hzN hu hk, e4, e3]⟩⟩
end
section
variable {n : Nat} {m : Nat → Nat → Nat} {N : Nat} {a : Nat → Nat → Nat} {ks : List (List Nat)} {L K : List Nat}
open Classical in
/-- the number of a part's kind -/
noncomputable def kdx (n : Nat) (m : Nat → Nat → Nat) (ks : List (List Nat)) (L : List Nat) : Nat := ks.findIdx fun K => decide (∃ g, g < n ∧ Led n m L g K)
theorem kdx_is (h : Hse n m) (k : IsKinds n m ks) (s : Sub n m L) : ∃ K, ks[kdx n m ks L]? = some K ∧ ∃ g, g < n ∧ Led n m L g K := by
  classical
  obtain ⟨K, hK, g, hg, e⟩ := k.all L s
  have hl : kdx n m ks L < ks.length := List.findIdx_lt_length_of_exists ⟨K, hK, decide_eq_true ⟨g, hg, e⟩⟩
  refine ⟨ks[kdx n m ks L], List.getElem?_eq_getElem hl, ?_⟩
  have := List.findIdx_getElem (xs := ks) (p := fun K => decide (∃ g, g < n ∧ Led n m L g K)) (w := hl)
  exact of_decide_eq_true this
theorem kdx_eq (h : Hse n m) (k : IsKinds n m ks) (s : Sub n m L) {i : Nat} (hi : ks[i]? = some K) {g : Nat} (hg : g < n) (e : Led n m L g K) : kdx n m ks L = i := by
  obtain ⟨K2, h2, g2, hg2, e2⟩ := kdx_is h k s
  obtain ⟨b, hb, e3, e4⟩ := h.inv2 hg
  have hK := List.mem_of_getElem? hi
  have l1 : Led n m K b L := Led.back h s hg hb e3 e
  have l2 := Led.then_ h (k.sub K hK) hb hg2 l1 e2
  have := k.one K hK K2 (List.mem_of_getElem? h2) _ (h.lt b g2 hb hg2) l2
  subst this
  obtain ⟨i1, i2⟩ := List.getElem?_eq_some_iff.mp hi
  obtain ⟨j1, j2⟩ := List.getElem?_eq_some_iff.mp h2
  exact (List.getElem_inj (h₀ := j1) (h₁ := i1) k.nd).mp (j2.trans i2.symm)
theorem act_sh (h : Hse n m) (s : Sub n m L) : Act n m (lst m L n).length (shMv n m L) := Act.of_mov (mov_sh h s (sub_whole h))
def besM (N : Nat) (a b : Nat → Nat → Nat) (x g : Nat) : Nat := if x < N then a x g else N + b (x - N) g
theorem act_bes {N2 : Nat} {b : Nat → Nat → Nat} (A : Act n m N a) (B : Act n m N2 b) : Act n m (N + N2) (besM N a b) := by
  refine ⟨fun x g hx hg => ?_, fun x hx => ?_, fun x g k hx hg hk => ?_⟩
  · unfold besM
    by_cases z : x < N
    · rw [if_pos z]; have := A.lt x g z hg; omega
    · rw [if_neg z]; have := B.lt (x - N) g (by omega) hg; omega
  · unfold besM
    by_cases z : x < N
    · rw [if_pos z, A.ze x z]
    · rw [if_neg z, B.ze (x - N) (by omega)]; omega
  · unfold besM
    by_cases z : x < N
    · rw [if_pos z, if_pos z, if_pos (A.lt x g z hg), A.mu x g k z hg hk]
    · rw [if_neg z, if_neg z, if_neg (by omega), ← B.mu (x - N) g k (by omega) hg hk]
      congr 2
      omega
theorem bes_l {N2 : Nat} {b : Nat → Nat → Nat} {x : Nat} (hx : x < N) (g : Nat) : besM N a b x g = a x g := by unfold besM; rw [if_pos hx]
theorem bes_r {b : Nat → Nat → Nat} (x g : Nat) : besM N a b (N + x) g = N + b x g := by
  unfold besM
  rw [if_neg (by omega), Nat.add_sub_cancel_left]
theorem act_none : Act n m 0 (fun _ _ => 0) := ⟨fun x _ hx => absurd hx (Nat.not_lt_zero x), fun x hx => absurd hx (Nat.not_lt_zero x), fun x _ _ hx => absurd hx (Nat.not_lt_zero x)⟩
end
end VL
namespace VL
open PySem PySem.Spec PyProof.Rows L2 HM
section
variable {n : Nat} {m : Nat → Nat → Nat} {A ks : List (List Nat)} {j : Nat} {K : List Nat} {C : List (List Nat × Nat)}
theorem Came.one (h : Hse n m) (k : IsKinds n m ks) (c : Came n m ks ks.length C) {i : Nat} (hi : (K, i) ∈ C) : i = VL.kdx n m ks K := by
  obtain ⟨_, K0, h0, g, hg, L⟩ := (c.mem K i).mp hi
  have s0 := k.sub K0 (List.mem_of_getElem? h0)
  obtain ⟨b, hb, e1, e2⟩ := h.inv2 hg
  exact (kdx_eq h k (L.sub h s0 hg) h0 hb (L.back h s0 hg hb e1)).symm
end
end VL
namespace HM
open PySem PySem.Spec PyProof.Rows L2 VL
end HM
namespace VL
open PySem PySem.Spec PyProof.Rows L2 HM
end VL
namespace HM
open PySem PySem.Spec PyProof.Rows L2
theorem pe_callP0 {X : Cx} {gd : Around → Prop} {CX : CXT} {k : Nat} {f : Addr} {fd : FuncData} {ps : List Str} {sp : Sp} {E : XK} {x : Str} {p pos : Pos} (G : PFn gd X.prog X.w X.K X.mg X.base CX k f fd ps sp) (hgd : gd X.A) (hr : Room k X.A) (hg : Gl X x) (hm : X.mg x = some (.ref f))
    (hk : PySem.W.keepIn X.K (.ref f) = true) (hb : Binds X.K fd ps []) (hx : Passes CX X E) (hdb : (x == ("__debug__" : Str)) = false := by decide) : PE X (.Call (.Name x p) [] [] pos) (fun σ H Q => sp [] H Q E) := by
  refine ⟨fun pins s σ H Q I q => ?_⟩
  refine wpAny_Call_Name_kw (ld_glob I hg hm ?_ hdb)
  refine PySem.W.callWith_K0 I.kIn hk ?_
  have hl : ([] : List Value).length = ps.length := G.len [] _ _ _ q
  have hbs := hb s [] I.kIn (by rw [List.append_nil]; exact hl)
  rw [List.append_nil] at hbs
  refine wpAny_call (codeAny_mono (G.go X.A X.stack s H ⟨[], []⟩ [] [] Q E hgd hr I.env0 hbs .nil q) fun r s' hq => ?_)
  match r, hq with
  | .error e, hq => exact hx pins σ H s e s' I hq
  | .ok (.ret u), hq => exact I.after hq
  | .ok .next, hq => exact hq.elim
  | .ok .brk, hq => exact hq.elim
  | .ok .cont, hq => exact hq.elim
end HM
namespace VL
open PySem PySem.Spec PyProof.Rows L2 HM
section
variable {c : Fc} {X : Cx} {gd : Around → Prop} {CX : CXT} {k : Nat} {f : Addr} {fd : FuncData} {ps : List Str} {sp : VSp} {x : Str} {p pos : Pos}
theorem ve_call0 (G : VFn gd X.prog X.w X.K X.mg X.base CX k f fd ps c.am sp) (hgd : gd X.A) (hr : Room k X.A) (hg : Gl X x) (hm : X.mg x = some (.ref f)) (hk : PySem.W.keepIn X.K (.ref f) = true) (hb : Binds X.K fd ps []) (hx : Passes CX X (fun _ _ _ => False)) (hdb : (x == ("__debug__" : Str)) = false := by decide) :
    PE X (.Call (.Name x p) [] [] pos) (tOf c (vCall sp vNil)) := PE.imp (pe_callP0 G hgd hr hg hm hk hb hx hdb) fun σ H R q => by
  obtain ⟨F, env, n, Q, rr, q, k⟩ := call_of q
  exact k [] H F [] env n rr (Up.refl F) .nil q
end
end VL
namespace K35
open PySem PySem.Spec PyProof.Rows L2 HM VL
abbrev s_l_house : Stmt := topS 15
theorem sc_l_house : FnScope ["_law_pen_here", "_law_way", "_law_two", "_law_more"] ["_law_pen_here"] (defScope s_l_house) := ⟨rfl, rfl, rfl, by decide +kernel, rfl, by decide +kernel, by decide +kernel⟩
section
variable {P : Program} {w : World} {K : PySem.W.Frag} {mg : Str → Option Value} {base : Heap} {am : Am} {gd : Around → Prop} {k : Nat}
theorem ok_houseB {p f f_l_take f_l_house_by f_l_drawn_group f_l_rounds f_l_anew f_l_both f_l_eight f_l_closed f_l_great_group : Addr} {fd fd_l_take fd_l_house_by fd_l_drawn_group fd_l_rounds fd_l_anew fd_l_both fd_l_eight fd_l_closed fd_l_great_group : FuncData} (F : Fun K "_law_house" "_law_house" s_l_house f fd)
    (G_l_take : VFn anyA P w K mg base CX0 (k + 4) f_l_take fd_l_take ["_law_pen_here", "_law_many"] am (spTakeB p)) (g_l_take : mg "_law_take" = some (.ref f_l_take)) (k_l_take : PySem.W.keepIn K (.ref f_l_take) = true) (b_l_take : Binds K fd_l_take ["_law_pen_here", "_law_many"] [])
    (G_l_house_by : VFn anyA P w K mg base CX0 (k + 4) f_l_house_by fd_l_house_by ["_law_group"] am spTable) (g_l_house_by : mg "_law_house_by" = some (.ref f_l_house_by)) (k_l_house_by : PySem.W.keepIn K (.ref f_l_house_by) = true) (b_l_house_by : Binds K fd_l_house_by ["_law_group"] [])
    (G_l_drawn_group : VFn anyA P w K mg base CX0 (k + 4) f_l_drawn_group fd_l_drawn_group ["_law_pen_here"] am (spDrawn p)) (g_l_drawn_group : mg "_law_drawn_group" = some (.ref f_l_drawn_group)) (k_l_drawn_group : PySem.W.keepIn K (.ref f_l_drawn_group) = true) (b_l_drawn_group : Binds K fd_l_drawn_group ["_law_pen_here"] [])
    (G_l_rounds : VFn anyA P w K mg base CX0 (k + 4) f_l_rounds fd_l_rounds ["_law_pen_here"] am (spHouse p)) (g_l_rounds : mg "_law_rounds" = some (.ref f_l_rounds)) (k_l_rounds : PySem.W.keepIn K (.ref f_l_rounds) = true) (b_l_rounds : Binds K fd_l_rounds ["_law_pen_here"] [])
    (G_l_anew : VFn anyA P w K mg base CX0 (k + 4) f_l_anew fd_l_anew ["_law_pen_here", "_law_house_here"] am (spRen p)) (g_l_anew : mg "_law_anew" = some (.ref f_l_anew)) (k_l_anew : PySem.W.keepIn K (.ref f_l_anew) = true) (b_l_anew : Binds K fd_l_anew ["_law_pen_here", "_law_house_here"] [])
    (G_l_both : VFn anyA P w K mg base CX0 (k + 4) f_l_both fd_l_both ["_law_one", "_law_other"] am spBoth) (g_l_both : mg "_law_both" = some (.ref f_l_both)) (k_l_both : PySem.W.keepIn K (.ref f_l_both) = true) (b_l_both : Binds K fd_l_both ["_law_one", "_law_other"] [])
    (G_l_eight : VFn anyA P w K mg base CX0 (k + 4) f_l_eight fd_l_eight [] am spEight) (g_l_eight : mg "_law_eight" = some (.ref f_l_eight)) (k_l_eight : PySem.W.keepIn K (.ref f_l_eight) = true) (b_l_eight : Binds K fd_l_eight [] [])
    (G_l_closed : VFn anyA P w K mg base CX0 (k + 4) f_l_closed fd_l_closed ["_law_many", "_law_turns", "_law_most"] am spClosedB) (g_l_closed : mg "_law_closed" = some (.ref f_l_closed)) (k_l_closed : PySem.W.keepIn K (.ref f_l_closed) = true) (b_l_closed : Binds K fd_l_closed ["_law_many", "_law_turns", "_law_most"] [])
    (G_l_great_group : VFn anyA P w K mg base CX0 (k + 4) f_l_great_group fd_l_great_group ["_law_which"] am spGreat) (g_l_great_group : mg "_law_great_group" = some (.ref f_l_great_group)) (k_l_great_group : PySem.W.keepIn K (.ref f_l_great_group) = true) (b_l_great_group : Binds K fd_l_great_group ["_law_which"] [])
    (mz : ∀ x ∈ bn, mg x = none) : VFn gd P w K mg base CX0 (k + 5) f fd ["_law_pen_here"] am (spHouse p) := by
  refine vfn_of F sc_l_house (fun ds n Q E h => ?_) ⟨_, fun cdv A out s H E F0 H0 hcd hgd hr =>
    (vss_cons (vs_set (i := 1) sc_l_house.nd rfl (.inl rfl) (ve_call G_l_take trivial (hr.mono (by omega)) (by rfl) g_l_take k_l_take b_l_take pass0 (va_cons (ve_var (pv 0)) (va_cons ve_int va_nil))))
      (vss_cons (vs_set (i := 2) sc_l_house.nd rfl (.inl rfl) (ve_new (vn_lst (va_cons (ve_lstK (ka_cons ve_int (ka_cons ve_int ka_nil)) (by decide)) (va_cons (ve_lstK (ka_cons ve_int (ka_cons ve_int ka_nil)) (by decide)) va_nil)))))
      (vss_cons (vs_if (vt_cmp op_lt lft_B0 (ve_var (pv 1)) ve_int (nomark _))
        (vss_one (vs_ret (ve_call G_l_house_by trivial (hr.mono (by omega)) (by rfl) g_l_house_by k_l_house_by b_l_house_by pass0 (va_cons (ve_call G_l_drawn_group trivial (hr.mono (by omega)) (by rfl) g_l_drawn_group k_l_drawn_group b_l_drawn_group pass0 (va_cons (ve_var (pv 0)) va_nil)) va_nil))))
        vss_nil)
      (vss_cons (vs_if (vt_cmp op_lt lft_B0 (ve_var (pv 1)) ve_int (nomark _))
        (vss_one (vs_ret (ve_ix ix_list lft_ixL (ve_new (vn_lst (va_cons (ve_call G_l_rounds trivial (hr.mono (by omega)) (by rfl) g_l_rounds k_l_rounds b_l_rounds pass0 (va_cons (ve_var (pv 0)) va_nil)) (va_cons (ve_call G_l_anew trivial (hr.mono (by omega)) (by rfl) g_l_anew k_l_anew b_l_anew pass0 (va_cons (ve_var (pv 0)) (va_cons (ve_call G_l_rounds trivial (hr.mono (by omega)) (by rfl) g_l_rounds k_l_rounds b_l_rounds pass0 (va_cons (ve_var (pv 0)) va_nil)) va_nil))) va_nil)))) (ve_call G_l_take trivial (hr.mono (by omega)) (by rfl) g_l_take k_l_take b_l_take pass0 (va_cons (ve_var (pv 0)) (va_cons ve_int va_nil))) (fun _ _ => rfl))))
        vss_nil)
      (vss_cons (vs_if (vt_cmp op_eq lft_eq (ve_var (pv 1)) ve_int (nomark _))
        (vss_cons (vs_set (i := 3) sc_l_house.nd rfl (.inl rfl) (ve_ix ix_list lft_ixL (ve_new (vn_lst (va_cons (ve_lstK (ka_cons (ve_lstK (ka_cons ve_int ka_nil) (by decide)) ka_nil) (by decide)) (va_cons (ve_var (pv 2)) (va_cons (ve_lstK (ka_cons (ve_lstK (ka_cons ve_int (ka_cons ve_int (ka_cons ve_int ka_nil))) (by decide)) (ka_cons (ve_lstK (ka_cons ve_int (ka_cons ve_int (ka_cons ve_int ka_nil))) (by decide)) (ka_cons (ve_lstK (ka_cons ve_int (ka_cons ve_int (ka_cons ve_int ka_nil))) (by decide)) ka_nil))) (by decide)) va_nil))))) (ve_call G_l_take trivial (hr.mono (by omega)) (by rfl) g_l_take k_l_take b_l_take pass0 (va_cons (ve_var (pv 0)) (va_cons ve_int va_nil))) (fun _ _ => rfl)))
        (vss_one (vs_ret (ve_call G_l_anew trivial (hr.mono (by omega)) (by rfl) g_l_anew k_l_anew b_l_anew pass0 (va_cons (ve_var (pv 0)) (va_cons (ve_call G_l_both trivial (hr.mono (by omega)) (by rfl) g_l_both k_l_both b_l_both pass0 (va_cons (ve_call0 G_l_eight trivial (hr.mono (by omega)) (by rfl) g_l_eight k_l_eight b_l_eight pass0) (va_cons (ve_var (pv 3)) va_nil))) va_nil))))))
        vss_nil)
      (vss_cons (vs_if (vt_cmp op_eq lft_eq (ve_var (pv 1)) ve_int (nomark _))
        (vss_one (vs_ret (ve_call G_l_both trivial (hr.mono (by omega)) (by rfl) g_l_both k_l_both b_l_both pass0 (va_cons (ve_call G_l_both trivial (hr.mono (by omega)) (by rfl) g_l_both k_l_both b_l_both pass0 (va_cons (ve_var (pv 2)) (va_cons (ve_var (pv 2)) va_nil))) (va_cons (ve_call G_l_both trivial (hr.mono (by omega)) (by rfl) g_l_both k_l_both b_l_both pass0 (va_cons (ve_var (pv 2)) (va_cons (ve_var (pv 2)) va_nil))) va_nil)))))
        vss_nil)
      (vss_cons (vs_if (vt_cmp op_eq lft_eq (ve_var (pv 1)) ve_int (nomark _))
        (vss_one (vs_ret (ve_call G_l_both trivial (hr.mono (by omega)) (by rfl) g_l_both k_l_both b_l_both pass0 (va_cons (ve_call G_l_house_by trivial (hr.mono (by omega)) (by rfl) g_l_house_by k_l_house_by b_l_house_by pass0 (va_cons (ve_call G_l_closed trivial (hr.mono (by omega)) (by rfl) g_l_closed k_l_closed b_l_closed pass0 (va_cons ve_int (va_cons (ve_lstK (ka_cons (ve_tupK (ka_cons ve_int (ka_cons ve_int (ka_cons ve_int ka_nil))) (by decide)) (ka_cons (ve_tupK (ka_cons ve_int (ka_cons ve_int (ka_cons ve_int ka_nil))) (by decide)) ka_nil)) (by decide)) (va_cons ve_int va_nil)))) va_nil)) (va_cons (ve_call G_l_both trivial (hr.mono (by omega)) (by rfl) g_l_both k_l_both b_l_both pass0 (va_cons (ve_var (pv 2)) (va_cons (ve_var (pv 2)) va_nil))) va_nil)))))
        vss_nil)
      (vss_one (vs_ret (ve_call G_l_house_by trivial (hr.mono (by omega)) (by rfl) g_l_house_by k_l_house_by b_l_house_by pass0 (va_cons (ve_call G_l_great_group trivial (hr.mono (by omega)) (by rfl) g_l_great_group k_l_great_group b_l_great_group pass0 (va_cons (ve_call G_l_take trivial (hr.mono (by omega)) (by rfl) g_l_take k_l_take b_l_take pass0 (va_cons (ve_var (pv 0)) (va_cons ve_int va_nil))) va_nil)) va_nil))))))))))), fun ds t Q E h => ?_⟩
  · obtain ⟨rfl, _⟩ := h
    rfl
  · obtain ⟨rfl, q⟩ := h
    refine ⟨_, rfl, 16, rfl, by decide, by decide, fun r hr => ?_⟩
    refine ⟨(by decide : 2 ≤ 5000), _, rfl, ?_⟩
    change vSeq _ _ _ [.fz (.obj p), .fz (nD r), .fz (houD 2 m2), .no] t
    have h4 := hse_both hse2 hse2
    refine ⟨_, rfl, _, _, rfl, rfl, _, rfl, iteB (fun e => ?_) (fun e => ?_)⟩
    · exact ⟨_, rfl, rfl, fun m gl hm hg => ⟨m, gl, rfl, hm, hg, q _ _ (hse_tbl hg) hg.few⟩⟩
    refine ⟨_, rfl, _, _, rfl, rfl, _, rfl, iteB (fun e => ?_) (fun e => ?_)⟩
    · refine ⟨_, rfl, rfl, fun n1 k1 h1 hn1 => ⟨_, rfl, _, rfl, rfl, fun n2 k2 h2 hn2 => ⟨n2, k2, rfl, h2, hn2, fun k3 h3 => ⟨(by decide : 2 ≤ 5000), _, rfl, _, rfl, 2, rfl, by decide, by decide, fun r2 hr2 => ?_⟩⟩⟩⟩
      obtain ⟨n9, k9, hx, h9, hn9⟩ : ∃ n m, atI [houD n1 k1, houD n2 k3] ((r2 : Nat) : Int) = some (houD n m) ∧ Hse n m ∧ n ≤ 60 := by
        match r2, hr2 with
        | 0, _ => exact ⟨_, _, rfl, h1, hn1⟩
        | 1, _ => exact ⟨_, _, rfl, h3, hn2⟩
      exact ⟨_, _, _, rfl, rfl, hx, q _ _ h9 hn9⟩
    refine ⟨_, rfl, .inl ⟨_, _, rfl, rfl, _, rfl, iteB (fun e => ?_) (fun e => ?_)⟩⟩
    · refine ⟨_, rfl, (by decide : 3 ≤ 5000), _, rfl, _, rfl, 3, rfl, by decide, by decide, fun r2 hr2 => ?_⟩
      obtain ⟨n9, k9, hx, h9, hn9⟩ : ∃ n m, atI [Dt.lst [Dt.lst [Dt.int 0]], houD 2 m2, Dt.lst [Dt.lst [Dt.int 0, Dt.int 1, Dt.int 2], Dt.lst [Dt.int 1, Dt.int 2, Dt.int 0], Dt.lst [Dt.int 2, Dt.int 0, Dt.int 1]]] ((r2 : Nat) : Int) = some (houD n m) ∧ Hse n m ∧ n ≤ 3 := by
        match r2, hr2 with
        | 0, _ => exact ⟨1, m1, rfl, hse1, by decide⟩
        | 1, _ => exact ⟨_, _, rfl, hse2, by decide⟩
        | 2, _ => exact ⟨3, m3, rfl, hse3, by decide⟩
      refine ⟨_, _, _, rfl, rfl, hx, ?_⟩
      exact ⟨_, rfl, rfl, _, rfl, 8, n9, m8, k9, rfl, hse8, h9, by omega, by omega, by omega, 8 * n9, _, rfl, hse_both hse8 h9, by omega, fun m' h' => q _ _ h' (by omega)⟩
    refine ⟨_, rfl, .inl ⟨_, _, rfl, rfl, _, rfl, iteB (fun e => ?_) (fun e => ?_)⟩⟩
    · exact ⟨_, rfl, _, rfl, 2, 2, m2, m2, rfl, hse2, hse2, by decide, by decide, by decide, _, rfl, _, rfl, 2, 2, m2, m2, rfl, hse2, hse2, by decide, by decide, by decide, 4, 4, _, _, rfl, h4, h4, by decide, by decide, by decide, q _ _ (hse_both h4 h4) (by decide)⟩
    refine ⟨_, rfl, .inl ⟨_, _, rfl, rfl, _, rfl, iteB (fun e => ?_) (fun e => ?_)⟩⟩
    · have hT : ∀ g ∈ [[1, 2, 0], [1, 0, 2]], Tn 3 g := fun g hg => tn_B (by
        rcases List.mem_cons.mp hg with rfl | hg
        · decide
        · rw [List.mem_singleton.mp hg]; decide)
      refine ⟨3, [[1, 2, 0], [1, 0, 2]], 60, rfl, by decide, by decide, by decide, by decide, hT, fun gl hg => ⟨3, gl, rfl, by decide, hg, ?_⟩, .inl fun l nd hl => ?_⟩
      · have h6 := few3s hg.nd hg.tn
        exact ⟨_, rfl, _, rfl, 2, 2, m2, m2, rfl, hse2, hse2, by decide, by decide, by decide, gl.length, 4, _, _, rfl, hse_tbl hg, h4, by omega, by omega, by decide, q _ _ (hse_both (hse_tbl hg) h4) (by omega)⟩
      · have := few3s nd fun x hx => (hl x hx).tn hT
        omega
    exact ⟨_, rfl, 4, rfl, by decide, by decide, fun r2 hr2 => ⟨r2, rfl, hr2, fun m gl hm hg => ⟨m, gl, rfl, hm, hg, q _ _ (hse_tbl hg) hg.few⟩⟩⟩
end
end K35
namespace VL
open PySem PySem.Spec PyProof.Rows L2 HM
section
variable {n : Nat} {m : Nat → Nat → Nat} {F : List (List Nat × List Nat)} {ws S : List (List Nat)} {K L gs : List Nat} {j : Nat}
/-- parts found, with numbers that they come of; ws wait, K is looked at, its numbers below j are done -/
structure PSr (n : Nat) (m : Nat → Nat → Nat) (F : List (List Nat × List Nat)) (ws : List (List Nat)) : Prop where
  nd : (F.map (·.1)).Nodup
  g : ∀ q ∈ F, IsPt m q.2 q.1 ∧ (∀ g ∈ q.2, g < n) ∧ q.2.length + 1 ≤ q.1.length
  ze : [0] ∈ F.map (·.1)
  wn : ws.Nodup
  sb : ∀ K ∈ ws, K ∈ F.map (·.1)
theorem PSr.subs (h : Hse n m) (P : PSr n m F ws) : ∀ K ∈ F.map (·.1), Sub n m K := fun K hK => by
  obtain ⟨q, hq, rfl⟩ := List.mem_map.mp hK
  obtain ⟨h1, h2, _⟩ := P.g q hq
  exact h1.sub h h2
theorem PSr.few (h : Hse n m) (h60 : n ≤ 60) (P : PSr n m F ws) : F.length ≤ 2400 ∧ ws.length ≤ 2400 := by
  have h1 := few_subs h h60 P.nd (P.subs h)
  have h2 := List.Nodup.length_le_of_subset P.wn fun x hx => P.sb x hx
  rw [List.length_map] at h1 h2
  omega
theorem PSr.pop (P : PSr n m F (ws ++ [K])) : PSr n m F ws := ⟨P.nd, P.g, P.ze, (List.nodup_append.mp P.wn).1, fun x hx => P.sb x (List.mem_append_left _ hx)⟩
theorem PSr.add (h : Hse n m) (P : PSr n m F ws) (hK : (K, gs) ∈ F) {y : Nat} (hy : y < n) (hn : y ∉ K) (pl : IsPt m (gs ++ [y]) L) (hL : L ∉ F.map (·.1)) : PSr n m (F ++ [(L, gs ++ [y])]) (ws ++ [L]) := by
  obtain ⟨p1, p2, p3⟩ := P.g _ hK
  have hgs : ∀ g ∈ gs ++ [y], g < n := fun g hg => by
    rcases List.mem_append.mp hg with hg | hg
    · exact p2 g hg
    · rw [List.mem_singleton.mp hg]; exact hy
  have sK := p1.sub h p2
  have sub : ∀ x ∈ K, x ∈ L := fun x hx => (pl.mem x).mpr (((p1.mem x).mp hx).mono fun g hg => List.mem_append_left _ hg)
  have hyL : y ∈ L := (pl.mem y).mpr (rch_one h (by simp) hy)
  have hlen : K.length + 1 ≤ L.length := by
    have := len_le_of_sub (k := y :: K) (l := L) (List.nodup_cons.mpr ⟨hn, sK.nd⟩) fun x hx => by
      rcases List.mem_cons.mp hx with rfl | hx
      · exact hyL
      · exact sub x hx
    rwa [List.length_cons] at this
  refine ⟨?_, fun q hq => ?_, by rw [List.map_append]; exact List.mem_append_left _ P.ze, ?_, fun x hx => ?_⟩
  · rw [List.map_append, List.nodup_append]
    exact ⟨P.nd, by simp, fun a ha b hb e => hL (by rw [List.map_cons, List.map_nil, List.mem_singleton] at hb; have hb : b = L := hb; rw [← hb, ← e]; exact ha)⟩
  · rcases List.mem_append.mp hq with hq | hq
    · exact P.g q hq
    · rw [List.mem_singleton.mp hq]
      exact ⟨pl, hgs, by show (gs ++ [y]).length + 1 ≤ L.length; rw [List.length_append, List.length_singleton]; have p3 : gs.length + 1 ≤ K.length := p3; omega⟩
  · rw [List.nodup_append]
    exact ⟨P.wn, by simp, fun a ha b hb e => hL (by rw [List.mem_singleton] at hb; rw [← hb, ← e]; exact P.sb a ha)⟩
  · rw [List.map_append]
    rcases List.mem_append.mp hx with hx | hx
    · exact List.mem_append_left _ (P.sb x hx)
    · rw [List.mem_singleton.mp hx]; simp
end
end VL
namespace VL
open PySem PySem.Spec PyProof.Rows L2 HM
end VL
namespace VL
open PySem PySem.Spec PyProof.Rows L2 HM
section
variable {c : Fc} {X : Cx} {st : Stmt} {e : Expr} {ts : VTS} {te : VTE} {tn : VTN}
def vFzS (i : Nat) (ts : VTS) : VTS := fun V env n => ∃ ds, env[i]? = some (.ow (.lst ds)) ∧ ts V (env.set i (.fz (.lst ds))) n
theorem vs_fz {i : Nat} (h : PS X st (sOf c ts)) : PS X st (sOf c (vFzS i ts)) := PS.imp h fun D σ H ⟨F, env, n, V, r, ⟨ds, ei, q⟩, k⟩ => by
  obtain ⟨a, F', e1, u, rp, r'⟩ := r.freeze ei
  exact ⟨F', _, n, V, r', q, k.up u⟩
end
def setD (n N : Nat) (a : Nat → Nat → Nat) : Dt := .lst ((List.range n).map fun g => rowD N fun x => a x g)
def spLShares : VSp := fun ds t Q _ => ∃ (n : Nat) (m : Nat → Nat → Nat) (L : List Nat), ds = [houD n m, .tup (nsD L)] ∧ Hse n m ∧ n ≤ 60 ∧ Sub n m L ∧ Q (setD n (lst m L n).length (shMv n m L)) t
def nonI (i : Int) : Dt := if i < 0 then .non else .int i
theorem nonI_nat (i : Nat) : nonI ((i : Nat) : Int) = nD i := if_neg (by omega)
theorem nonI_pos {n : Nat} {m : Nat → Nat → Nat} {P : List Nat} (h : Hse n m) (s : Sub n m P) : (pJ n m P n 0).map nonI = nsD ((List.range n).map (plc m P)) := by
  have := pJ_end h s
  unfold nsD at this ⊢
  have e : (pJ n m P n 0) = ((List.range n).map (plc m P)).map fun i : Nat => (i : Int) := by
    have inj : ∀ {x y : List Int}, x.map Dt.int = y.map Dt.int → x = y := fun {x} => by
      induction x with
      | nil => intro y h; cases y with | nil => rfl | cons _ _ => cases h
      | cons u x ih => intro y h; cases y with
        | nil => cases h
        | cons v y =>
          rw [List.map_cons, List.map_cons] at h
          injection h with h1 h2
          injection h1 with h1
          rw [h1, ih h2]
    refine inj (this.trans ?_)
    rw [List.map_map (l := (List.range n).map (plc m P))]
    rfl
  rw [e, List.map_map]
  exact List.map_congr_left fun i _ => nonI_nat i
/-- a set's row by the places of its things -/
theorem set_at {n N : Nat} {a : Nat → Nat → Nat} {g : Nat} (h : g < n) : atI ((List.range n).map fun g => rowD N fun x => a x g) (g : Int) = some (rowD N fun x => a x g) := atI_nat (by rw [List.getElem?_map, List.getElem?_range h]; rfl)
end VL
namespace K35
open PySem PySem.Spec PyProof.Rows L2 HM VL
abbrev s_l_shares : Stmt := topS 17
theorem sc_l_shares : FnScope ["_law_house_here", "_law_part_here", "_law_number", "_law_spots", "_law_firsts", "_law_one", "_law_first"] ["_law_house_here", "_law_part_here"] (defScope s_l_shares) := ⟨rfl, rfl, rfl, by decide +kernel, rfl, by decide +kernel, by decide +kernel⟩
section
variable {P : Program} {w : World} {K : PySem.W.Frag} {mg : Str → Option Value} {base : Heap} {am : Am} {gd : Around → Prop} {k : Nat}
theorem ok_lshares {f : Addr} {fd : FuncData} (F : Fun K "_law_shares" "_law_shares" s_l_shares f fd) (mz : ∀ x ∈ bn, mg x = none) : VFn gd P w K mg base CX0 (k + 1) f fd ["_law_house_here", "_law_part_here"] am spLShares := by
  refine vfn_of F sc_l_shares (fun ds n Q E h => ?_) ⟨_, fun cdv A out s H E F0 H0 hcd hgd hr =>
    (vss_cons (vs_setN (i := 3) sc_l_shares.nd rfl (.inr rfl) (vn_lc (own := [("_law_number", 2)]) rfl sc_l_shares.nd (vi_list (ve_var (pv 0))) (blkOk_by (own := [("_law_number", 2)]) (N := ["_law_house_here", "_law_part_here", "_law_number", "_law_spots", "_law_firsts", "_law_one", "_law_first"]) (sc := defScope s_l_shares) (by decide +kernel)) (tg_name (by simp)) (fun _ _ _ _ _ => (pg_name (i := 2) sc_l_shares.nd rfl (.inl rfl))) (fun _ _ _ _ _ _ _ => vts_nil) (fun _ _ _ _ _ _ _ => ve_non)))
      (vss_cons (vs_setN (i := 4) sc_l_shares.nd rfl (.inr rfl) (vn_lst va_nil))
      (vss_cons (vs_for PassesOwn.never rfl (vi_range1 (by rfl) (mz "range" (by decide)) (vb_cons (ve_cbR call_len_seq lft_len (by rfl) (mz "len" (by decide)) PySem.boot_len (vb_rd (pv 0) vb_nil)) vb_nil)) (vg_name (pg_name (i := 2) sc_l_shares.nd rfl (.inl rfl)))
        (vss_one (vs_if (vt_cmp op_isN lft_isN (ve_ixO (pv 3) (ve_var (pv 2)) (fun _ _ => rfl)) ve_non (nomark _))
          (vss_cons (vs_for PassesOwn.never rfl (vi_tup (ve_var (pv 1))) (vg_name (pg_name (i := 5) sc_l_shares.nd rfl (.inl rfl)))
            (vss_one (vs_setIx (pv 3) (ve_ix ix_list lft_ixL (ve_ixO (pv 0) (ve_var (pv 5)) (fun _ _ => rfl)) (ve_var (pv 2)) (fun _ _ => rfl)) (ve_cbR call_len_seq lft_len (by rfl) (mz "len" (by decide)) PySem.boot_len (vb_rd (pv 4) vb_nil)))))
          (vss_one (vs_expr (ve_m (pe_bm PySem.F.plainAttrs_list PySem.F.slot_list_append PySem.F.type_list_append mt_append (pv 4) (va_cons (ve_var (pv 2)) va_nil)) lft_append))))
          vss_nil)))
      (vss_one (vs_fz (i := 3) (vs_fz (i := 4) (vs_ret (ve_new (vn_lc (own := [("_law_number", 2)]) rfl sc_l_shares.nd (vi_range1 (by rfl) (mz "range" (by decide)) (vb_cons (ve_cbR call_len_seq lft_len (by rfl) (mz "len" (by decide)) PySem.boot_len (vb_rd (pv 0) vb_nil)) vb_nil)) (blkOk_by (own := [("_law_number", 2)]) (N := ["_law_house_here", "_law_part_here", "_law_number", "_law_spots", "_law_firsts", "_law_one", "_law_first"]) (sc := defScope s_l_shares) (by decide +kernel)) (tg_name (by simp)) (fun _ _ _ _ _ => (pg_name (i := 2) sc_l_shares.nd rfl (.inr rfl))) (fun _ _ _ _ _ _ _ => vts_nil) (fun _ _ _ _ _ _ _ => (ve_new (vn_lc (own := [("_law_first", 6)]) rfl sc_l_shares.nd (vi_list (ve_var (pv 4))) (blkOk_by (own := [("_law_first", 6)]) (by rfl)) (tg_name (by simp)) (fun _ _ _ _ _ => (pg_name (i := 6) sc_l_shares.nd rfl (.inl rfl))) (fun _ _ _ _ _ _ _ => vts_nil) (fun _ _ _ _ _ _ _ => (ve_ixO (pv 3) (ve_ix ix_list lft_ixL (ve_ixO (pv 0) (ve_var (pv 6)) (fun _ _ => rfl)) (ve_var (pv 2)) (fun _ _ => rfl)) (fun _ _ => rfl))))))))))))))), fun ds t Q E h => ?_⟩
  · obtain ⟨n, m, L, rfl, _⟩ := h
    rfl
  · obtain ⟨n, m, L, rfl, hH, hn, hS, q⟩ := h
    have hlh : ((List.range n).map fun a => rowD n (m a)).length = n := by rw [List.length_map, List.length_range]
    have hL : L.length ≤ 60 := Nat.le_trans (few_of_nodup hS.nd hS.lt) hn
    refine ⟨_, rfl, _, rfl, lc_map (i := 2) (fun _ => .non) (.head _) (noOw1 (s := .no) rfl no_ow) (by rw [hlh]; omega) (fun j x hx R hR => hR) ?_⟩
    rw [hlh, show (List.range n).map (fun _ => Dt.non) = (pJ n m L 0 0).map nonI by rw [pJ_start]; unfold nonI; rw [List.map_replicate, if_pos (by decide), List.map_const', List.length_range]]
    refine ⟨Nat.zero_le _, ?_⟩
    refine ⟨⟨_, .inl rfl⟩, _, .inl rfl, _, .inl rfl, rfl, _, rfl, ⟨by omega, by rw [hlh]; omega⟩, ?_⟩
    rw [hlh]
    refine ⟨fun j env t' => t' = t ∧ ∃ s2 s5, (∀ k, s2 ≠ .ow k) ∧ env = [.fz (houD n m), .fz (.tup (nsD L)), s2, .ow (.lst ((pJ n m L j 0).map nonI)), .ow (.lst (nsD (lst m L j))), s5, .no], ⟨rfl, .no, .no, no_ow, rfl⟩, fun j x env t' hx hP => ?_, fun env t' hP => ?_⟩
    · obtain ⟨rfl, s2, s5, _, rfl⟩ := hP
      obtain ⟨rfl, hj⟩ := rngD_get0 hx
      have hj : j < n := by have : j < ((n : Nat) : Int).toNat := hj; omega
      have hfz : ∀ k, Sl.fz (nD j) ≠ .ow k := fun k z => by cases z
      have hget : atI ((pJ n m L j 0).map nonI) (j : Int) = some (nonI (if rp m L j < j then ((plc m L j : Nat) : Int) else -1)) := atI_nat (by rw [List.getElem?_map, pJ_zero hj]; rfl)
      refine ⟨⟨_, .inr ⟨_, rfl, rfl⟩⟩, _, rfl, _, _, _, .inr ⟨_, rfl, rfl⟩, rfl, hget, rfl, _, rfl, iteB (fun e => ?_) (fun e => ?_)⟩
      · have hr : rp m L j = j := by
          have h1 := (rp_le (m := m) j L).1
          rcases Nat.lt_or_ge (rp m L j) j with z | z
          · rw [if_pos z, nonI_nat] at e; cases e
          · omega
        refine ⟨_, rfl, _, rfl, fun i env t2 => t2 = t' ∧ ∃ s5, env = [.fz (houD n m), .fz (.tup (nsD L)), .fz (nD j), .ow (.lst ((pJ n m L j i).map nonI)), .ow (.lst (nsD (lst m L j))), s5, .no], ⟨rfl, s5, rfl⟩, fun i x env t2 hx hP => ?_, fun env t2 hP => ?_⟩
        · obtain ⟨rfl, s5, rfl⟩ := hP
          unfold nsD at hx
          rw [List.getElem?_map] at hx
          obtain ⟨x, hx1, rfl⟩ := Option.map_eq_some_iff.mp hx
          have hxn := hS.lt x (List.mem_of_getElem? hx1)
          have hxj := hH.lt x j hxn hj
          refine ⟨⟨_, .inr ⟨_, rfl, rfl⟩⟩, _, .inr ⟨_, rfl, rfl⟩, _, .inl rfl, rfl, ⟨_, rfl⟩, ⟨_, .inl rfl⟩, _, rfl, _, _, _, .inl rfl, rfl, hou_at hxn, _, rfl, _, _, _, rfl, rfl, row_at hj, _, m x j, rfl, rfl, by rw [List.length_map, pJ_len]; exact hxj, rfl, .fz (nD x), ?_⟩
          rw [← pJ_set hH hS hj hr hx1, List.map_set, nsD_len, nonI_nat]
          rfl
        · obtain ⟨rfl, s5, rfl⟩ := hP
          rw [nsD_len, pJ_next hH hS hj hr]
          refine ⟨⟨_, rfl⟩, _, rfl, _, rfl, _, rfl, by rw [nsD_len]; exact Nat.le_trans (List.length_filter_le _ _) (by rw [List.length_range]; omega), rfl, .fz (nD j), s5, hfz, ?_⟩
          rw [lst_succ, if_pos (show isL m L j = true from decide_eq_true hr), ← nsD_app]
          rfl
      · have hr : rp m L j ≠ j := fun z => by
          rw [z, if_neg (Nat.lt_irrefl _)] at e
          cases e
        refine ⟨rfl, .fz (nD j), s5, hfz, ?_⟩
        rw [lst_succ, if_neg (by unfold isL; simpa using hr), List.append_nil, ← pJ_skip hH hS hj hr]
        rfl
    · obtain ⟨rfl, s2, s5, hs2, rfl⟩ := hP
      rw [rngD_len, show ((n : Nat) : Int).toNat = n by omega, nonI_pos hH hS]
      obtain ⟨ls, els⟩ : ∃ ls, ls = lst m L n := ⟨_, rfl⟩
      rw [← els]
      have hll : ls.length ≤ n := by rw [els]; exact Nat.le_trans (List.length_filter_le _ _) (by rw [List.length_range]; exact Nat.le_refl _)
      refine ⟨_, rfl, _, rfl, ⟨_, .inl rfl⟩, _, .inl rfl, _, .inl rfl, rfl, _, rfl, ⟨by omega, by rw [hlh]; omega⟩, ?_⟩
      rw [hlh]
      refine lc_map (i := 2) (fun g => rowD ls.length fun i => shMv n m L i g) (.head _) (noOw1 rfl hs2) (by rw [rngD_len]; omega) (fun g x hx R hR => ?_) ?_
      · obtain ⟨rfl, hg⟩ := rngD_get0 hx
        have hg : g < n := by have : g < ((n : Nat) : Int).toNat := hg; omega
        refine ⟨_, rfl, _, rfl, lc_map (i := 6) (fun i => nD (shMv n m L i g)) (.head _) (noOw1 (s := .no) rfl no_ow) (by rw [nsD_len]; omega) (fun i x hx R hR => ?_) ?_⟩
        · unfold nsD at hx
          rw [List.getElem?_map] at hx
          obtain ⟨y, hy, rfl⟩ := Option.map_eq_some_iff.mp hx
          have hi := (List.getElem?_eq_some_iff.mp hy).1
          have ey : shAt n m L i = y := by
            have := shAt_get (n := n) (m := m) (L := L) (i := i) (by rw [← els]; exact hi)
            rw [← els, hy] at this
            exact (Option.some.inj this).symm
          have hyn : y < n := (lst_mem.mp (by rw [← els]; exact List.mem_of_getElem? hy)).1
          have hyg := hH.lt y g hyn hg
          unfold shMv at hR
          rw [ey] at hR
          exact ⟨⟨_, .inl rfl⟩, ⟨_, .inl rfl⟩, _, rfl, _, _, _, .inl rfl, rfl, hou_at hyn, _, rfl, _, _, _, rfl, rfl, row_at hg, _, _, _, .inl rfl, rfl, row_at hyg, hR⟩
        · refine ⟨_, rfl, ?_⟩
          have e : (List.range (nsD ls).length).map (fun i => nD (shMv n m L i g)) = nsD ((List.range ls.length).map fun i => shMv n m L i g) := by unfold nsD; rw [List.map_map, List.length_map]; rfl
          rw [e]
          exact hR
      · refine ⟨_, rfl, ?_⟩
        rw [rngD_len, Int.toNat_natCast]
        have := q
        rw [← els] at this
        exact this
end
end K35
namespace VL
open PySem PySem.Spec PyProof.Rows L2 HM
section
variable {am : Am} {F0 : Hp} {X : Cx} {st : Stmt} {body els : List Stmt} {pos : Pos} {e : Expr} {t u : XTS}
def xNext : XTS := fun V H0 env n => V.nx H0 env n
theorem xss_nil : PSs X [] (sX am F0 xNext) := PSs.imp pss_nil fun D σ H ⟨H0, F, env, n, V, r, q, k⟩ => k.nx H0 F H σ env n r (Up.refl F) q
def xIf (tc : Hp → VTT) (t u : XTS) : XTS := fun V H0 env n => tc H0 env n fun b env1 n1 => if b = true then t V H0 env1 n1 else u V H0 env1 n1
theorem xs_if {tc : Hp → VTT} (hc : ∀ H0, PT X e (cOf ⟨am, F0, H0⟩ (tc H0))) (ha : PSs X body (sX am F0 t)) (hb : PSs X els (sX am F0 u)) : PS X (.If e body els pos) (sX am F0 (xIf tc t u)) :=
  PS.imp (ps_if (tc := fun σ H R => ∃ H0, cOf ⟨am, F0, H0⟩ (tc H0) σ H R) ⟨fun pins s σ H Q I ⟨H0, q⟩ => (hc H0).run pins s σ H Q I q⟩ ha hb) fun D σ H ⟨H0, F, env, n, V, r, q, k⟩ => by
    refine ⟨H0, F, env, n, _, r, q, fun b H1 F1 env1 n1 r1 u1 q1 => ?_⟩
    show if b = true then sX am F0 t D σ H1 else sX am F0 u D σ H1
    split
    · rename_i z
      rw [if_pos z] at q1
      exact ⟨H0, F1, env1, n1, V, r1, q1, k.up u1⟩
    · rename_i z
      rw [if_neg z] at q1
      exact ⟨H0, F1, env1, n1, V, r1, q1, k.up u1⟩
def xFz (i : Nat) (t : XTS) : XTS := fun V H0 env n => ∃ ds, env[i]? = some (.ow (.lst ds)) ∧ t V H0 (env.set i (.fz (.lst ds))) n
theorem xs_fz {i : Nat} (h : PS X st (sX am F0 t)) : PS X st (sX am F0 (xFz i t)) := PS.imp h fun D σ H ⟨H0, F, env, n, V, r, ⟨ds, ei, q⟩, k⟩ => by
  obtain ⟨a, F', e1, u, rp, r'⟩ := r.freeze ei
  exact ⟨H0, F', _, n, V, r', q, k.up u⟩
def xRowsF (j : Nat) (t : XTS) : XTS := fun V H0 env n => ∃ (Hb : Hp) (m : Nat) (A : Nat → Addr) (r : Nat → List Int), H0 = mat Hb m A r ∧ MatOk am F0 Hb m A ∧ env[j]? = some (.fz (.lst (objD m A))) ∧ t V Hb (env.set j (.fz (.lst ((List.range m).map fun i => .lst ((r i).map Dt.int))))) n
theorem xs_rowsF {j : Nat} (h : PS X st (sX am F0 t)) : PS X st (sX am F0 (xRowsF (am := am) (F0 := F0) j t)) := PS.imp h fun D σ H ⟨H0, F, env, n, V, rr, ⟨Hb, m, A, r, e0, mo, e, q⟩, k⟩ => by
  subst e0
  obtain ⟨v, ev, rv⟩ := rr.sl j _ e
  obtain ⟨F1, u1, r1, hr⟩ := Rel.rowsF mo rr
  obtain ⟨a, xs, rfl, hF, rx⟩ := (rv.up u1).lst_inv
  have r2 := r1.setF (i := j) (Rp.lst hF (rps_objs rx fun i hi => hr i (List.mem_range.mp hi)))
  have es : σ.set j (some (L2.V.ref a)) = σ := by
    refine List.ext_getElem? fun i => ?_
    by_cases z : i = j
    · subst z
      rw [List.getElem?_set_self (List.getElem?_eq_some_iff.mp ev).1, ev]
    · rw [List.getElem?_set_ne (Ne.symm z)]
  rw [es] at r2
  exact ⟨Hb, F1, _, n, V, r2, q, k.up u1⟩
end
end VL
namespace VL
open PySem PySem.Spec PyProof.Rows L2 HM
theorem tab_penB {K : PySem.W.Frag} {am : Am} {p : Addr} {Ps : List Addr} (h : PenB K am p) : PenB K (tabAm am Ps) p where
  pl := plain_tab h.pl
  sp := .inl h.sp
  rd := fun {n F H} h1 => h.rd h1.1
  wr := fun {n F H b t l} h1 e t' l' h2 h3 => ⟨h.wr h1.1 e t' l' h2 h3, fun P hP => by
    obtain ⟨ps, e1, e2⟩ := h1.2 P hP
    exact ⟨ps, by rw [upd_ne fun z => by rw [z, e] at e1; cases e1]; exact e1, e2⟩⟩
theorem penB_notab {p b : Addr} {ns : List Int} {n : Nat} {F H : Hp} {c : Addr} (h : (penAmB p b ns).ok n F H) (hb : (penAmB p b ns).sp c) (ps : Array Value) : H c ≠ some (.tbl ps) := fun z => by
  obtain ⟨⟨t, l, h1, _⟩, h2⟩ := h
  rcases hb with rfl | rfl
  · rw [h1] at z; cases z
  · rw [h2] at z; cases z
theorem tabG_up {H H' : Hp} {P : Addr} (u : Up H H') (h : GxR.TabG H P) : GxR.TabG H' P := by
  obtain ⟨ps, e1, e2⟩ := h
  exact ⟨ps, u _ _ e1, e2⟩
end VL
namespace VL
open PySem PySem.Spec PyProof.Rows L2 HM
abbrev VSpR := List Dt → Nat → (Nat → (Nat → List Int) → Nat → Prop) → Prop
/-- a new list at a, of m new rows at A -/
structure RowsAt (am : Am) (H F' H' : Hp) (a : Addr) (m : Nat) (A : Nat → Addr) (r : Nat → List Int) : Prop where
  inj : ∀ i j, i < m → j < m → A i = A j → i = j
  h : ∀ i, i < m → H (A i) = none
  f : ∀ i, i < m → F' (A i) = none
  s : ∀ i, i < m → ¬ am.sp (A i)
  o : ∀ i, i < m → H' (A i) = some (.lst ((r i).map V.int))
  ah : H a = none
  af : F' a = none
  as : ¬ am.sp a
  ao : H' a = some (.lst (refV m A))
  ne : ∀ i, i < m → A i ≠ a
def vspR (am : Am) (sp : VSpR) : Sp := fun vs H Q _ => ∃ F ds n Q', Up F H ∧ (∀ a, am.sp a → F a = none) ∧ am.ok n F H ∧ Rps F vs ds ∧ sp ds n Q' ∧
  ∀ a m A r F' H' n', Out am F H F' H' n' → RowsAt am H F' H' a m A r → Q' m r n' → Q (.ref a) H'
abbrev VFnR (gd : Around → Prop) (P : Program) (w : World) (K : PySem.W.Frag) (mg : Str → Option Value) (base : Heap) (CX : CXT) (k : Nat) (f : Addr) (fd : FuncData) (ps : List Str) (am : Am) (sp : VSpR) : Prop := PFn gd P w K mg base CX k f fd ps (vspR am sp)
structure XEnR where
  nx : Hp → Ev → Nat → Prop
  rt : Nat → (Nat → List Int) → Nat → Prop
abbrev XTRs := XEnR → Hp → Ev → Nat → Prop
structure EnXR (am : Am) (F0 H00 F : Hp) (V : XEnR) (D : Ends) : Prop where
  nx : ∀ H0 F' H' σ' env' n', Rel ⟨am, F0, H0⟩ F' H' σ' env' n' → Up F F' → V.nx H0 env' n' → D.nx σ' H'
  rt : ∀ F' H' σ' env' n' a m A r, Rel ⟨am, F0, H00⟩ F' H' σ' env' n' → Up F F' → RowsAt am H00 F' H' a m A r → V.rt m r n' → D.rt (.ref a) H'
theorem EnXR.up {am : Am} {F0 H00 F F' : Hp} {V : XEnR} {D : Ends} (h : EnXR am F0 H00 F V D) (u : Up F F') : EnXR am F0 H00 F' V D :=
  ⟨fun H0 F2 H' σ' env' n' r w => h.nx H0 F2 H' σ' env' n' r (u.trans w), fun F2 H' σ' env' n' a m A r rl w => h.rt F2 H' σ' env' n' a m A r rl (u.trans w)⟩
def sXR (am : Am) (F0 H00 : Hp) (ts : XTRs) : TS := fun D σ H => ∃ H0 F env n V, Rel ⟨am, F0, H0⟩ F H σ env n ∧ ts V H0 env n ∧ EnXR am F0 H00 F V D
theorem refV_of {F : Hp} {A : Nat → Addr} : ∀ {l : List Nat} {xs : List V}, Rps F xs (l.map fun i => Dt.obj (A i)) → xs = l.map fun i => V.ref (A i)
  | [], _, .nil => rfl
  | i :: l, _, .cons h t => by
    cases h
    rw [refV_of t]
    rfl
section
variable {am : Am} {F0 H00 : Hp} {X : Cx} {st : Stmt} {rest body : List Stmt} {pos : Pos} {t u : XTRs}
def rLift (ts : XTS) : XTRs := fun V H0 env n => ts { nx := V.nx, rt := fun _ _ _ => False } H0 env n
theorem xr_lift {ts : XTS} (h : PS X st (sX am F0 ts)) : PS X st (sXR am F0 H00 (rLift ts)) := PS.imp h fun D σ H ⟨H0, F, env, n, V, r, q, k⟩ =>
  ⟨H0, F, env, n, _, r, q, ⟨k.nx, fun _ _ _ _ _ _ _ _ _ _ _ z => z.elim, fun _ _ _ _ _ _ _ _ z => z.elim, fun _ _ _ _ _ _ _ _ z => z.elim⟩⟩
def rSeq (A B : XTRs) : XTRs := fun V H0 env n => A { V with nx := fun H1 env1 n1 => B V H1 env1 n1 } H0 env n
theorem xrss_cons (h1 : PS X st (sXR am F0 H00 t)) (h2 : PSs X rest (sXR am F0 H00 u)) : PSs X (st :: rest) (sXR am F0 H00 (rSeq t u)) := PSs.imp (pss_cons h1 h2) fun D σ H ⟨H0, F, env, n, V, r, q, k⟩ =>
  ⟨H0, F, env, n, _, r, q, ⟨fun H1 F' H' σ' env' n' r' w q' => ⟨H1, F', env', n', V, r', q', k.up w⟩, k.rt⟩⟩
theorem xrss_one (h1 : PS X st (sXR am F0 H00 t)) : PSs X [st] (sXR am F0 H00 t) := pss_one h1
/-- return f, f a list of rows beside -/
def rRet (j : Nat) : XTRs := fun V H0 env n => ∃ m A r, H0 = mat H00 m A r ∧ MatOk am F0 H00 m A ∧ env[j]? = some (.ow (.lst (objD m A))) ∧ V.rt m r n
theorem xr_ret {j : Nat} {x : Str} {p : Pos} (h : PE X (.Name x p) (tVar j)) : PS X (.Return (some (.Name x p)) pos) (sXR am F0 H00 (rRet (am := am) (F0 := F0) (H00 := H00) j)) := PS.imp (ps_ret h) fun D σ H ⟨H0, F, env, n, V, rr, ⟨m, A, r, e0, mo, e, q⟩, k⟩ => by
  subst e0
  obtain ⟨a, o, g1, g2, g3, g4, g5, xs, rfl, rx⟩ := rr.sl j _ e
  have g3 : mat H00 m A r a = none := g3
  have ne : ∀ i, i < m → A i ≠ a := fun i hi z => by rw [← z, mat_at mo.inj hi] at g3; cases g3
  have hm : ∀ i, i < m → mat H00 m A r (A i) = some (.lst ((r i).map L2.V.int)) := fun i hi => mat_at mo.inj hi
  refine ⟨_, g1, k.rt F H σ env n a m A r (rr.less mo.up) (Up.refl F) ⟨mo.inj, mo.h0, fun i hi => rr.out0 _ _ (hm i hi) (fun _ z => by cases z) (mo.f0 i hi), mo.ns, fun i hi => rr.keep0 _ _ (hm i hi) (mo.ns i hi), by rw [mat_out ne] at g3; exact g3, g2, g4, ?_, ne⟩ q⟩
  rw [g5, refV_of rx]
  rfl
end
section
variable {P : Program} {w : World} {K : PySem.W.Frag} {mg : Str → Option Value} {base : Heap} {am : Am} {gd : Around → Prop} {x qual : Str} {st : Stmt} {f : Addr} {fd : FuncData} {N ps : List Str} {k : Nat} {sp : VSpR}
theorem vfn_ofR (F : Fun K x qual st f fd) (S : FnScope N ps (defScope st)) (len : ∀ ds n Q, sp ds n Q → ds.length = ps.length)
    (body : ∃ ts : Hp → Hp → XTRs, (∀ (cdv : Value) (A : Around) (out : List Env) (s : Shared) (H : Hp) (E : XK) (F0 H0 : Hp), fd.code = cdv → gd A → Room k (A.deeper (envOfC qual (defScope st) s.heap.objs.size f cdv)) → PSs (cxOf CX0 P w K mg base N qual (defScope st) f cdv A out s H E).nox (defBody st) (sXR am F0 H0 (ts F0 H0))) ∧
      ∀ F0 H0 ds n Q, sp ds n Q → ts F0 H0 { nx := fun _ _ _ => False, rt := Q } H0 (startE N ds) n) : VFnR gd P w K mg base CX0 (k + 1) f fd ps am sp := by
  obtain ⟨ts, hts, hsp⟩ := body
  refine pfn_of F S (fun vs H Q E h => ?_) (fun cdv A out s H vs Q E hcd hgd hr h => ?_)
  · obtain ⟨F0, ds, n, Q', _, _, _, r, h, _⟩ := h
    rw [r.len]
    exact len ds n Q' h
  · obtain ⟨F0, ds, n, Q', u, hs, ha, r, h, kq⟩ := h
    exact ⟨_, hts cdv A out s H E F0 H hcd hgd hr, H, F0, startE N ds, n, _, rel_start u hs ha r, hsp F0 H ds n Q' h, ⟨fun _ _ _ _ _ _ _ _ q => q.elim, fun F' H' σ' env' n' a m A' r' rl _ ra q => kq a m A' r' F' H' n' rl.out ra q⟩⟩
end
section
variable {am : Am} {F0 H0 F H : Hp} {σ : L2.St} {env : Ev} {n m : Nat} {A : Nat → Addr} {r : Nat → List Int}
theorem Rel.rowsIn (q : Rel ⟨am, F0, H0⟩ F H σ env n) (inj : ∀ i j, i < m → j < m → A i = A j → i = j) (fn : ∀ i, i < m → F (A i) = none) (ns : ∀ i, i < m → ¬ am.sp (A i)) (ho : ∀ i, i < m → H (A i) = some (.lst ((r i).map V.int)))
    (no : ∀ i, i < m → ∀ (j : Nat) k', env[j]? = some (.ow k') → σ[j]? ≠ some (some (.ref (A i)))) : Rel ⟨am, F0, mat H0 m A r⟩ F H σ env n := by
  refine ⟨q.sub, q.spf, q.amb, q.up0, fun b ob h1 nt h2 => ?_, fun b u e nb => ?_, q.len, fun j s e => ?_, q.apart⟩
  · rcases mat_some h1 with ⟨i, hi, rfl⟩ | ⟨_, h1⟩
    · exact fn i hi
    · exact q.out0 b ob h1 nt h2
  · by_cases z : ∃ i, i < m ∧ A i = b
    · obtain ⟨i, hi, rfl⟩ := z
      have e : mat H0 m A r (A i) = some u := e
      rw [mat_at inj hi] at e
      rw [ho i hi]; exact e
    · have z' : ∀ i, i < m → A i ≠ b := fun i hi y => z ⟨i, hi, y⟩
      have e : mat H0 m A r b = some u := e
      rw [mat_out z'] at e
      exact q.keep0 b u e nb
  · have qs := q.sl j s e
    cases s with
    | no => trivial
    | fz d => exact qs
    | ow kk =>
      obtain ⟨a2, o2, g1, g2, g3, g4, g5, g6⟩ := qs
      refine ⟨a2, o2, g1, g2, ?_, g4, g5, g6⟩
      show mat H0 m A r a2 = none
      rw [mat_out fun i hi z => no i hi j kk e (by rw [g1, z])]
      exact g3
variable {X : Cx} {st : Stmt} {pos p cpos : Pos} {e : Expr} {es : List Expr} {tas : VTA} {f : Addr} {fd : FuncData} {ps : List Str} {k : Nat} {fn : Str} {gd : Around → Prop} {CX : CXT}
end
def rowsDt (m : Nat) (r : Nat → List Int) : List Dt := (List.range m).map fun i => .lst ((r i).map Dt.int)
section
variable {c : Fc} {X : Cx} {e : Expr} {es : List Expr} {tas : VTA} {F H : Hp} {σ : L2.St} {env : Ev} {n : Nat}
theorem Gx.addMs {Hb G : Hp} {m : Nat} {A : Nat → Addr} {r : Nat → List Int} (q : Rel c F H σ env n) (e0 : c.H0 = mat Hb m A r) (mo : MatOk c.am c.F0 Hb m A) : ∀ (k : Nat), k ≤ m → Gx c F H G → ∃ G', Gx c F H G' ∧ Up G G' ∧ ∀ i, i < k → Rp G' (.ref (A i)) (.lst ((r i).map Dt.int))
  | 0, _, g => ⟨G, g, Up.refl G, fun i hi => by omega⟩
  | k + 1, hk, g => by
    obtain ⟨G1, g1, u1, h1⟩ := Gx.addMs q e0 mo k (by omega) g
    obtain ⟨G2, g2, u2, rp⟩ := g1.addM q (i := k) (l := r k) (q := A k) ⟨Hb, m, A, r, e0, mo, by omega, rfl, rfl⟩
    refine ⟨G2, g2, u1.trans u2, fun i hi => ?_⟩
    by_cases z : i = k
    · rw [z]; exact rp
    · exact (h1 i (by omega)).up u2
def vConsRows (c : Fc) (j : Nat) (ta : VTA) : VTA := fun env n Q => (∃ ds, env[j]? = some (.ow (.lst ds))) ∧ ta env n fun ds env2 n2 => ∃ Hb m A r, c.H0 = mat Hb m A r ∧ MatOk c.am c.F0 Hb m A ∧ env2[j]? = some (.ow (.lst (objD m A))) ∧ Q (.lst (rowsDt m r) :: ds) env2 n2
theorem vb_rows {j : Nat} (ha : PE X e (tVar j)) (hr : PA X es (bOf c tas)) (hs : starEach (e :: es) X.env = (false, eval e X.env) :: starEach es X.env := by rfl) : PA X (e :: es) (bOf c (vConsRows c j tas)) := PA.imp (pa_cons ha hr hs) fun σ H R ⟨F, env, n, Q, rr, ⟨⟨d0, e0⟩, q⟩, k⟩ => by
  obtain ⟨a0, o0, ev, _⟩ := rr.sl j _ e0
  refine ⟨_, ev, F, env, n, _, rr, q, fun vs H2 F2 G ds env2 n2 r2 u2 g p2 q2 => ?_⟩
  obtain ⟨Hb, m, A, r, eh, mo, ed, q2⟩ := q2
  obtain ⟨v1, G1, ev1, g1, ug, pd⟩ := r2.rdS g (i := j) (d := .lst (objD m A)) (.inr ⟨_, ed, rfl⟩)
  rw [ev] at ev1
  cases ev1
  obtain ⟨G2, g2, ug2, hrp⟩ := Gx.addMs r2 eh mo m (Nat.le_refl m) g1
  obtain ⟨a', xs, ea, hF, rx⟩ := pd.lst_inv
  cases ea
  exact k _ H2 F2 G2 _ env2 n2 r2 u2 g2 (.cons (.lst (ug2 _ _ hF) (rps_objs (rx.up ug2) fun i hi => hrp i (List.mem_range.mp hi))) (p2.up (ug.trans ug2))) q2
end
end VL
namespace VL
open PySem PySem.Spec PyProof.Rows L2 HM
abbrev VTR := Ev → Nat → (Nat → (Nat → List Int) → Ev → Nat → Prop) → Prop
def RNo (σ : L2.St) (env : Ev) (a : Addr) (m : Nat) (A : Nat → Addr) : Prop := ∀ (j : Nat) k', env[j]? = some (.ow k') → σ[j]? ≠ some (some (.ref a)) ∧ ∀ i, i < m → σ[j]? ≠ some (some (.ref (A i)))
def eR (am : Am) (F0 : Hp) (ts : Hp → VTR) : TE := fun σ H R => ∃ H0 F env n Q, Rel ⟨am, F0, H0⟩ F H σ env n ∧ ts H0 env n Q ∧ ∀ a m A r F' H' env' n', Rel ⟨am, F0, H0⟩ F' H' σ env' n' → Up F F' → RowsAt am H0 F' H' a m A r → RNo σ env' a m A → Q m r env' n' → R (.ref a) H'
section
variable {am : Am} {F0 H0 H00 F H F' H' : Hp} {σ : L2.St} {env : Ev} {n m : Nat} {a : Addr} {A : Nat → Addr} {r : Nat → List Int}
theorem none_less (u : Up H00 H0) (h : H0 a = none) : H00 a = none := by
  cases e : H00 a with
  | none => rfl
  | some o => rw [u _ _ e] at h; cases h
theorem RowsAt.less (u : Up H00 H0) (q : RowsAt am H0 F' H' a m A r) : RowsAt am H00 F' H' a m A r :=
  ⟨q.inj, fun i hi => none_less u (q.h i hi), q.f, q.s, q.o, none_less u q.ah, q.af, q.as, q.ao, q.ne⟩
variable {X : Cx} {st : Stmt} {pos p cpos : Pos} {e : Expr} {es : List Expr} {tas : VTA} {f : Addr} {fd : FuncData} {ps : List Str} {k : Nat} {fn : Str} {gd : Around → Prop} {CX : CXT} {ts : Hp → VTR}
def rRetE (ts : Hp → VTR) : XTRs := fun V H0 env n => Up H00 H0 ∧ ts H0 env n fun m r _ n' => V.rt m r n'
theorem xr_retE (h : PE X e (eR am F0 ts)) : PS X (.Return (some e) pos) (sXR am F0 H00 (rRetE (H00 := H00) ts)) := PS.imp (ps_ret h) fun D σ H ⟨H0, F, env, n, V, rr, ⟨up, q⟩, k⟩ =>
  ⟨H0, F, env, n, _, rr, q, fun a m A r F' H' env' n' r' u ra _ q' => k.rt F' H' σ env' n' a m A r (r'.less up) u (ra.less up) q'⟩
/-- x = e, rows that stood beside are let go -/
def xSetR (i : Nat) (ts : Hp → VTR) : XTS := fun V H0 env n => ∃ Hb, Up Hb H0 ∧ ts H0 env n fun m r env1 n1 => ∀ A, MatOk am F0 Hb m A → V.nx (mat Hb m A r) (env1.set i (.ow (.lst (objD m A)))) n1
theorem xs_setR {i : Nat} {x : Str} {pos' : Pos} (hN : X.N.Nodup) (hi : X.N[i]? = some x) (hx : Loc X.env.scope x) (he : PE X e (eR am F0 ts)) (hs : swapsWith e (some (.Name x pos')) pos.line X.env = pure false := by rfl) (hf : X.fn x = true ∨ X.env.scope.names.lookup x = some .local := by first | exact .inl rfl | exact .inr rfl | assumption) :
    PS X (.Assign [.Name x pos'] e pos) (sX am F0 (xSetR (am := am) (F0 := F0) i ts)) := PS.imp (ps_set hN hi hx he hs hf) fun D σ H ⟨H0, F, env, n, V, rr, ⟨Hb, up, q⟩, k⟩ => by
  refine ⟨H0, F, env, n, _, rr, q, fun a m A r F' H' env' n' r' u ra no q' => ?_⟩
  have f0 : ∀ b, F' b = none → F0 b = none := fun b hb => none_less r'.up0 hb
  have mo : MatOk am F0 Hb m A := ⟨ra.inj, fun j hj => none_less up (ra.h j hj), fun j hj => f0 _ (ra.f j hj), ra.s⟩
  have r3 := (r'.less up).rowsIn ra.inj ra.f ra.s ra.o fun j hj l k' z => (no l k' z).2 j hj
  have h0a : mat Hb m A r a = none := by rw [mat_out ra.ne]; exact none_less up ra.ah
  exact k.nx _ F' H' _ _ n' (r3.setO (i := i) ra.af h0a ra.as ra.ao (k := .lst (objD m A)) ⟨_, rfl, rps_refs _⟩ fun l k' z => (no l k' z).1) u (q' A mo)
def vCallRb (sp : VSpR) (ta : VTA) : VTR := fun env n Q => ta env n fun ds env1 n1 => sp ds n1 fun m r n2 => Q m r env1 n2
theorem callRb_of (hP : Plain am) {sp : VSpR} {E : XK} {R : VK} {ta : Hp → VTA} (h : eR am F0 (fun H0 => vCallRb sp (ta H0)) σ H R) : tCall (vspR am sp) [] E (fun σ H R => ∃ H0, bOf ⟨am, F0, H0⟩ (ta H0) σ H R) σ H R := by
  obtain ⟨H0, F, env, n, Q, r, q, kk⟩ := h
  refine ⟨H0, F, env, n, _, r, q, fun vs H1 F1 G ds env1 n1 r1 u1 g p1 q1 => ?_⟩
  show vspR am sp (vs ++ []) H1 R E
  rw [List.append_nil]
  refine ⟨G, ds, n1, _, g.u2, g.sp, r1.ambU g.u1, p1, q1, fun a m A rw_ F' H' n' o ra qv => ?_⟩
  let F3 : Hp := fun a => match F' a with
    | some (.tup xs) => some (.tup xs)
    | _ => F1 a
  have inv : ∀ a o, F3 a = some o → (∃ xs, o = .tup xs ∧ F' a = some (.tup xs)) ∨ F1 a = some o := fun a ob e => by
    simp only [F3] at e
    split at e
    · rename_i xs e2
      exact .inl ⟨xs, (Option.some.inj e).symm, e2⟩
    · exact .inr e
  have up : Up F1 F3 := fun a ob e => by
    have e2 := o.u _ _ (g.u1 _ _ e)
    simp only [F3]
    split
    · rename_i xs e3
      rw [e3] at e2
      exact e2
    · exact e
  have r3 : Rel ⟨am, F0, H0⟩ F3 H' σ env1 n' := by
    refine r1.call up (fun a ob e => ?_) (fun a ha => ?_) (fun a oa h1 nt h2 => ?_) o.k (hP.pl o.a)
    · rcases inv a ob e with ⟨xs, rfl, e2⟩ | e2
      · exact o.s _ _ e2
      · exact o.s _ _ (o.u _ _ (g.u1 _ _ e2))
    · cases e : F3 a with
      | none => rfl
      | some ob =>
        rcases inv a ob e with ⟨xs, rfl, e2⟩ | e2
        · rw [o.f a ha] at e2; cases e2
        · rw [r1.spf a ha] at e2; cases e2
    · cases e : F3 a with
      | none => rfl
      | some ob =>
        rcases inv a ob e with ⟨xs, rfl, e2⟩ | e2
        · cases eg : G a with
          | none => rw [o.o a oa h1 nt eg] at e2; cases e2
          | some og =>
            have e3 := o.u _ _ eg
            rw [e2] at e3
            cases e3
            rw [g.tp a xs eg] at h2
            cases h2
        · rw [h2] at e2; cases e2
  have f3 : ∀ {b}, F' b = none → H1 b = none → F3 b = none := fun {b} hf hh => by
    cases e : F3 b with
    | none => rfl
    | some ob =>
      rcases inv b ob e with ⟨xs, rfl, e2⟩ | e2
      · rw [hf] at e2; cases e2
      · have := r1.sub _ _ e2
        rw [hh] at this
        cases this
  exact kk a m A rw_ F3 H' env1 n' r3 (u1.trans up) ⟨ra.inj, fun i hi => r1.H0none (ra.h i hi) (ra.s i hi), fun i hi => f3 (ra.f i hi) (ra.h i hi), ra.s, ra.o, r1.H0none ra.ah ra.as, f3 ra.af ra.ah, ra.as, ra.ao, ra.ne⟩
    (fun j k' z => ⟨r1.notOwn ra.ah j k' z, fun i hi => r1.notOwn (ra.h i hi) j k' z⟩) qv
theorem pe_callRb {sp : VSpR} {ta : Hp → VTA} (G : VFnR gd X.prog X.w X.K X.mg X.base CX k f fd ps am sp) (hgd : gd X.A) (hr : Room k X.A) (hg : Gl X fn) (hm : X.mg fn = some (.ref f)) (hk : PySem.W.keepIn X.K (.ref f) = true) (hb : Binds X.K fd ps []) (hx : Passes CX X (fun _ _ _ => False)) (ha : ∀ H0, PA X (e :: es) (bOf ⟨am, F0, H0⟩ (ta H0))) (hdb : (fn == ("__debug__" : Str)) = false := by decide)
    (he : starEach (e :: es) X.env = (false, eval e X.env) :: starEach es X.env := by rfl) (hpl : (backTo pos (starEach es X.env)).any (·.1) = false := by rfl) (hP : Plain am := by assumption) : PE X (.Call (.Name fn p) (e :: es) [] pos) (eR am F0 fun H0 => vCallRb sp (ta H0)) :=
  PE.imp (pe_callP G hgd hr hg hm hk hb hx (PA.imp (t := fun σ H R => ∃ H0, bOf ⟨am, F0, H0⟩ (ta H0) σ H R) ⟨fun pos pins s σ H Q I ⟨H0, q⟩ => (ha H0).run pos pins s σ H Q I q⟩ fun _ _ _ q => q) hdb he hpl) fun _ _ _ => callRb_of hP
end
section
variable {am : Am} {F0 : Hp} {X : Cx}
def vLcR (wi : VTI) (gv : VTG) (tn : VTN) (vs : List Nat) : VTR := fun env n Q => wi env n fun xs env1 n1 => (∀ i ∈ vs, ∀ k, env1[i]? ≠ some (.ow k)) ∧ xs.length ≤ 5000 ∧ ∃ r : Nat → List Int,
  (∀ i x, xs[i]? = some x → gv x (wipeE env1 vs) n1 fun env2 n2 => tn env2 n2 fun k env' n' => k = .lst ((r i).map Dt.int) ∧ wipeE env' vs = wipeE env1 vs ∧ n' = n1) ∧ Q xs.length r env1 n1
theorem lcR_of {wi : VTI} {g : TG} {gv : VTG} {tn : VTN} {vs : List Nat} (hg : TgOk g gv vs) {σ : L2.St} {H : Hp} {R : VK} (h : eR am F0 (fun _ => vLcR wi gv tn vs) σ H R) :
    tLc (fun σ H R => ∃ H0, iOf ⟨am, F0, H0⟩ wi σ H R) g (fun σ H R => R true H) (fun σ H R => ∃ H0, nOf ⟨am, F0, H0⟩ tn σ H R) vs σ H R := by
  obtain ⟨H0, F, env, n, Q, r, q, k⟩ := h
  refine ⟨H0, F, env, n, _, r, q, fun J H1 F1 xs env1 n1 r1 u1 wk q1 => ?_⟩
  obtain ⟨no, hlen, rr, he, fin⟩ := q1
  intro L nL
  obtain ⟨h0, ns, nf⟩ := r1.new0 nL
  have hF0 : F0 L = none := none_less r1.up0 nf
  refine ⟨fun i m H => m = xs.length - i ∧ i ≤ xs.length ∧ ∃ F' A, MatOk am F0 H0 i A ∧ mat H0 i A rr L = none ∧ Rel (Fc.wth ⟨am, F0, mat H0 i A rr⟩ L (.lst (refV i A))) F' H (L2.wipe σ vs) (wipeE env1 vs) n1 ∧ Up F1 F', ⟨_, rfl, Nat.zero_le _, F1, fun _ => L, ⟨fun i j hi => by omega, fun i hi => by omega, fun i hi => by omega, fun i hi => by omega⟩, by rw [mat_zero]; exact h0, ?_, Up.refl F1⟩, ?_⟩
  · rw [mat_zero]
    refine ((r1.wipe vs).lay nL _).push upd_same nf ns fun j k' e z => ?_
    obtain ⟨a, o, g1, _, _, _, g5, _⟩ := (r1.wipe vs).sl j _ e
    rw [g1] at z
    cases z
    rw [g5] at nL
    cases nL
  · rintro i m H2 ⟨rfl, hi, F2, A, mo, hL, r2, u2⟩
    obtain ⟨wg, ws⟩ := wk (Fc.wth ⟨am, F0, mat H0 i A rr⟩ L (.lst (refV i A))) rfl F2 H2 _ _ n1 r2 u2 i
    by_cases hlt : i < xs.length
    · obtain ⟨go, yl⟩ := wg hlt
      refine .inr ⟨go, fun H => ∃ F' A, MatOk am F0 H0 (i + 1) A ∧ mat H0 (i + 1) A rr L = none ∧ Rel (Fc.wth ⟨am, F0, mat H0 (i + 1) A rr⟩ L (.lst (refV (i + 1) A))) F' H (L2.wipe σ vs) (wipeE env1 vs) n1 ∧ Up F1 F', fun H' hN => ⟨xs.length - (i + 1), by omega, rfl, hlt, hN⟩, fun x H3 y => ?_⟩
      obtain ⟨F3, d, r3, u3, ed, rd⟩ := yl x H3 y
      refine hg _ F3 H3 _ _ n1 x d _ _ r3 rd (he i d ed) fun σ4 env4 n4 r4 hw q4 => ?_
      have hw' : L2.wipe σ4 vs = L2.wipe σ vs := hw.trans (List.ext_getElem? fun j => by
        rw [wipe_get, wipe_get, wipe_length]
        by_cases h : j ∈ vs ∧ j < σ.length
        · rw [if_pos h, if_pos h]
        · rw [if_neg h, if_neg h])
      refine ⟨hw', ?_⟩
      show (if true = true then _ else _)
      rw [if_pos rfl]
      refine ⟨upd (mat H0 i A rr) L (.lst (refV i A)), F3, env4, n4, _, r4, q4, ?_⟩
      rintro a o H4 F4 kk env5 n5 r5 u4 hF h0a nsa hH w ha ⟨rfl, ew, rfl⟩
      obtain ⟨xs', rfl, rx⟩ := w
      have ex := rx.of_ints
      subst ex
      have h0a' : upd (mat H0 i A rr) L (.lst (refV i A)) a = none := h0a
      have aL : a ≠ L := fun z => by rw [z, upd_same] at h0a'; cases h0a'
      rw [upd_ne aL] at h0a'
      have f0a : F0 a = none := none_less r5.up0 hF
      have mo' := mo.add (r := rr) h0a' f0a nsa
      have r6 := r5.push hH hF nsa ha
      have ec : Fc.wth ⟨am, F0, upd (mat H0 i A rr) L (.lst (refV i A))⟩ a (.lst ((rr i).map L2.V.int)) = Fc.wth ⟨am, F0, mat H0 (i + 1) (addA i A a) rr⟩ L (.lst (refV i A)) := by
        show (⟨am, F0, upd (upd (mat H0 i A rr) L (.lst (refV i A))) a (.lst ((rr i).map L2.V.int))⟩ : Fc) = ⟨am, F0, upd (mat H0 (i + 1) (addA i A a) rr) L (.lst (refV i A))⟩
        rw [upd_comm (Ne.symm aL), mat_add mo h0a']
      have r6' : Rel (Fc.wth ⟨am, F0, upd (mat H0 i A rr) L (.lst (refV i A))⟩ a (.lst ((rr i).map L2.V.int))) F4 H4 σ4 env5 n5 := r6
      rw [ec] at r6'
      have hL' : mat H0 (i + 1) (addA i A a) rr L = none := by
        rw [← mat_add mo h0a', upd_ne (Ne.symm aL)]; exact hL
      have eD : H4 L = some (.lst (refV i A)) := r6'.keep0 L _ (show upd _ L _ L = _ from upd_same) ns
      refine ⟨refV i A, eD, small1000 (by simp [refV]; omega), F4, addA i A a, mo', hL', ?_, (u2.trans u3).trans u4⟩
      have r7 := Rel.rewr (c := ⟨am, F0, mat H0 (i + 1) (addA i A a) rr⟩) (fun _ z => by cases z) r6' hL' hF0 ns (.lst (refV i A ++ [.ref a]))
      rw [refV_add]
      have r8 := r7.wipe2 hw'
      rw [ew] at r8
      exact r8
    · have e : i = xs.length := by omega
      subst e
      refine .inl ⟨ws (Nat.le_refl _), ?_⟩
      obtain ⟨r7, eD, fD, nD7⟩ := Rel.pop (c := ⟨am, F0, mat H0 xs.length A rr⟩) (fun _ z => by cases z) r2 hL hF0 ns
      have r8 := r1.rest2 u2 no r7
      rw [rest_wipe] at r8
      have nD8 : ∀ (j : Nat) k', env1[j]? = some (.ow k') → σ[j]? ≠ some (some (.ref L)) := fun j k' e z => by
        have hj : j ∉ vs := fun hj => no j hj k' e
        refine nD7 j k' ?_ (by rw [wipe_out hj]; exact z)
        rw [wipeE_at, if_neg fun h => hj h.1]
        exact e
      have hm : ∀ i, i < xs.length → mat H0 xs.length A rr (A i) = some (.lst ((rr i).map L2.V.int)) := fun i hi => mat_at mo.inj hi
      have ne : ∀ i, i < xs.length → A i ≠ L := fun i hi z => by rw [← z, hm i hi] at hL; cases hL
      refine k L xs.length A rr F2 H2 env1 n1 (r8.less mo.up) (u1.trans u2) ⟨mo.inj, mo.h0, fun i hi => r8.out0 _ _ (hm i hi) (fun _ z => by cases z) (mo.f0 i hi), mo.ns, fun i hi => r8.keep0 _ _ (hm i hi) (mo.ns i hi), by rw [mat_out ne] at hL; exact hL, fD, ns, eD, ne⟩ (fun j k' z => ⟨nD8 j k' z, fun i hi z2 => ?_⟩) fin
      obtain ⟨a2, o2, g1, g2, g3, _⟩ := r8.sl j _ z
      rw [g1] at z2
      cases z2
      have g3 : mat H0 xs.length A rr (A i) = none := g3
      rw [hm i hi] at g3
      cases g3
theorem pe_lcR {elt tg iter : Expr} {scope : Scope} {own : List (Str × Nat)} {pos : Pos} {wi : VTI} {g : TG} {gv : VTG} {tn : VTN} (hc : X.calm = true) (hN : X.N.Nodup) (hi : ∀ H0, PI X tg iter (iOf ⟨am, F0, H0⟩ wi)) (ok : BlkOk X.N X.env.scope scope own) (hgk : TgOk g gv (own.map (·.2)))
    (hg : ∀ (s : Shared) (H : Hp) (C : Addr) (cl : List (Str × Addr)) (fp : List Addr), PG (X.blk s H scope (compEnvC scope cl C X.env) fp) tg g)
    (he : ∀ (H0 : Hp) (s : Shared) (H : Hp) (C : Addr) (cl : List (Str × Addr)) (fp : List Addr), PE (X.blk s H scope (compEnvC scope cl C X.env) fp) elt (nOf ⟨am, F0, H0⟩ tn)) (hs : ∀ x, foldedSetIterable iter X.env x = pure x := by intro _; rfl) :
    PE X (.ListComp elt [⟨tg, iter, [], 0⟩] scope pos) (eR am F0 fun _ => vLcR wi gv tn (own.map (·.2))) :=
  PE.imp (pe_lc (wi := fun σ H R => ∃ H0, iOf ⟨am, F0, H0⟩ wi σ H R) (tt := fun σ H R => R true H) (te := fun σ H R => ∃ H0, nOf ⟨am, F0, H0⟩ tn σ H R) hc hN ⟨fun pins s σ H Q I ⟨H0, q⟩ => (hi H0).run pins s σ H Q I q⟩ ok hg
    (fun s H C cl fp => pts_nil) (fun s H C cl fp => ⟨fun pins s' σ H' Q I ⟨H0, q⟩ => (he H0 s H C cl fp).run pins s' σ H' Q I q⟩) hs) fun σ H R h => lcR_of hgk h
end
end VL
namespace VL
open PySem PySem.Spec PyProof.Rows L2 HM
section
variable {n : Nat} {m : Nat → Nat → Nat} {N : Nat} {a : Nat → Nat → Nat} {ks : List (List Nat)} {o : List Nat}
def anM (o : List Nat) (a : Nat → Nat → Nat) (y g : Nat) : Nat := tA o (a (o.idxOf y) g)
theorem ix_lt (ho : Tn N o) {y : Nat} (hy : y < N) : o.idxOf y < N := by
  rw [← ho.len]
  exact List.idxOf_lt_length_of_mem (ho.all hy)
theorem tA_ix (ho : Tn N o) {y : Nat} (hy : y < N) : tA o (o.idxOf y) = y := by
  have h1 := List.idxOf_lt_length_of_mem (ho.all hy)
  have h2 := tA_get h1
  rw [List.getElem?_eq_getElem h1, List.getElem_idxOf h1] at h2
  exact (Option.some.inj h2).symm
theorem ix_tA (ho : Tn N o) {x : Nat} (hx : x < N) : o.idxOf (tA o x) = x :=
  ho.inj (ix_lt ho (ho.at_lt hx)) hx (tA_ix ho (ho.at_lt hx))
theorem act_an (A : Act n m N a) (ho : Tn N o) : Act n m N (anM o a) := by
  refine ⟨fun y g hy hg => ho.at_lt (A.lt _ g (ix_lt ho hy) hg), fun y hy => ?_, fun y g k hy hg hk => ?_⟩
  · unfold anM
    rw [A.ze _ (ix_lt ho hy), tA_ix ho hy]
  · have hx := ix_lt ho hy
    unfold anM
    rw [ix_tA ho (A.lt _ g hx hg), A.mu _ g k hx hg hk]
def rowI (N : Nat) (a : Nat → Nat → Nat) (g : Nat) : List Int := (List.range N).map fun x => ((a x g : Nat) : Int)
theorem rowI_D (N : Nat) (a : Nat → Nat → Nat) (g : Nat) : (rowI N a g).map Dt.int = nsD ((List.range N).map fun x => a x g) := by
  unfold rowI nsD
  rw [List.map_map, List.map_map]
  rfl
theorem rowI_len (N : Nat) (a : Nat → Nat → Nat) (g : Nat) : (rowI N a g).length = N := by unfold rowI; rw [List.length_map, List.length_range]
theorem rowI_bes (N N2 : Nat) (a b : Nat → Nat → Nat) (g : Nat) : rowI (N + N2) (besM N a b) g = rowI N a g ++ (List.range N2).map fun x => ((N + b x g : Nat) : Int) := by
  unfold rowI
  rw [List.range_add, List.map_append, List.map_map]
  congr 1
  · refine List.map_congr_left fun x hx => ?_
    rw [bes_l (N2 := N2) (List.mem_range.mp hx)]
  · refine List.map_congr_left fun x _ => ?_
    show ((besM N a b (N + x) g : Nat) : Int) = _
    rw [bes_r]
/-- places, the first j things put -/
def plN (N : Nat) (o : List Nat) (f : Nat → Nat) (j : Nat) : List Nat := (List.range N).map fun y => if o.idxOf y < j then tA o (f (o.idxOf y)) else 0
theorem plN_zero (f : Nat → Nat) : plN N o f 0 = (List.range N).map fun _ => 0 := List.map_congr_left fun y _ => if_neg (Nat.not_lt_zero _)
theorem plN_len (f : Nat → Nat) (j : Nat) : (plN N o f j).length = N := by unfold plN; rw [List.length_map, List.length_range]
theorem plN_set (ho : Tn N o) (f : Nat → Nat) {j : Nat} (hj : j < N) : (plN N o f j).set (tA o j) (tA o (f j)) = plN N o f (j + 1) := by
  refine List.ext_getElem? fun y => ?_
  by_cases hy : y < N
  · by_cases z : tA o j = y
    · subst z
      rw [List.getElem?_set_self (by rw [plN_len]; exact hy)]
      unfold plN
      rw [List.getElem?_map, List.getElem?_range hy]
      show _ = some (if o.idxOf (tA o j) < j + 1 then tA o (f (o.idxOf (tA o j))) else 0)
      rw [ix_tA ho hj, if_pos (Nat.lt_succ_self j)]
    · rw [List.getElem?_set_ne z]
      unfold plN
      rw [List.getElem?_map, List.getElem?_map, List.getElem?_range hy]
      have : o.idxOf y ≠ j := fun w => z (by rw [← w, tA_ix ho hy])
      show some (if o.idxOf y < j then _ else _) = some (if o.idxOf y < j + 1 then _ else _)
      by_cases w : o.idxOf y < j
      · rw [if_pos w, if_pos (by omega)]
      · rw [if_neg w, if_neg (by omega)]
  · rw [List.getElem?_eq_none (by rw [List.length_set, plN_len]; omega), List.getElem?_eq_none (by rw [plN_len]; omega)]
theorem plN_all (ho : Tn N o) (a : Nat → Nat → Nat) (g : Nat) : plN N o (fun x => a x g) N = (List.range N).map fun y => anM o a y g :=
  List.map_congr_left fun y hy => if_pos (ix_lt ho (List.mem_range.mp hy))
end
end VL
namespace VL
open PySem PySem.Spec PyProof.Rows L2 HM
section
variable {am : Am} {F0 H0 F H : Hp} {n t : Nat} {A : Nat → Addr} {r : Nat → List Int} {σ : L2.St} {env : Ev} {a : Addr}
theorem Rel.rowsF2 (m : MatOk am F0 H0 n A) (q : Rel ⟨am, F0, mat H0 n A r⟩ F H σ env t) : Up F (mat F n A r) ∧ Rel ⟨am, F0, H0⟩ (mat F n A r) H σ env t ∧ ∀ i, i < n → Rp (mat F n A r) (.ref (A i)) (.lst ((r i).map Dt.int)) := by
  have fi : ∀ i, i < n → F (A i) = none := fun i hi => q.out0 (A i) _ (mat_at m.inj hi) (fun _ z => by cases z) (m.f0 i hi)
  have hi' : ∀ i, i < n → H (A i) = some (.lst ((r i).map V.int)) := fun i hi => q.keep0 (A i) _ (mat_at m.inj hi) (m.ns i hi)
  have up : Up F (mat F n A r) := fun b o e => by
    rw [mat_out fun i hi z => by rw [← z, fi i hi] at e; cases e]
    exact e
  have inv : ∀ b o, mat F n A r b = some o → (∃ i, i < n ∧ A i = b ∧ o = .lst ((r i).map V.int)) ∨ ((∀ i, i < n → A i ≠ b) ∧ F b = some o) := fun b o e => by
    rcases mat_some e with ⟨i, hi, rfl⟩ | ⟨h1, h2⟩
    · rw [mat_at m.inj hi] at e
      exact .inl ⟨i, hi, rfl, (Option.some.inj e).symm⟩
    · exact .inr ⟨h1, h2⟩
  refine ⟨up, ⟨fun b o e => ?_, fun b hb => ?_, q.ambU up, q.up0.trans up, fun b ob h1 nt h2 => ?_, fun b u e nb => ?_, q.len, fun j s e => ?_, q.apart⟩, fun i hi => .lst (mat_at m.inj hi) (Rps.ints _)⟩
  · rcases inv b o e with ⟨i, hi, rfl, rfl⟩ | ⟨_, h2⟩
    · exact hi' i hi
    · exact q.sub b o h2
  · rw [mat_out (a := b) fun i hi (z : A i = b) => m.ns i hi (by rw [z]; exact hb)]; exact q.spf b hb
  · have h1' : H0 b = some ob := h1
    have ne : ∀ i, i < n → A i ≠ b := fun i hi z => by rw [← z, m.h0 i hi] at h1'; cases h1'
    rw [mat_out ne]
    exact q.out0 b ob (by show mat H0 n A r b = some ob; rw [mat_out ne]; exact h1') nt h2
  · have h1' : H0 b = some u := e
    have ne : ∀ i, i < n → A i ≠ b := fun i hi z => by rw [← z, m.h0 i hi] at h1'; cases h1'
    exact q.keep0 b u (by show mat H0 n A r b = some u; rw [mat_out ne]; exact h1') nb
  · have qs := q.sl j s e
    cases s with
    | no => trivial
    | fz d => exact let ⟨v, g1, g2⟩ := qs; ⟨v, g1, g2.up up⟩
    | ow kk =>
      obtain ⟨a2, o2, g1, g2, g3, g4, g5, g6⟩ := qs
      have g3' : mat H0 n A r a2 = none := g3
      have ne : ∀ i, i < n → A i ≠ a2 := fun i hi z => by rw [← z, mat_at m.inj hi] at g3'; cases g3'
      refine ⟨a2, o2, g1, by rw [mat_out ne]; exact g2, by show H0 a2 = none; rw [mat_out ne] at g3'; exact g3', g4, g5, g6.up up⟩
theorem set_self {i : Nat} {v : L2.V} (e : σ[i]? = some (some v)) : σ.set i (some v) = σ := by
  refine List.ext_getElem? fun j => ?_
  by_cases z : j = i
  · subst z
    rw [List.getElem?_set_self (List.getElem?_eq_some_iff.mp e).1, e]
  · rw [List.getElem?_set_ne (Ne.symm z)]
theorem env_set_set {i : Nat} {x y : Sl} : (env.set i x).set i y = env.set i y := List.set_set ..
variable {X : Cx} {e : Expr} {tt : VTT}
/-- a test, the rows named by slot i and their list held still while it is made -/
def vFrzTR (c : Fc) (i : Nat) (tt : VTT) : VTT := fun env n Q => ∃ Hb m A r, c.H0 = mat Hb m A r ∧ MatOk c.am c.F0 Hb m A ∧ env[i]? = some (.ow (.lst (objD m A))) ∧
  tt ((hid env).set i (.fz (.lst (rowsDt m r)))) n fun b env2 n2 => env2 = (hid env).set i (.fz (.lst (rowsDt m r))) ∧ Q b env n2
theorem vt_frzR {i : Nat} (h : ∀ F0 H0, PT X e (cOf ⟨am, F0, H0⟩ tt)) (hP : Plain am := by assumption) : PT X e (cOf ⟨am, F0, H0⟩ (vFrzTR ⟨am, F0, H0⟩ i tt)) :=
  PT.imp (t := fun σ H R => ∃ F0 H0, cOf ⟨am, F0, H0⟩ tt σ H R) ⟨fun pins s σ H Q I ⟨F0, H0, q⟩ => (h F0 H0).run pins s σ H Q I q⟩ fun σ H R ⟨F, env, n, Q, rr, ⟨Hb, m, A, r, e0, mo, ei, q⟩, k⟩ => by
    have e0 : H0 = mat Hb m A r := e0
    subst e0
    obtain ⟨up1, r1, hr⟩ := Rel.rowsF2 mo rr
    obtain ⟨a, xs, hH, hF, hσ, up, r2⟩ := r1.intoS ei
    have hi : i < (hid env).length := by rw [hid_len]; exact (List.getElem?_eq_some_iff.mp ei).1
    have rv : Rp (upd (mat F m A r) a (.lst xs)) (.ref a) (.lst (rowsDt m r)) := by
      obtain ⟨v, g1, g2⟩ := r2.sl i _ (List.getElem?_set_self hi)
      rw [hσ] at g1
      cases g1
      obtain ⟨a', xs', ea, hF2, rx⟩ := g2.lst_inv
      cases ea
      exact .lst hF2 (rps_objs rx fun j hj => (hr j (List.mem_range.mp hj)).up up)
    have r3 := r2.setF (i := i) rv
    rw [set_self hσ, env_set_set] at r3
    refine ⟨_, H, _, _, n, _, r3, q, fun b H2 F2 env2 n2 r4 u4 q2 => ?_⟩
    obtain ⟨_, q2⟩ := q2
    have aA : ∀ i, i < m → A i ≠ a := fun i hi z => by rw [← z, mat_at mo.inj hi] at hF; cases hF
    refine k b H2 _ env n2 (rr.outS hP (up1.trans up) (fun b ys z => ?_) (fun j k' b ej eb => ?_) u4 r4) (onlyT_up ((up1.trans up).trans u4)) q2
    · by_cases w : b = a
      · subst w; rw [upd_same] at z; cases z
      · rw [upd_ne w] at z
        by_cases y : ∃ i, i < m ∧ A i = b
        · obtain ⟨i, hi, rfl⟩ := y
          rw [mat_at mo.inj hi] at z
          cases z
        · rwa [mat_out fun i hi z => y ⟨i, hi, z⟩] at z
    · obtain ⟨b', o, g1, g2, g3, g4, g5, g6⟩ := rr.sl j _ ej
      rw [eb] at g1
      cases g1
      by_cases w : b = a
      · subst w
        exact .inr ⟨xs, u4 _ _ upd_same⟩
      · refine .inl (r4.out0 b o g5 g6.nt ?_)
        show upd (mat F m A r) a (.lst xs) b = none
        have g3' : mat Hb m A r b = none := g3
        rw [upd_ne w, mat_out fun i hi z => by rw [← z, mat_at mo.inj hi] at g3'; cases g3']
        exact g2
end
def isObj : Dt → Bool
  | .obj _ => true
  | _ => false
mutual
/-- no list of bare things in it -/
def clean : Dt → Bool
  | .lst ds => ds.all (fun d => !isObj d) && cleans ds
  | .tup ds => cleans ds
  | .tuP ds => cleans ds
  | .dic _ ds => cleans ds
  | .dik _ ds => cleans ds
  | _ => true
def cleans : List Dt → Bool
  | [] => true
  | d :: ds => clean d && cleans ds
end
def cleanS : Sl → Bool
  | .no => true
  | .fz d => clean d
  | .ow (.lst ds) => cleans ds
  | .ow _ => false
end VL
namespace VL
open PySem PySem.Spec PyProof.Rows L2 HM
open Classical in
noncomputable def less (H : Hp) (m : Nat) (A : Nat → Addr) : Hp := fun b => if ∃ i, i < m ∧ A i = b then none else H b
theorem pss_penTBX {X : Cx} {b : List Stmt} {K : PySem.W.Frag} {Ps : List Addr} {ts : Am → Hp → Hp → Addr → VTS} (h : ∀ (am : Am) (p : Addr), PenB K am p → (∀ P ∈ Ps, TabIn am P) → ∀ F0 H0, PSs X b (sOf ⟨am, F0, H0⟩ (ts am F0 H0 p))) : PSs X b (fun D σ H => ∃ am p, PenB K am p ∧ (∀ P ∈ Ps, TabIn am P) ∧ ∃ F0 H0, sOf ⟨am, F0, H0⟩ (ts am F0 H0 p) D σ H) :=
  ⟨fun pins s σ H D I ⟨am, p, PI, TI, F0, H0, q⟩ => (h am p PI TI F0 H0).run pins s σ H D I q⟩
theorem pen_startTBX {K : PySem.W.Frag} {H : Hp} {a p b : Addr} {ns : List Int} {D : Ends} {ts : Am → Hp → Hp → Addr → VTS} {σ : L2.St} {rest : List (Option V)} {Ps : List Addr} (eσ : σ = some (.ref a) :: some (.ref p) :: rest) (hl : ns.length ≤ 63) (hT : ∀ P ∈ Ps, GxR.TabG H P) (hp : H p = some (.dK (pk3 b 0 0))) (hb : H b = some (.lst (ns.map V.int))) (hD : ∀ H', D.rt (.bl true) H')
    (q : ∀ am F0 H0, ts am F0 H0 p { nx := fun _ _ => False, rt := fun d _ => d = .bl true } (.no :: .fz (.obj p) :: rest.map fun _ => .no) 0) :
    ∃ am p', PenB K am p' ∧ (∀ P ∈ Ps, TabIn am P) ∧ ∃ F0 H0, sOf ⟨am, F0, H0⟩ (ts am F0 H0 p') D σ H := by
  subst eσ
  refine ⟨tabAm (penAmB p b ns) Ps, p, tab_penB (penB_in hl), fun P hP => tab_in penB_notab hP, fun _ => none, H, fun _ => none, _, 0, _, ?_, q _ _ _, ⟨fun _ _ _ _ _ _ _ z => z.elim, fun F' H' σ' env' n' v d _ _ rv e => ?_, fun _ _ _ _ _ _ _ z => z.elim, fun _ _ _ _ _ _ _ z => z.elim⟩⟩
  · refine ⟨fun _ _ e => (by cases e), fun _ _ => rfl, ⟨⟨⟨0, 0, hp, by decide, by decide⟩, hb⟩, hT⟩, fun _ _ e => e, fun _ _ _ _ e => e, fun _ _ e _ => e, by simp, fun i s e => ?_, fun i j b k k' _ e1 _ _ => ?_⟩
    · match i, e with
      | 0, e => cases e; trivial
      | 1, e => cases e; exact ⟨_, rfl, .obj p⟩
      | i + 2, e =>
        have e' : (rest.map fun _ => Sl.no)[i]? = some s := e
        rw [List.getElem?_map] at e'
        obtain ⟨_, _, rfl⟩ := Option.map_eq_some_iff.mp e'
        trivial
    · match i, e1 with
      | 0, e => cases e
      | 1, e => cases e
      | i + 2, e =>
        have e' : (rest.map fun _ => Sl.no)[i]? = some (.ow k) := e
        rw [List.getElem?_map] at e'
        obtain ⟨_, _, z⟩ := Option.map_eq_some_iff.mp e'
        cases z
  · have e' : d = .bl true := e
    rw [e'] at rv
    rw [rv.bl_inv]
    exact hD H'
end VL
namespace HM
open PySem PySem.Spec PyProof.Rows L2 PpSet
section
variable {X : Cx}
/-- what each turn of the set owes: D the new set -/
def scTurn (w : World) (g : TG) (te : TE) (vs : List Nat) (D : Addr) (σ : L2.St) (Nx : Hp → Prop) (x : V) (H' : Hp) : Prop :=
  g x (wipe σ vs) H' fun σ2 H2 => wipe σ2 vs = wipe σ vs ∧ te σ2 H2 fun y H4 =>
    ∃ (c : Int) (S : Int → Bool) (n : Nat), y = .int c ∧ H4 D = some (SetO w D S n) ∧ n + 1 < scanBound ∧ Nx (upd H4 D (SetO w D (fun j => S j || decide (j = c)) (if S c = true then n else n + 1)))
def scLoop (w : World) (J : L2.It) (g : TG) (te : TE) (vs : List Nat) (D : Addr) (σ : L2.St) (Q : VK) (W : Nat → Nat → Hp → Prop) : Prop :=
  ∀ i m H, W i m H → (J.stop i H ∧ Q (.ref D) H) ∨ (J.go i H ∧ ∃ Nx : Hp → Prop, (∀ H', Nx H' → ∃ m', m' < m ∧ W (i + 1) m' H') ∧ ∀ x H', J.yld i H x H' → scTurn w g te vs D σ Nx x H')
def tScI (w : World) (wi : TI) (g : TG) (te : TE) (vs : List Nat) : TE := fun σ H Q => wi σ H fun J H1 => ∀ D, H1 D = none →
  ∃ W : Nat → Nat → Hp → Prop, (∃ m, W 0 m (upd H1 D (SetO w D (fun _ => false) 0))) ∧ scLoop w J g te vs D σ Q W
theorem addI_run {pins : List (Addr × Obj)} {σ : L2.St} {H : Hp} {s : Shared} {E : Value → Shared → Prop} {D : Addr} {S : Int → Bool} {n : Nat} {y : Int} {t : Tok} {Q : Value → Shared → Prop} (I : Inv X pins σ H s) (hD : H D = some (SetO X.w D S n)) (room : n + 1 < scanBound)
    (h : ∀ s', Inv X pins σ (upd H D (SetO X.w D (fun j => S j || decide (j = y)) (if S y = true then n else n + 1))) s' → Q .none s') : wpAny (model X.prog X.w) X.A (call (.builtin "set.add") [.ref D, .int y t]) Q E s := by
  refine setR_add (setO_get I hD) room fun h' sb nw => ?_
  obtain ⟨o, ho⟩ : ∃ u, h'.get? D = some u := let ⟨o, _, _, _, ho, _⟩ := nw; ⟨o, ho⟩
  exact h _ (I.write (e := D) (t' := s.toks + 1) (by rw [hD]; trivial) (.inl rfl) (fun b u hb hu => (sb.2 b hb).trans hu) ⟨o, ho⟩ (setO_new nw))
theorem pe_scI {elt tg iter : Expr} {scope : Scope} {own : List (PySem.Str × Nat)} {pos : Pos} {wi : TI} {g : TG} {te : TE} (hc : X.calm = true) (hN : X.N.Nodup) (hi : PI X tg iter wi) (ok : BlkOk X.N X.env.scope scope own)
    (hg : ∀ (s : Shared) (H : Hp) (C : Addr) (cl : List (PySem.Str × Addr)) (fp : List Addr), PG (X.blk s H scope (compEnvC scope cl C X.env) fp) tg g)
    (he : ∀ (s : Shared) (H : Hp) (C : Addr) (cl : List (PySem.Str × Addr)) (fp : List Addr), PE (X.blk s H scope (compEnvC scope cl C X.env) fp) elt te) (hs : ∀ x, foldedSetIterable iter X.env x = pure x := by intro _; rfl) :
    PE X (.SetComp elt [⟨tg, iter, [], 0⟩] scope pos) (tScI X.w wi g te (own.map (·.2))) := by
  refine ⟨fun pins s σ H Q I h => ?_⟩
  rw [PpSet.eval_SetComp]
  have hfr : ∀ y ∈ scope.names, y.2 = .free → ∃ c, X.env.cells.lookup y.1 = some c := fun y hy e => (ok.free y hy e).elim (fun k => I.ok.has _ (.inl k)) fun k => I.ok.has _ (.inr k)
  refine wpAny_comprehension_free (use := none) rfl hs (closure_ok hfr) ok.kind (fun y hy e => by rw [ok.uniq y hy, e]) (thn (hi.run pins s σ H _ I h) fun xv sA hx => thn hx fun itv sB hB => ?_)
  obtain ⟨it, fp, tn, J, HB, e, IB, T, stB, fB, q⟩ := hB
  subst e
  refine newSet_ok (newEnv_comp ?_)
  obtain ⟨D, hD⟩ : ∃ D, D = sB.heap.objs.size := ⟨_, rfl⟩
  rw [← hD]
  obtain ⟨W, ⟨m0, w0⟩, turn⟩ := q D (IB.hok.fresh (Nat.le_of_eq hD.symm))
  obtain ⟨oS, hoS⟩ : ∃ oS : Obj, oS = { cls := .type "set", dict := none, data := .set #[] 0 (.fresh 0 0 (!X.w.params.followText "set-order")) } := ⟨_, rfl⟩
  rw [← hoS]
  obtain ⟨sC, hsC⟩ : ∃ sC : Shared, sC = { sB with heap := sB.heap.push oS } := ⟨_, rfl⟩
  rw [← hsC]
  obtain ⟨HC, hHC⟩ : ∃ HC, HC = upd HB D (SetO X.w D (fun _ => false) 0) := ⟨_, rfl⟩
  rw [← hHC] at w0
  have IC : Inv X pins σ HC sC := by
    rw [hsC, hHC, hoS]
    refine IB.laid (t' := sB.toks) (fun b o e => Heap.get?_push_of_some _ e) (Nat.le_of_eq hD.symm) ?_
    rw [hD]
    exact setO_new (setR_fresh X.w)
  have hpC : sC.heap = sB.heap.push oS := by rw [hsC]
  have szB : ∀ b ∈ fp, b < sB.heap.objs.size := fun b hb => let ⟨o, e, _⟩ := T.obj _ _ stB b hb; Heap.lt_size e
  have fC : ∀ b ∈ fp, FpOk X pins HC b ∧ b < sC.heap.objs.size := fun b hb => by
    have hlt := szB b hb
    refine ⟨⟨?_, (fB b hb).2⟩, by rw [hpC, Heap.size_push]; exact Nat.lt_succ_of_lt hlt⟩
    rw [hHC, upd_ne (by rw [hD]; exact Nat.ne_of_lt hlt)]
    exact (fB b hb).1
  have stC : tn 0 sC.heap := T.keep _ _ _ stB fun b _ o e => by rw [hpC]; exact Heap.get?_push_of_some _ e
  have IK := block_start IC ok hN fC
  have pg := hg sC HC sC.heap.objs.size (cellsFrom (sC.heap.objs.size + 1) scope.names (cloFrom X.env.cells scope.names [])) fp
  have pe := he sC HC sC.heap.objs.size (cellsFrom (sC.heap.objs.size + 1) scope.names (cloFrom X.env.cells scope.names [])) fp
  show codeAny _ _ (.compStart (.SetComp elt [⟨tg, iter, [], 0⟩] scope pos) 0 (.ref it) (.ref D) (compEnvC scope (cellsFrom (sC.heap.objs.size + 1) scope.names (cloFrom X.env.cells scope.names [])) sC.heap.objs.size X.env)) _ { sC with heap := pushCells (sC.heap.push { cls := .type "dict", data := .dict #[] }) scope.names }
  have nfp : ∀ b ∈ fp, HC b = none := fun b hb => (fC b hb).1.1
  generalize hce : compEnvC scope (cellsFrom (sC.heap.objs.size + 1) scope.names (cloFrom X.env.cells scope.names [])) sC.heap.objs.size X.env = ce at IK pg pe ⊢
  have cL : ce.locals = sC.heap.objs.size := by subst hce; rfl
  generalize hsD : ({ sC with heap := pushCells (sC.heap.push { cls := .type "dict", data := .dict #[] }) scope.names } : Shared) = sD at IK ⊢
  have stD : tn 0 sD.heap := T.keep _ _ _ stC fun b _ o e => by rw [← hsD]; exact pushCells_keeps _ _ _ _ (Heap.get?_push_of_some _ e)
  have still : ∀ {σ' : L2.St} {H' : Hp} {s' : Shared}, Inv (X.blk sC HC scope ce fp) [] σ' H' s' → (∀ b ∈ fp, H' b = none) → ∀ b ∈ fp, FpOk (X.blk sC HC scope ce fp) [] H' b := fun {σ' H' s'} I' hn b hb =>
    ⟨hn b hb, (I'.ok.exf b hb).1, I'.ok.exfs b hb, .inl hb, fun x c e => (I'.ok.exf b hb).2 x c e, fun p hp => absurd (show p ∈ ([] : List (Addr × Obj)) ++ [] from hp) (by simp)⟩
  have loop : codeAny (model X.prog X.w) X.A (.compLoop (.SetComp elt [⟨tg, iter, [], 0⟩] scope pos) 0 (.ref it) (.ref D) ce) (compPost (model X.prog X.w) X.A X.xe none (EP X pins σ Q) (.ref D) sC.heap.objs.size) sD := by
    refine compLoopS_any (fun n s' => ∃ i H', Inv (X.blk sC HC scope ce fp) [] (wipe σ (own.map (·.2))) H' s' ∧ tn i s'.heap ∧ (∀ b ∈ fp, H' b = none) ∧ W i n H') ?_ m0 ⟨0, HC, IK, stD, nfp, w0⟩
    rintro n sE ⟨i, HE, IE, stE, nE, wE⟩
    rcases turn i n HE wE with ⟨stop, qq⟩ | ⟨go, Nx, hNx, step⟩
    · refine thnF (T.done (X.blk sC HC scope ce fp) rfl rfl rfl hc i [] sE _ HE (fun _ _ => False) IE (still IE nE) stE stop) fun r sF ⟨hr, IF⟩ => ?_
      subst hr
      have IG : Inv X pins σ HE sF := IC.call' (ch := fp) IF.os IF.base IF.hok IF.bare fun b hb => ⟨(fC b hb).1.2.2.2.1, (fC b hb).1.2.1, (fC b hb).1.2.2.2.2.1, (fC b hb).1.2.2.2.2.2⟩
      have nC : HE sC.heap.objs.size = none := by
        have z : HE ce.locals = none := IF.free
        rwa [cL] at z
      obtain ⟨m, hn, _⟩ := IF.loc
      have hn : sF.heap.Ns ce.locals m := hn
      rw [cL] at hn
      refine ⟨m, hn, fun h'' sb => ?_⟩
      obtain ⟨f0, f1, f2, f3, f4, f5⟩ := IC.fpOk (Nat.le_refl _) nC
      exact ⟨.ref D, HE, IG.turned (t' := sF.toks) (fun b o hb e => (sb.2 b hb).trans e) f0 f1 f3 f4 f5, rfl, qq⟩
    · refine thnF (T.item (X.blk sC HC scope ce fp) rfl rfl rfl hc i [] sE _ HE (fun _ _ => False) IE (still IE nE) stE go) fun r sF ⟨u, hr, h6⟩ => ?_
      subst hr
      refine thnF h6 fun _ sG ⟨x, HG, IG, rG, yG, stG, nG⟩ => ?_
      have IG' := IG.pinned (still IG nG) (T.obj _ _ stG)
      refine thnF (pg.run _ sG _ HG x u _ IG' rG (step x HG yG)) fun _ sI ⟨σI, HI, II, hwI, qI⟩ => ?_
      -- behind the (empty) tests
      refine thnF ((pts_nil (X := X.blk sC HC scope ce fp)).run _ sI σI HI (fun b H' => b = true ∧ H' = HI) II ⟨rfl, rfl⟩) fun b sJ ⟨HJ, IJ, eb, eH⟩ => ?_
      subst eb eH
      simp only [if_true]
      refine thnF (pe.run _ sJ σI HJ _ IJ qI) fun z sL ⟨yv, HL, IL, rL, cb, S0, n0, ey, hDL, hzL, nx⟩ => ?_
      subst ey
      obtain ⟨tk, rfl⟩ : ∃ t, z = Value.int cb t := rL
      refine addI_run (X := X.blk sC HC scope ce fp) IL hDL hzL fun sM IM => ?_
      obtain ⟨m', hm, w'⟩ := hNx _ nx
      have pin' : ∀ b ∈ fp, ∀ o, sG.heap.get? b = some o → sM.heap.get? b = some o ∧ upd HL D (SetO X.w D (fun j => S0 j || decide (j = cb)) (if S0 cb = true then n0 else n0 + 1)) b = none := fun b hb o e =>
        let z := IM.pin (b, o) (List.mem_append_right _ (List.mem_append_right _ (mem_pinsAt hb e)))
        ⟨z.1, z.2.1⟩
      refine ⟨m', hm, i + 1, _, (IM.unpinned (pins := [])).weak (by rw [← hwI, wipe_length]) (fun j v e => ?_), T.keep _ _ _ stG fun b hb o e => (pin' b hb o e).1, fun b hb => ?_, w'⟩
      · rw [← hwI] at e
        exact (wipe_some e).1
      · obtain ⟨o, e, _⟩ := T.obj _ _ stG b hb
        exact (pin' b hb o e).2
  exact PpSet.codeAny_compStart_set loop (T.self X.A 0 _ _ _ stD loop)
end
end HM
namespace VL
open PySem PySem.Spec PyProof.Rows L2 HM
section
variable {am : Am} {F0 H0 : Hp} {X : Cx}
/-- {e for x in xs}: f i the i-th whole number -/
def vScI (w : World) (iv : Nat) (wi : VTI) (te : VTE) (vs : List Nat) : VTN := fun env n Q => wi env n fun xs env1 n1 => (∀ i ∈ vs, ∀ k, env1[i]? ≠ some (.ow k)) ∧ xs.length ≤ 1000 ∧ iv ∈ vs ∧ ∃ f : Nat → Int,
  (∀ i x, xs[i]? = some x → ∀ R : Dt → Ev → Nat → Prop, R (.int (f i)) ((wipeE env1 vs).set iv (.fz x)) n1 → te ((wipeE env1 vs).set iv (.fz x)) n1 R) ∧
  ∀ S c, (∀ j, S j = true ↔ ∃ i, i < xs.length ∧ f i = j) → c ≤ xs.length → Q (.set w S c) env1 n1
theorem scI_of {w : World} {iv : Nat} {wi : VTI} {te : VTE} {vs : List Nat} {te' : TE} (he : ∀ (F0 H0 : Hp) {σ H R}, tOf ⟨am, F0, H0⟩ te σ H R → te' σ H R) {σ : L2.St} {H : Hp} {R : VK} (h : nOf ⟨am, F0, H0⟩ (vScI w iv wi te vs) σ H R) :
    tScI w (iOf ⟨am, F0, H0⟩ wi) (gName iv) te' vs σ H R := by
  obtain ⟨F, env, n, Q, r, q, k⟩ := h
  refine ⟨F, env, n, _, r, q, fun J H1 F1 xs env1 n1 r1 u1 wk q1 => ?_⟩
  obtain ⟨no, hlen, hiv, f, hf, fin⟩ := q1
  intro D nD
  obtain ⟨h0, ns, nf⟩ := r1.new0 nD
  have hF0 : F0 D = none := by
    cases e : F0 D with
    | none => rfl
    | some o => rw [r1.up0 D o e] at nf; cases nf
  have nto : ∀ (S : Int → Bool) (c : Nat), NT (SetO w D S c) := fun S c _ z => by cases z
  refine ⟨fun i m H => m = xs.length - i ∧ i ≤ xs.length ∧ ∃ F' S c, Rel (Fc.wth ⟨am, F0, H0⟩ D (SetO w D S c)) F' H (L2.wipe σ vs) (wipeE env1 vs) n1 ∧ Up F1 F' ∧ c ≤ i ∧ ∀ j, S j = true ↔ ∃ i', i' < i ∧ f i' = j, ⟨_, rfl, Nat.zero_le _, F1, _, _, ((r1.wipe vs).lay nD _).push upd_same nf ns fun j k' e z => ?_, Up.refl F1, Nat.le_refl _, fun j => ⟨fun z => (by cases z), fun ⟨i', hi, _⟩ => absurd hi (Nat.not_lt_zero _)⟩⟩, ?_⟩
  · obtain ⟨a, o, g1, _, _, _, g5, _⟩ := (r1.wipe vs).sl j _ e
    rw [g1] at z
    cases z
    rw [g5] at nD
    cases nD
  · rintro i m H2 ⟨rfl, hi, F2, S, c, r2, u2, hc, hS⟩
    obtain ⟨wg, ws⟩ := wk (Fc.wth ⟨am, F0, H0⟩ D (SetO w D S c)) rfl F2 H2 _ _ n1 r2 u2 i
    by_cases hlt : i < xs.length
    · obtain ⟨go, yl⟩ := wg hlt
      refine .inr ⟨go, fun H' => ∃ F' S c, Rel (Fc.wth ⟨am, F0, H0⟩ D (SetO w D S c)) F' H' (L2.wipe σ vs) (wipeE env1 vs) n1 ∧ Up F1 F' ∧ c ≤ i + 1 ∧ ∀ j, S j = true ↔ ∃ i', i' < i + 1 ∧ f i' = j, fun H' hN => ⟨xs.length - (i + 1), by omega, rfl, hlt, hN⟩, fun x H3 y => ?_⟩
      obtain ⟨F3, d, r3, u3, ed, rd⟩ := yl x H3 y
      have hw : L2.wipe ((L2.wipe σ vs).set iv (some x)) vs = L2.wipe σ vs := by
        rw [wipe_set hiv]
        exact List.ext_getElem? fun j => by
          rw [wipe_get, wipe_get, wipe_length]
          by_cases h : j ∈ vs ∧ j < σ.length
          · rw [if_pos h, if_pos h]
          · rw [if_neg h, if_neg h]
      refine ⟨hw, he F0 (upd H0 D (SetO w D S c)) ⟨F3, (wipeE env1 vs).set iv (.fz d), n1, fun d' env' n' => d' = .int (f i) ∧ env' = (wipeE env1 vs).set iv (.fz d) ∧ n' = n1, r3.setF rd, hf i d ed _ ⟨rfl, rfl, rfl⟩, ?_⟩⟩
      rintro v H4 F4 d4 env4 n4 r4 u4 rv ⟨rfl, rfl, rfl⟩
      have r4' : Rel (Fc.wth ⟨am, F0, H0⟩ D (SetO w D S c)) F4 H4 _ _ n4 := r4
      refine ⟨f i, S, c, rv.int_inv, r4'.keep0 D _ (show upd H0 D _ D = _ from upd_same) ns, Nat.lt_of_le_of_lt (show c + 1 ≤ 1001 by omega) (by decide), F4, fun j => S j || decide (j = f i), if S (f i) = true then c else c + 1, ?_, (u2.trans u3).trans u4, ?_, fun j => ?_⟩
      · have r6 := Rel.rewr (c := ⟨am, F0, H0⟩) (nto S c) r4' h0 hF0 ns (SetO w D (fun j => S j || decide (j = f i)) (if S (f i) = true then c else c + 1)) (fun _ _ z => by cases z)
        have r7 := r6.wipe2 hw
        rw [wipeE_set hiv, wipeE_idem] at r7
        exact r7
      · split <;> omega
      · rw [Bool.or_eq_true, decide_eq_true_iff, hS]
        constructor
        · rintro (⟨i', h1, h2⟩ | rfl)
          · exact ⟨i', by omega, h2⟩
          · exact ⟨i, by omega, rfl⟩
        · rintro ⟨i', h1, h2⟩
          rcases Nat.lt_or_ge i' i with z | z
          · exact .inl ⟨i', z, h2⟩
          · have : i' = i := by omega
            subst this
            exact .inr h2.symm
    · have e : i = xs.length := by omega
      subst e
      refine .inl ⟨ws (Nat.le_refl _), ?_⟩
      obtain ⟨r7, eD, fD, nD7⟩ := Rel.pop (c := ⟨am, F0, H0⟩) (nto S c) r2 h0 hF0 ns
      have r8 := r1.rest2 u2 no r7
      rw [rest_wipe] at r8
      refine k D _ H2 F2 (.set w S c) env1 n1 r8 (u1.trans u2) fD h0 ns eD rfl (fun j k' e z => ?_) (fin S c hS hc)
      have hj : j ∉ vs := fun hj => no j hj k' e
      refine nD7 j k' ?_ (by rw [wipe_out hj]; exact z)
      rw [wipeE_at, if_neg fun h => hj h.1]
      exact e
theorem vn_scI0 {iv : Nat} {elt tg iter : Expr} {scope : Scope} {own : List (Str × Nat)} {pos : Pos} {wi : VTI} {te : VTE} (hc : X.calm = true) (hN : X.N.Nodup) (hi : PI X tg iter (iOf ⟨am, F0, H0⟩ wi)) (ok : BlkOk X.N X.env.scope scope own)
    (hg : ∀ (s : Shared) (H : Hp) (C : Addr) (cl : List (Str × Addr)) (fp : List Addr), PG (X.blk s H scope (compEnvC scope cl C X.env) fp) tg (gName iv))
    (he : ∀ (F0 H0 : Hp) (s : Shared) (H : Hp) (C : Addr) (cl : List (Str × Addr)) (fp : List Addr), PE (X.blk s H scope (compEnvC scope cl C X.env) fp) elt (tOf ⟨am, F0, H0⟩ te)) (hs : ∀ x, foldedSetIterable iter X.env x = pure x := by intro _; rfl) :
    PE X (.SetComp elt [⟨tg, iter, [], 0⟩] scope pos) (nOf ⟨am, F0, H0⟩ (vScI X.w iv wi te (own.map (·.2)))) :=
  PE.imp (pe_scI (te := fun σ H R => ∃ F0 H0, tOf ⟨am, F0, H0⟩ te σ H R) hc hN hi ok hg (fun s H C cl fp => ⟨fun pins s' σ H' Q I ⟨F0, H0, q⟩ => (he F0 H0 s H C cl fp).run pins s' σ H' Q I q⟩) hs)
    fun σ H R h => scI_of (fun F0 H0 _ _ _ q => ⟨F0, H0, q⟩) h
theorem vn_scI {iv : Nat} {elt tg iter : Expr} {scope : Scope} {own : List (Str × Nat)} {pos : Pos} {wi : VTI} {te : VTE} (w : World) (hw : X.w = w) (hc : X.calm = true) (hN : X.N.Nodup) (hi : PI X tg iter (iOf ⟨am, F0, H0⟩ wi)) (ok : BlkOk X.N X.env.scope scope own)
    (hg : ∀ (s : Shared) (H : Hp) (C : Addr) (cl : List (Str × Addr)) (fp : List Addr), PG (X.blk s H scope (compEnvC scope cl C X.env) fp) tg (gName iv))
    (he : ∀ (F0 H0 : Hp) (s : Shared) (H : Hp) (C : Addr) (cl : List (Str × Addr)) (fp : List Addr), PE (X.blk s H scope (compEnvC scope cl C X.env) fp) elt (tOf ⟨am, F0, H0⟩ te)) (hs : ∀ x, foldedSetIterable iter X.env x = pure x := by intro _; rfl) :
    PE X (.SetComp elt [⟨tg, iter, [], 0⟩] scope pos) (nOf ⟨am, F0, H0⟩ (vScI w iv wi te (own.map (·.2)))) := by
  subst hw
  exact vn_scI0 hc hN hi ok hg he hs
end
end VL
namespace VL
open PySem PySem.Spec PyProof.Rows L2 HM
section
variable {c : Fc} {X : Cx} {p pos : Pos}
theorem vn_set00 (hg : Gl X "set") (hm : X.mg "set" = none) : PE X (.Call (.Name "set" p) [] [] pos) (nOf c (fun env n Q => Q (.set X.w (fun _ => false) 0) env n)) :=
  PE.imp (pe_callTy0 cr_set0 hg hm (by decide +kernel)) fun σ H R ⟨F, env, n, Q, rr, q, k⟩ => ⟨rfl, fun p np => nOf_new rr (Up.refl F) np (kk := .set X.w (fun _ => false) 0) rfl q k⟩
theorem vn_set0 (w : World) (hw : X.w = w) (hc : X.calm = true) (hg : Gl X "set") (hm : X.mg "set" = none) : PE X (.Call (.Name "set" p) [] [] pos) (nOf c (fun env n Q => Q (.set w (fun _ => false) 0) env n)) := by
  subst hw
  exact vn_set00 hg hm
end
end VL
namespace VL
open PySem PySem.Spec PyProof.Rows L2 HM
/-- [e for x, y in xs if t] -/
theorem lc_filter2 {tt : VTT} {te : VTE} {vs : List Nat} {xs : List Dt} {env1 : Ev} {n1 : Nat} {Q : Con → Ev → Nat → Prop} {i i2 : Nat} (p : Nat → Bool) (f : Nat → Dt) (hi : i ∈ vs) (hi2 : i2 ∈ vs) (no : ∀ i ∈ vs, ∀ k, env1[i]? ≠ some (.ow k)) (hl : xs.length ≤ 5000)
    (h : ∀ (j : Nat) (x : Dt), xs[j]? = some x → ∃ u v, x = .tup [u, v] ∧ (∀ R : Bool → Ev → Nat → Prop, R (p j) (((wipeE env1 vs).set i (.fz u)).set i2 (.fz v)) n1 → tt (((wipeE env1 vs).set i (.fz u)).set i2 (.fz v)) n1 R) ∧
      (p j = true → ∀ R : Dt → Ev → Nat → Prop, R (f j) (((wipeE env1 vs).set i (.fz u)).set i2 (.fz v)) n1 → te (((wipeE env1 vs).set i (.fz u)).set i2 (.fz v)) n1 R))
    (q : Q (.lst (((List.range xs.length).filter p).map f)) env1 n1) : LcBody (vgTup 2 (vgCons (vgName i) (vgCons (vgName i2) vgNil))) tt te vs xs env1 n1 Q := by
  refine ⟨no, hl, fun j acc env n => acc = ((List.range j).filter p).map f ∧ env = wipeE env1 vs ∧ n = n1, ⟨rfl, rfl, rfl⟩, fun j x acc env n hx hP => ?_, fun acc env n _ hP => ?_⟩
  · obtain ⟨rfl, rfl, rfl⟩ := hP
    obtain ⟨u, v, rfl, h1, h2⟩ := h j x hx
    refine ⟨_, rfl, rfl, _, _, rfl, _, _, rfl, rfl, ?_⟩
    refine h1 _ ?_
    have es : List.range (j + 1) = List.range j ++ [j] := List.range_succ
    cases hp : p j with
    | true =>
      rw [if_pos rfl]
      refine h2 hp _ ⟨?_, by rw [wipeE_set hi2, wipeE_set hi, wipeE_idem], rfl⟩
      rw [es, List.filter_append, List.map_append]
      simp [hp]
    | false =>
      rw [if_neg (by simp)]
      refine ⟨?_, by rw [wipeE_set hi2, wipeE_set hi, wipeE_idem], rfl⟩
      rw [es, List.filter_append, List.map_append]
      simp [hp]
  · obtain ⟨rfl, rfl, rfl⟩ := hP
    rw [rest_wipe]
    exact q
def spPcs : VSp := fun ds t Q _ => ∃ (n : Nat) (m : Nat → Nat → Nat) (N : Nat) (a : Nat → Nat → Nat), ds = [setD n N a] ∧ Hse n m ∧ n ≤ 60 ∧ Act n m N a ∧ N ≤ 900 ∧ Q (.lst (tlD (pcs n N a))) t
def spHld : VSp := fun ds t Q _ => ∃ (n : Nat) (m : Nat → Nat → Nat) (N : Nat) (a : Nat → Nat → Nat) (x : Nat), ds = [setD n N a, nD x] ∧ Hse n m ∧ n ≤ 60 ∧ Act n m N a ∧ x < N ∧ Q (.tup (nsD (hld n a x))) t
theorem rows_get {n N : Nat} {a : Nat → Nat → Nat} {g : Nat} {d : Dt} (h : ((List.range n).map fun g => rowD N fun x => a x g)[g]? = some d) : g < n ∧ d = rowD N fun x => a x g := by
  rw [List.getElem?_map] at h
  obtain ⟨g0, hg0, rfl⟩ := Option.map_eq_some_iff.mp h
  have hg : g < n := by have := (List.getElem?_eq_some_iff.mp hg0).1; rwa [List.length_range] at this
  rw [List.getElem?_range hg] at hg0
  cases hg0
  exact ⟨hg, rfl⟩
theorem row_get {N : Nat} {f : Nat → Nat} {x : Nat} {d : Dt} (h : (nsD ((List.range N).map f))[x]? = some d) : x < N ∧ d = nD (f x) := by
  unfold nsD at h
  rw [List.getElem?_map, List.getElem?_map] at h
  obtain ⟨y1, hy1, rfl⟩ := Option.map_eq_some_iff.mp h
  obtain ⟨y2, hy2, rfl⟩ := Option.map_eq_some_iff.mp hy1
  have hx : x < N := by have := (List.getElem?_eq_some_iff.mp hy2).1; rwa [List.length_range] at this
  rw [List.getElem?_range hx] at hy2
  cases hy2
  exact ⟨hx, rfl⟩
theorem setD_len (n N : Nat) (a : Nat → Nat → Nat) : ((List.range n).map fun g => rowD N fun x => a x g).length = n := by rw [List.length_map, List.length_range]
end VL
namespace VL
open PySem PySem.Spec PyProof.Rows L2 HM
def okS (s : Sl) : Prop := cleanS s = true ∧ ∀ k, s ≠ .ow k
theorem ok_no : okS .no := ⟨rfl, no_ow⟩
theorem ok_fz {d : Dt} (h : clean d = true) : okS (.fz d) := ⟨h, fz_ow d⟩
end VL
namespace HG
open PySem PySem.Spec PyProof.Rows L2 HM GenW
def psum (f : Nat → Int) : Nat → Int
  | 0 => 0
  | j + 1 => psum f j + f j
structure SleptS (f : Nat → Int) (S : Addr) (j : Nat) (s s' : Shared) : Prop where
  os : s'.os = s.os
  bare : AllBare s'.gens
  keep : ∀ b o, b ≠ S → s.heap.get? b = some o → s'.heap.get? b = some o
  own : ∃ t c, s'.heap.get? S = some (lstObj #[.int (psum f j) t] c)
def GJ (X : Cx) (S : Addr) (f : Nat → Int) (ip : List (Addr × Obj)) (j : Nat) (σ : L2.St) (H : Hp) (s : Shared) : Prop :=
  ∃ (t : Tok) (c : Nat), Inv X ((S, lstObj #[.int (psum f j) t] c) :: ip) σ H s
theorem GJ.at {X : Cx} {S : Addr} {f : Nat → Int} {ip : List (Addr × Obj)} {j : Nat} {σ : L2.St} {H : Hp} {s : Shared} (h : GJ X S f ip j σ H s) :
    H S = none ∧ S ≠ X.env.locals ∧ S ∉ X.fs ∧ ∃ (t : Tok) (c : Nat), s.heap.get? S = some (lstObj #[.int (psum f j) t] c) := by
  obtain ⟨t, c, I⟩ := h
  obtain ⟨h1, h2, h3, h4, _⟩ := I.pin (S, lstObj #[.int (psum f j) t] c) (List.mem_append_right _ List.mem_cons_self)
  exact ⟨h2, h3, h4, t, c, h1⟩
theorem GJ.woken {X : Cx} {S : Addr} {f : Nat → Int} {ip : List (Addr × Obj)} {j j2 : Nat} {σ : L2.St} {H : Hp} {s s' : Shared} (hpn : ∀ p ∈ X.pn, p.1 ≠ S) (hip : ∀ p ∈ ip, p.1 ≠ S) (hA : Apart X S) (e2 : j2 = j + 1) (h : GJ X S f ip j σ H s) (z : SleptS f S j2 s s') : GJ X S f ip (j + 1) σ H s' := by
  obtain ⟨w1, w2, w3, _⟩ := h.at
  obtain ⟨t, c, I⟩ := h
  have I1 : Inv X ip σ H s := I.pins_of fun q hq => I.pin q (List.mem_append_right _ (List.mem_cons_of_mem _ hq))
  have off : ∀ b u, H b = some u → b ≠ S := fun b u e hb => by subst hb; rw [w1] at e; cases e
  obtain ⟨zo, zb, zk, t2, c2, zs⟩ := z
  subst e2
  obtain ⟨hh, gg, dd, tt, oo⟩ := s'
  have ho : oo = s.os := zo
  subst ho
  have nS : ∀ {b}, b ∉ [S] → b ≠ S := fun {b} q e => q (List.mem_singleton.mpr e)
  have I2 : Inv X ip σ H { s with heap := hh, gens := gg, drawn := dd, toks := tt } := by
    refine I1.step (ch := [S]) (g' := gg) (t' := tt) (d' := dd) (fun b hb => ?B) (fun b ob _ _ q1 q2 _ => zk b ob (nS q1) q2) (fun b ob _ _ q1 q2 _ => ⟨ob.slots, zk b ob (nS q1) q2⟩) (fun _ _ _ _ q => q)
      (fun b ob q1 q2 => ⟨ob, zk b ob (nS q1) q2⟩) (fun _ _ q => q) (fun _ _ _ q => q) (fun b ps q => ⟨#[], by rw [q]; simp⟩) (fun m hm => ?M) (fun b u q => ?H) zb
    case B =>
      cases List.mem_singleton.mp hb
      exact ⟨.inr hA.1, hA.2.1, hA.2.2, fun q hq => (List.mem_append.mp hq).elim (hpn q) (hip q)⟩
    case M =>
      obtain ⟨ob, a1, a2, a3, a4⟩ := hm
      exact ⟨ob, a1, a2, zk _ ob (Ne.symm w2) a3, a4⟩
    case H => exact (I1.hok b u q).stay (fun d v hd y => zk d v (hd.elim (fun y2 => by rw [y2]; exact off b u q) fun y2 => off d _ y2) y) (fun _ y => y) fun _ _ y => y
  exact ⟨t2, c2, I2.pins_of fun q hq => (List.mem_cons.mp hq).elim (fun e => by rw [e]; exact ⟨zs, w1, w2, w3, fun v y => by cases y⟩) fun y => I2.pin q (List.mem_append_right _ y)⟩
end HG
namespace HG
open PySem PySem.Spec PyProof.Rows L2 HM GenW
end HG
namespace HG
open PySem PySem.Spec PyProof.Rows L2 HM GenW
end HG
namespace HG
open PySem PySem.Spec PyProof.Rows L2 HM GenW
end HG
namespace VL
open PySem PySem.Spec PyProof.Rows L2 HM HG
end VL
namespace HM
open PySem PySem.Spec PyProof.Rows L2
end HM
namespace VL
open PySem PySem.Spec PyProof.Rows L2 HM
end VL
namespace VL
open PySem PySem.Spec PyProof.Rows L2 HM
end VL
namespace VL
open PySem PySem.Spec PyProof.Rows L2 HM
end VL
namespace VL
open PySem PySem.Spec PyProof.Rows L2 HM
end VL
namespace VL
open PySem PySem.Spec PyProof.Rows L2 HM
/-- [e for x in xs if t], by places -/
theorem lc_filter1 {tt : VTT} {te : VTE} {vs : List Nat} {xs : List Dt} {env1 : Ev} {n1 : Nat} {Q : Con → Ev → Nat → Prop} {i : Nat} (p : Nat → Bool) (f : Nat → Dt) (hi : i ∈ vs) (no : ∀ i ∈ vs, ∀ k, env1[i]? ≠ some (.ow k)) (hl : xs.length ≤ 5000)
    (h : ∀ (j : Nat) (x : Dt), xs[j]? = some x → (∀ R : Bool → Ev → Nat → Prop, R (p j) ((wipeE env1 vs).set i (.fz x)) n1 → tt ((wipeE env1 vs).set i (.fz x)) n1 R) ∧
      (p j = true → ∀ R : Dt → Ev → Nat → Prop, R (f j) ((wipeE env1 vs).set i (.fz x)) n1 → te ((wipeE env1 vs).set i (.fz x)) n1 R))
    (q : Q (.lst (((List.range xs.length).filter p).map f)) env1 n1) : LcBody (vgName i) tt te vs xs env1 n1 Q := by
  refine ⟨no, hl, fun j acc env n => acc = ((List.range j).filter p).map f ∧ env = wipeE env1 vs ∧ n = n1, ⟨rfl, rfl, rfl⟩, fun j x acc env n hx hP => ?_, fun acc env n _ hP => ?_⟩
  · obtain ⟨rfl, rfl, rfl⟩ := hP
    obtain ⟨h1, h2⟩ := h j x hx
    refine h1 _ ?_
    have es : List.range (j + 1) = List.range j ++ [j] := List.range_succ
    cases hp : p j with
    | true =>
      rw [if_pos rfl]
      refine h2 hp _ ⟨?_, by rw [wipeE_set hi, wipeE_idem], rfl⟩
      rw [es, List.filter_append, List.map_append]
      simp [hp]
    | false =>
      rw [if_neg (by simp)]
      refine ⟨?_, by rw [wipeE_set hi, wipeE_idem], rfl⟩
      rw [es, List.filter_append, List.map_append]
      simp [hp]
  · obtain ⟨rfl, rfl, rfl⟩ := hP
    rw [rest_wipe]
    exact q
end VL
namespace VL
open PySem PySem.Spec PyProof.Rows L2 HM
end VL
namespace VL
open PySem PySem.Spec PyProof.Rows L2 HM
theorem itr_back2 {m : Nat} {g : List Nat} (h : Tn m g) {x y : Nat} (hx : x < m) (hy : y < m) {i j c : Nat} (hj : j ≤ c) (hc : itr (tA g) c x = x) (e : itr (tA g) j y = itr (tA g) i x) : itr (tA g) c y = y := by
  have e2 : itr (tA g) j y = itr (tA g) j (itr (tA g) (i + (c - j)) x) := by
    rw [← itr_add, show j + (i + (c - j)) = i + c by omega, itr_add, hc, e]
  have e3 := itr_inj h hy (itr_lt h hx _) j e2
  rw [e3, ← itr_add, Nat.add_comm, itr_add, hc]
theorem ring12 {m : Nat} {g : List Nat} (h : Tn m g) (hm : m ≤ 7) : ∃ c, 0 < c ∧ c ≤ 12 ∧ ∀ x, x < m → itr (tA g) c x = x := by
  rcases Classical.em (∀ x, x < m → itr (tA g) 12 x = x) with al | no
  · exact ⟨12, by decide, by decide, al⟩
  · obtain ⟨x, hn⟩ := Classical.not_forall.mp no
    obtain ⟨hx, hno⟩ := Classical.not_imp.mp hn
    clear hn no
    have dv : ∀ c q, q * c = 12 → itr (tA g) c x ≠ x := fun c q hq e => hno (by rw [← hq]; exact itr_mul e q)
    have d1 := dv 1 12 rfl
    have d2 := dv 2 6 rfl
    have d3 := dv 3 4 rfl
    have d4 := dv 4 3 rfl
    have d6 := dv 6 2 rfl
    obtain ⟨c, h1, hc, e⟩ := itr_ring h hx
    rcases (by omega : c = 1 ∨ c = 2 ∨ c = 3 ∨ c = 4 ∨ c = 5 ∨ c = 6 ∨ c = 7) with rfl | rfl | rfl | rfl | rfl | rfl | rfl
    · exact absurd e d1
    · exact absurd e d2
    · exact absurd e d3
    · exact absurd e d4
    · refine ⟨10, by decide, by decide, fun y hy => ?_⟩
      rcases Classical.em (itr (tA g) 1 y = y ∨ itr (tA g) 2 y = y ∨ ∃ j i, j ≤ 2 ∧ itr (tA g) j y = itr (tA g) i x) with z | z
      · rcases z with z | z | ⟨j, i, hj, z⟩
        · exact itr_mul z 10
        · exact itr_mul z 5
        · exact itr_mul (itr_back2 h hx hy (by omega : j ≤ 5) e z) 2
      · exfalso
        rw [not_or, not_or] at z
        obtain ⟨z1, z2, z3⟩ := z
        have nd : (((List.range 5).map fun i => itr (tA g) i x) ++ (List.range 3).map fun i => itr (tA g) i y).Nodup := by
          rw [List.nodup_append]
          refine ⟨?_, ?_, fun a ha b hb e2 => ?_⟩
          · refine List.pairwise_map.mpr (List.Pairwise.imp_of_mem (fun {a b} ha hb hab e2 => ?_) (List.pairwise_lt_range (n := 5)))
            have hb := List.mem_range.mp hb
            have := itr_back h hx (Nat.le_of_lt hab) e2
            rcases (by omega : b - a = 1 ∨ b - a = 2 ∨ b - a = 3 ∨ b - a = 4) with w | w | w | w <;> rw [w] at this
            · exact d1 this
            · exact d2 this
            · exact d3 this
            · exact d4 this
          · refine List.pairwise_map.mpr (List.Pairwise.imp_of_mem (fun {a b} ha hb hab e2 => ?_) (List.pairwise_lt_range (n := 3)))
            have hb := List.mem_range.mp hb
            have := itr_back h hy (Nat.le_of_lt hab) e2
            rcases (by omega : b - a = 1 ∨ b - a = 2) with w | w <;> rw [w] at this
            · exact z1 this
            · exact z2 this
          · obtain ⟨i, _, rfl⟩ := List.mem_map.mp ha
            obtain ⟨j, hj, rfl⟩ := List.mem_map.mp hb
            have hj := List.mem_range.mp hj
            exact z3 ⟨j, i, by omega, e2.symm⟩
        have := few_of_nodup (n := m) nd fun y2 hy2 => by
          rcases List.mem_append.mp hy2 with hy2 | hy2
          · obtain ⟨i, _, rfl⟩ := List.mem_map.mp hy2
            exact itr_lt h hx i
          · obtain ⟨i, _, rfl⟩ := List.mem_map.mp hy2
            exact itr_lt h hy i
        rw [List.length_append, List.length_map, List.length_map, List.length_range, List.length_range] at this
        omega
    · exact absurd e d6
    · rcases ring60 h hm with al | al
      · exfalso
        have e60 := al x hx
        rw [show 60 = 4 + 8 * 7 from rfl, itr_add, itr_mul e 8] at e60
        exact d4 e60
      · exact ⟨7, by decide, by decide, al⟩
theorem GR.few12 {m : Nat} {ts fs : List (List Nat)} (h : ∀ g ∈ ts, Tn m g) (hm : m ≤ 7) (h1 : ts.length ≤ 1) (nd : fs.Nodup) (hf : ∀ a ∈ fs, GR m ts a) : fs.length ≤ 12 := by
  match ts, h1 with
  | [], _ =>
    have : fs.length ≤ [VL.stay m].length := List.Nodup.length_le_of_subset nd fun a ha => by
      cases hf a ha with
      | stay => exact List.mem_singleton.mpr rfl
      | step _ z => cases z
    exact Nat.le_trans this (show 1 ≤ 12 by decide)
  | [g], _ =>
    obtain ⟨c, h0, h60, hc⟩ := ring12 (h g (List.mem_singleton.mpr rfl)) hm
    have : fs.length ≤ ((List.range c).map (gpw m g)).length := List.Nodup.length_le_of_subset nd fun a ha => by
      obtain ⟨i, hi, rfl⟩ := GR.one h0 hc (hf a ha)
      exact List.mem_map.mpr ⟨i, List.mem_range.mpr hi, rfl⟩
    rw [List.length_map, List.length_range] at this
    omega
  | _ :: _ :: _, z => simp at z
end VL
namespace VL
open PySem PySem.Spec PyProof.Rows L2 HM
mutual
def sml (e : Nat) : Dt → Bool
  | .int i => decide (i.natAbs < 10 ^ e)
  | .lst ds => smls e ds
  | .tup ds => smls e ds
  | _ => false
def smls (e : Nat) : List Dt → Bool
  | [] => true
  | d :: ds => sml e d && smls e ds
end
mutual
def csz (e : Nat) : Dt → Nat
  | .lst ds => cszs e ds + 2
  | .tup ds => cszs e ds + 2
  | _ => e + 1
def cszs (e : Nat) : List Dt → Nat
  | [] => 0
  | d :: ds => csz e d + 2 + cszs e ds
end
theorem int_text {i : Int} {e : Nat} (h0 : 0 < e) (h : i.natAbs < 10 ^ e) : (PyData.int i).shown.length ≤ e + 1 := by
  have := int_text_length_le10 h0 h
  show (Str.ofString (toString i)).length ≤ e + 1
  rw [PySem.ofString_length]; exact this
mutual
theorem sml_shown {e : Nat} (h0 : 0 < e) : ∀ d : Dt, sml e d = true → (py d).shown.length ≤ csz e d
  | .int i, h => by
    have h' : decide (i.natAbs < 10 ^ e) = true := h
    have := int_text h0 (of_decide_eq_true h')
    have e2 : py (.int i) = .int i := by rw [py]
    rw [e2]
    exact this
  | .lst ds, h => by
    have h2 := smls_shown h0 ds h
    have h3 := listText_up (PyData.shownAll (pys ds))
    have e2 : py (.lst ds) = .list (pys ds) := by rw [py]
    rw [e2]
    show (listText (PyData.shownAll (pys ds))).length ≤ cszs e ds + 2
    omega
  | .tup ds, h => by
    have h2 := smls_shown h0 ds h
    have h3 := fmt_text (PyData.shownAll (pys ds))
    have e2 : py (.tup ds) = .tuple (pys ds) := by rw [py]
    rw [e2]
    show (tupleText (PyData.shownAll (pys ds))).length ≤ cszs e ds + 2
    omega
  | .non, h => by cases h
  | .bl _, h => by cases h
  | .str _, h => by cases h
  | .ty _, h => by cases h
  | .obj _, h => by cases h
  | .dic _ _, h => by cases h
  | .dik _ _, h => by cases h
  | .tuP _, h => by cases h
theorem smls_shown {e : Nat} (h0 : 0 < e) : ∀ ds : List Dt, smls e ds = true → piled (PyData.shownAll (pys ds)) ≤ cszs e ds
  | [], _ => Nat.le_refl _
  | d :: ds, h => by
    have h' : (sml e d && smls e ds) = true := h
    rw [Bool.and_eq_true] at h'
    have h2 := sml_shown h0 d h'.1
    have h3 := smls_shown h0 ds h'.2
    show piled ((py d).shown :: PyData.shownAll (pys ds)) ≤ csz e d + 2 + cszs e ds
    rw [piled_cons]
    omega
end
mutual
theorem sml_pl {e : Nat} : ∀ d : Dt, sml e d = true → pl d = true
  | .int _, _ => rfl
  | .lst ds, h => smls_pl ds h
  | .tup ds, h => smls_pl ds h
  | .non, h => by cases h
  | .bl _, h => by cases h
  | .str _, h => by cases h
  | .ty _, h => by cases h
  | .obj _, h => by cases h
  | .dic _ _, h => by cases h
  | .dik _ _, h => by cases h
  | .tuP _, h => by cases h
theorem smls_pl {e : Nat} : ∀ ds : List Dt, smls e ds = true → pls ds = true
  | [], _ => rfl
  | d :: ds, h => by
    have h' : (sml e d && smls e ds) = true := h
    rw [Bool.and_eq_true] at h'
    show (pl d && pls ds) = true
    rw [sml_pl d h'.1, smls_pl ds h'.2]
    rfl
end
mutual
theorem sml_showable {e : Nat} (h1 : e ≤ 480) : ∀ d : Dt, sml e d = true → (py d).showable = true
  | .int i, h => by
    have h' : decide (i.natAbs < 10 ^ e) = true := h
    have e2 : py (.int i) = .int i := by rw [py]
    rw [e2]
    have : i.natAbs.log2 < 1920 := by
      rcases Nat.eq_zero_or_pos i.natAbs with z | z
      · rw [z]; decide
      · refine (Nat.log2_lt (by omega)).mpr (Nat.lt_of_lt_of_le (of_decide_eq_true h') ?_)
        refine Nat.le_trans (Nat.pow_le_pow_right (by decide) h1) ?_
        refine Nat.le_trans (Nat.pow_le_pow_left (show 10 ≤ 2 ^ 3 * 2 by decide) 480) ?_
        rw [show (2 ^ 3 * 2 : Nat) = 2 ^ 4 from rfl, ← Nat.pow_mul]
        exact Nat.pow_le_pow_right (by decide) (by decide)
    simpa [PyData.showable] using this
  | .lst ds, h => by
    have e2 : py (.lst ds) = .list (pys ds) := by rw [py]
    rw [e2]
    have := smls_showable h1 ds h
    simpa [PyData.showable] using this
  | .tup ds, h => by
    have e2 : py (.tup ds) = .tuple (pys ds) := by rw [py]
    rw [e2]
    have := smls_showable h1 ds h
    simpa [PyData.showable] using this
  | .non, h => by cases h
  | .bl _, h => by cases h
  | .str _, h => by cases h
  | .ty _, h => by cases h
  | .obj _, h => by cases h
  | .dic _ _, h => by cases h
  | .dik _ _, h => by cases h
  | .tuP _, h => by cases h
theorem smls_showable {e : Nat} (h1 : e ≤ 480) : ∀ ds : List Dt, smls e ds = true → PyData.showableAll (pys ds) = true
  | [], _ => rfl
  | d :: ds, h => by
    have h' : (sml e d && smls e ds) = true := h
    rw [Bool.and_eq_true] at h'
    have g1 := sml_showable h1 d h'.1
    have g2 := smls_showable h1 ds h'.2
    show PyData.showableAll (py d :: pys ds) = true
    simp only [PyData.showableAll, g1, g2, Bool.and_self]
end
mutual
theorem py_depth : ∀ d : Dt, (py d).depth ≤ dep d + 1
  | .int i => by rw [show py (.int i) = .int i by rw [py]]; simp [PyData.depth]
  | .lst ds => by
    rw [show py (.lst ds) = .list (pys ds) by rw [py]]
    have := pys_depth ds
    show PyData.depth (.list (pys ds)) ≤ deps ds + 1 + 1
    simp only [PyData.depth]
    omega
  | .tup ds => by
    rw [show py (.tup ds) = .tuple (pys ds) by rw [py]]
    have := pys_depth ds
    show PyData.depth (.tuple (pys ds)) ≤ deps ds + 1 + 1
    simp only [PyData.depth]
    omega
  | .non => by simp [py, PyData.depth]
  | .bl _ => by simp [py, PyData.depth]
  | .str _ => by simp [py, PyData.depth]
  | .ty _ => by simp [py, PyData.depth]
  | .obj _ => by simp [py, PyData.depth]
  | .dic _ _ => by simp [py, PyData.depth]
  | .dik _ _ => by simp [py, PyData.depth]
  | .tuP ds => by
    rw [show py (.tuP ds) = .tuple (pys ds) by rw [py]]
    have := pys_depth ds
    show PyData.depth (.tuple (pys ds)) ≤ deps ds + 1 + 1
    simp only [PyData.depth]
    omega
theorem pys_depth : ∀ ds : List Dt, PyData.depthAll (pys ds) ≤ deps ds + 1
  | [] => by simp [pys, PyData.depthAll]
  | d :: ds => by
    have h1 := py_depth d
    have h2 := pys_depth ds
    show PyData.depthAll (py d :: pys ds) ≤ max (dep d) (deps ds) + 1
    simp only [PyData.depthAll]
    omega
end
def Sm (e k c : Nat) (d : Dt) : Prop := sml e d = true ∧ dep d ≤ k ∧ csz e d ≤ c
section
variable {e k c : Nat} {d : Dt}
theorem Sm.int {i : Int} (h : i.natAbs < 10 ^ e) : Sm e 0 (e + 1) (.int i) := ⟨decide_eq_true h, Nat.le_refl _, Nat.le_refl _⟩
theorem Sm.nat {i : Nat} (h : i < 10 ^ e) : Sm e 0 (e + 1) (nD i) := Sm.int (by omega)
theorem Sm.mono {k' c' : Nat} (h : Sm e k c d) (hk : k ≤ k') (hc : c ≤ c') : Sm e k' c' d := ⟨h.1, Nat.le_trans h.2.1 hk, Nat.le_trans h.2.2 hc⟩
theorem Sm.all : ∀ {ds : List Dt}, (∀ d ∈ ds, Sm e k c d) → smls e ds = true ∧ deps ds ≤ k ∧ cszs e ds ≤ ds.length * (c + 2)
  | [], _ => ⟨rfl, Nat.zero_le _, Nat.zero_le _⟩
  | d :: ds, h => by
    obtain ⟨h1, h2, h3⟩ := h d List.mem_cons_self
    obtain ⟨g1, g2, g3⟩ := Sm.all (ds := ds) fun x hx => h x (List.mem_cons_of_mem _ hx)
    refine ⟨?_, Nat.max_le.mpr ⟨h2, g2⟩, ?_⟩
    · show (sml e d && smls e ds) = true
      rw [h1, g1]; rfl
    · show csz e d + 2 + cszs e ds ≤ (ds.length + 1) * (c + 2)
      rw [Nat.succ_mul]
      omega
theorem Sm.lst {l : Nat} {ds : List Dt} (h : ∀ d ∈ ds, Sm e k c d) (hl : ds.length ≤ l) : Sm e (k + 1) (l * (c + 2) + 2) (.lst ds) := by
  obtain ⟨g1, g2, g3⟩ := Sm.all h
  refine ⟨g1, Nat.succ_le_succ g2, ?_⟩
  show cszs e ds + 2 ≤ _
  have := Nat.mul_le_mul_right (c + 2) hl
  omega
theorem Sm.tup {l : Nat} {ds : List Dt} (h : ∀ d ∈ ds, Sm e k c d) (hl : ds.length ≤ l) : Sm e (k + 1) (l * (c + 2) + 2) (.tup ds) := by
  obtain ⟨g1, g2, g3⟩ := Sm.all h
  refine ⟨g1, Nat.succ_le_succ g2, ?_⟩
  show cszs e ds + 2 ≤ _
  have := Nat.mul_le_mul_right (c + 2) hl
  omega
theorem sm_ns {l : List Nat} (h : ∀ x ∈ l, x < 10 ^ e) (hl : l.length ≤ c) : Sm e 1 (c * (e + 3) + 2) (.lst (nsD l)) := Sm.lst (k := 0) (c := e + 1) (fun d hd => by
  obtain ⟨x, hx, rfl⟩ := List.mem_map.mp hd
  exact Sm.nat (h x hx)) (by rw [nsD_len]; exact hl)
theorem sm_nt {l : List Nat} (h : ∀ x ∈ l, x < 10 ^ e) (hl : l.length ≤ c) : Sm e 1 (c * (e + 3) + 2) (.tup (nsD l)) := Sm.tup (k := 0) (c := e + 1) (fun d hd => by
  obtain ⟨x, hx, rfl⟩ := List.mem_map.mp hd
  exact Sm.nat (h x hx)) (by rw [nsD_len]; exact hl)
end
theorem sm_set {n N : Nat} {m a : Nat → Nat → Nat} (hn : n ≤ 60) (h : Act n m N a) (hN : N ≤ 4000) : Sm 4 2 1680242 (setD n N a) :=
  (Sm.lst (k := 1) (c := 28002) (l := 60) (fun d hd => by
    obtain ⟨g, hg, rfl⟩ := List.mem_map.mp hd
    refine sm_ns (c := 4000) (fun x hx => ?_) (by rw [List.length_map, List.length_range]; exact hN)
    obtain ⟨y, hy, rfl⟩ := List.mem_map.mp hx
    have := h.lt y g (List.mem_range.mp hy) (List.mem_range.mp hg)
    show a y g < 10000
    omega) (by rw [List.length_map, List.length_range]; exact hn))
/-- what repr may be asked of -/
def rpS (d : Dt) : Prop := isPy d = true ∧ (py d).showable = true ∧ (py d).depth ≤ 40 ∧ (py d).shown.length ≤ sizeLine
theorem Sm.rp {e k c : Nat} {d : Dt} (h : Sm e k c d) (h0 : 0 < e) (h1 : e ≤ 480) (hk : k ≤ 30) (hc : c ≤ 16777216) : rpS d :=
  ⟨pl_isPy (sml_pl d h.1), sml_showable h1 d h.1, by have := py_depth d; have := h.2.1; omega, Nat.le_trans (sml_shown h0 d h.1) (Nat.le_trans h.2.2 hc)⟩
/-- its text -/
def shD (d : Dt) : Dt := .str (py d).shown
def dReprS : RCD := fun ds Q => ∃ d, ds = [d] ∧ rpS d ∧ Q (shD d)
theorem lft_reprS {K : PySem.W.Frag} : LftC (rRepr K) dReprS := fun F H vs ds Q R u rp ⟨d, e, h, q⟩ k => by
  subst e
  obtain ⟨v, rfl, p⟩ := rp.one
  exact ⟨v, py d, rfl, .flat (p.dp u h.1) (py_flat d), h.2.1, h.2.2.1, h.2.2.2, k _ _ (.str _) q⟩
def dNeS : R2D := fun x y Q => ∃ s t, x = .str s ∧ y = .str t ∧ Q (.bl (!decide (s = t)))
theorem dec_str (i j : Str) : decide (V.str i = V.str j) = decide (i = j) := by
  by_cases e : i = j
  · subst e; simp
  · rw [decide_eq_false e, decide_eq_false fun z => e (V.str.inj z)]
theorem lft_neS : Lft2 rNe dNeS := fun F H x y d1 d2 Q R u p1 p2 ⟨s, t, e1, e2, h⟩ k => by
  subst e1 e2
  cases p1
  cases p2
  exact ⟨rfl, by rw [dec_str]; exact k _ _ (.bl _) h⟩
theorem dNe_sh {d : Dt} {Q : Dt → Prop} (q : Q (.bl false)) : dNeS (shD d) (shD d) Q := ⟨_, _, rfl, rfl, by rw [decide_eq_true rfl]; exact q⟩
end VL
namespace VL
open PySem PySem.Spec PyProof.Rows L2 HM
end VL
namespace VL
open PySem PySem.Spec PyProof.Rows L2 HM
/-- the sum over the first b kinds -/
def pm (T : Nat → Nat → Nat) (cs : Nat → Int) : Nat → Nat → Int
  | 0, _ => 0
  | b + 1, j => pm T cs b j + cs b * (T b j : Int)
structure Tri (r : Nat) (T : Nat → Nat → Nat) : Prop where
  pos : ∀ i, i < r → 0 < T i i
  le : ∀ i j, i < r → j < r → T i j ≤ 60
  up : ∀ i j, i < j → j < r → T i j = 0
section
variable {r : Nat} {T : Nat → Nat → Nat} {cs ds : Nat → Int}
theorem pm_zero (t : Tri r T) {j : Nat} (hj : j < r) : ∀ b, b ≤ j → pm T cs b j = 0
  | 0, _ => rfl
  | b + 1, h => by
    show pm T cs b j + cs b * (T b j : Int) = 0
    rw [pm_zero t hj b (by omega), t.up b j (by omega) hj]
    simp
theorem pm_own (t : Tri r T) {j : Nat} (hj : j < r) : pm T cs (j + 1) j = cs j * (T j j : Int) := by
  show pm T cs j j + cs j * (T j j : Int) = _
  rw [pm_zero t hj j (Nat.le_refl j), Int.zero_add]
theorem pm_congr : ∀ b j, (∀ i, i < b → cs i = ds i) → pm T cs b j = pm T ds b j
  | 0, _, _ => rfl
  | b + 1, j, h => by
    show pm T cs b j + cs b * (T b j : Int) = pm T ds b j + ds b * (T b j : Int)
    rw [pm_congr b j fun i hi => h i (by omega), h b (by omega)]
theorem pm_add : ∀ b j, pm T (fun i => cs i + ds i) b j = pm T cs b j + pm T ds b j
  | 0, _ => rfl
  | b + 1, j => by
    show pm T (fun i => cs i + ds i) b j + (cs b + ds b) * (T b j : Int) = (pm T cs b j + cs b * (T b j : Int)) + (pm T ds b j + ds b * (T b j : Int))
    rw [pm_add b j, Int.add_mul]
    omega
theorem pm_sub : ∀ b j, pm T (fun i => cs i - ds i) b j = pm T cs b j - pm T ds b j
  | 0, _ => rfl
  | b + 1, j => by
    show pm T (fun i => cs i - ds i) b j + (cs b - ds b) * (T b j : Int) = (pm T cs b j + cs b * (T b j : Int)) - (pm T ds b j + ds b * (T b j : Int))
    rw [pm_sub b j, Int.sub_mul]
    omega
theorem pm_scale (c : Int) : ∀ b j, pm T (fun i => c * cs i) b j = c * pm T cs b j
  | 0, _ => (Int.mul_zero c).symm
  | b + 1, j => by
    show pm T (fun i => c * cs i) b j + c * cs b * (T b j : Int) = c * (pm T cs b j + cs b * (T b j : Int))
    rw [pm_scale c b j, Int.mul_add, Int.mul_assoc]
theorem pm_none : ∀ b j, pm T (fun _ => 0) b j = 0
  | 0, _ => rfl
  | b + 1, j => by
    show pm T (fun _ => 0) b j + 0 * (T b j : Int) = 0
    rw [pm_none b j]; simp
end
end VL
namespace VL
open PySem PySem.Spec PyProof.Rows L2 HM
def tb2 (n M : Nat) : Nat → Nat → Nat
  | 0, _ => 0
  | f + 1, k => if M ≤ k then 1 else (n - k) * (((List.range (M + 1)).filter fun j => decide (2 * k ≤ j ∧ j % k = 0 ∧ M % j = 0)).map fun j => tb2 n M f j).foldr Nat.max 0 / (M - k)
end VL
namespace VL
open PySem PySem.Spec PyProof.Rows L2 HM HG
end VL
namespace VL
open PySem PySem.Spec PyProof.Rows L2 HM
end VL
namespace VL
open PySem PySem.Spec PyProof.Rows L2 HM
theorem valD_putD {κ : Type} [DecidableEq κ] (kvs : List (κ × Dt)) (k k' : κ) (v : Dt) : valD (putD kvs k v) k' = if k' = k then some v else valD kvs k' := by
  unfold putD
  by_cases h : (kvs.any fun p => decide (p.1 = k)) = true
  · rw [if_pos h]
    induction kvs with
    | nil => cases h
    | cons p r ih =>
      rw [List.map_cons]
      unfold valD at ih ⊢
      by_cases hp : p.1 = k
      · rw [if_pos hp]
        by_cases hk : k' = k
        · subst hk
          rw [List.find?_cons_of_pos (by simpa using hp), if_pos rfl]
          rfl
        · rw [List.find?_cons_of_neg (by simpa [hp] using fun z => hk z.symm), if_neg hk, List.find?_cons_of_neg (by simpa [hp] using fun z => hk z.symm)]
          by_cases hr : (r.any fun p => decide (p.1 = k)) = true
          · rw [ih hr, if_neg hk]
          · congr 1
            rw [show (r.map fun p => if p.1 = k then (p.1, v) else p) = r from (List.map_congr_left fun q hq => if_neg fun z => hr (List.any_eq_true.mpr ⟨q, hq, by simpa using z⟩)).trans (List.map_id _)]
      · rw [if_neg hp]
        have hr : (r.any fun p => decide (p.1 = k)) = true := by
          rw [List.any_cons] at h
          simpa [hp] using h
        by_cases hk : p.1 = k'
        · rw [List.find?_cons_of_pos (by simpa using hk), List.find?_cons_of_pos (by simpa using hk), if_neg (fun z => hp (hk.trans z))]
        · rw [List.find?_cons_of_neg (by simpa using hk), ih hr, List.find?_cons_of_neg (by simpa using hk)]
  · rw [if_neg h]
    unfold valD
    rw [List.find?_append]
    by_cases hk : k' = k
    · subst hk
      rw [if_pos rfl]
      have : kvs.find? (fun kv => decide (kv.1 = k')) = none := List.find?_eq_none.mpr fun q hq z => h (List.any_eq_true.mpr ⟨q, hq, z⟩)
      rw [this]
      simp
    · rw [if_neg hk]
      cases e : kvs.find? (fun kv => decide (kv.1 = k')) with
      | none =>
        simp
        exact fun z => hk z.symm
      | some q => rfl
theorem putD_keys {κ : Type} [DecidableEq κ] (kvs : List (κ × Dt)) (k : κ) (v : Dt) : (putD kvs k v).map (·.1) = if k ∈ kvs.map (·.1) then kvs.map (·.1) else kvs.map (·.1) ++ [k] := by
  by_cases h : k ∈ kvs.map (·.1)
  · rw [if_pos h]
    unfold putD
    obtain ⟨p, hp, e⟩ := List.mem_map.mp h
    rw [if_pos (List.any_eq_true.mpr ⟨p, hp, decide_eq_true e⟩), List.map_map]
    refine List.map_congr_left fun q _ => ?_
    show (if q.1 = k then (q.1, v) else q).1 = q.1
    by_cases z : q.1 = k
    · rw [if_pos z]
    · rw [if_neg z]
  · rw [if_neg h, putD_new h, List.map_append]
    rfl
def Dk (n : Nat) (l : List Int) (kvs : List (Key × Dt)) : Prop := ∃ fs : List Nat, kvs.map (·.1) = fs.map (fun i : Nat => (Sum.inl (i : Int) : Key)) ∧ fs.Nodup ∧ (∀ f ∈ fs, f < n) ∧ ∀ x, x < n → ∀ v, l[x]? = some v → valD kvs (Sum.inl (x : Int)) = if v < 0 then none else some (.int v)
section
variable {n : Nat} {l : List Int} {kvs : List (Key × Dt)}
theorem Dk.start : Dk n (List.replicate n (-1)) [] := ⟨[], rfl, List.nodup_nil, fun f h => absurd h List.not_mem_nil, fun x hx v hv => by
  rw [List.getElem?_replicate, if_pos hx] at hv
  cases hv
  rfl⟩
theorem Dk.len (d : Dk n l kvs) : kvs.length ≤ n := by
  obtain ⟨fs, h1, h2, h3, _⟩ := d
  have := congrArg List.length h1
  rw [List.length_map, List.length_map] at this
  rw [this]
  exact few_of_nodup h2 h3
theorem Dk.put (d : Dk n l kvs) {y : Nat} (hy : y < n) {v : Int} (hv : 0 ≤ v) : Dk n (l.set y v) (putD kvs (Sum.inl (y : Int)) (.int v)) := by
  obtain ⟨fs, h1, h2, h3, h4⟩ := d
  have val : ∀ x, x < n → ∀ u, (l.set y v)[x]? = some u → valD (putD kvs (Sum.inl (y : Int)) (.int v)) (Sum.inl (x : Int)) = if u < 0 then none else some (.int u) := fun x hx u hu => by
    rw [valD_putD]
    by_cases z : y = x
    · subst z
      rw [if_pos rfl]
      rw [List.getElem?_set] at hu
      split at hu
      · split at hu
        · cases hu
          rw [if_neg (by omega)]
        · cases hu
      · rename_i z; exact absurd rfl z
    · rw [if_neg (fun w => z (by have := Sum.inl.inj w; omega))]
      rw [List.getElem?_set_ne z] at hu
      exact h4 x hx u hu
  by_cases hin : y ∈ fs
  · exact ⟨fs, by rw [putD_keys, if_pos (by rw [h1, keyN_mem]; exact hin)]; exact h1, h2, h3, val⟩
  · refine ⟨fs ++ [y], by rw [putD_keys, if_neg (by rw [h1, keyN_mem]; exact hin), h1, List.map_append]; rfl, ?_, fun f hf => ?_, val⟩
    · rw [List.nodup_append]
      exact ⟨h2, List.pairwise_singleton .., fun a ha b hb z => hin (by rw [List.mem_singleton.mp hb] at z; rw [← z]; exact ha)⟩
    · rcases List.mem_append.mp hf with hf | hf
      · exact h3 f hf
      · rw [List.mem_singleton.mp hf]; exact hy
end
end VL
namespace VL
open PySem PySem.Spec PyProof.Rows L2 HM
def p2 (a b : Nat) : Nat := 2 ^ a * (2 * b + 1)
abbrev Kn := List (List Nat × Nat)
def kD (kn : Kn) : List (List Nat × Dt) := kn.map fun p => (p.1, nD p.2)
def knL (kn : Kn) (K : List Nat) : Option Dt := valD (kD kn) K
def knV (kn : Kn) : List (List Key × V) := kn.map fun p => (kN p.1, V.int (p.2 : Int))
def putN (kn : Kn) (K : List Nat) (x : Nat) : Kn := if (kn.any fun p => decide (p.1 = K)) = true then kn.map (fun p => if p.1 = K then (p.1, x) else p) else kn ++ [(K, x)]
theorem any_knV {κ : Type} [DecidableEq κ] {β : Type} (f : Nat → β) (g : List Nat → κ) (hg : ∀ a b, g a = g b → a = b) (K : List Nat) : ∀ kn : Kn, ((kn.map fun p => (g p.1, f p.2)).any fun q => decide (q.1 = g K)) = kn.any fun p => decide (p.1 = K)
  | [] => rfl
  | p :: r => by
    rw [List.map_cons, List.any_cons, List.any_cons, any_knV f g hg K r]
    congr 1
    exact decide_eq_decide.mpr ⟨fun h => hg _ _ h, fun h => by rw [h]⟩
theorem kD_put (kn : Kn) (K : List Nat) (x : Nat) : kD (putN kn K x) = putD (kD kn) K (nD x) := by
  unfold putN putD kD
  rw [show ((kn.map fun p => (p.1, nD p.2)).any fun q => decide (q.1 = K)) = kn.any fun p => decide (p.1 = K) from any_knV nD id (fun _ _ h => h) K kn]
  by_cases h : (kn.any fun p => decide (p.1 = K)) = true
  · rw [if_pos h, if_pos h, List.map_map, List.map_map]
    refine List.map_congr_left fun p hp => ?_
    show ((if p.1 = K then (p.1, x) else p).1, nD (if p.1 = K then (p.1, x) else p).2) = if p.1 = K then (p.1, nD x) else (p.1, nD p.2)
    by_cases e : p.1 = K
    · rw [if_pos e, if_pos e]
    · rw [if_neg e, if_neg e]
  · rw [if_neg h, if_neg h, List.map_append]
    rfl
theorem knL_put (kn : Kn) (K K' : List Nat) (x : Nat) : knL (putN kn K x) K' = if K' = K then some (nD x) else knL kn K' := by
  unfold knL
  rw [kD_put, valD_putD]
theorem put_nd {kn : Kn} {K : List Nat} {x : Nat} (h : (kn.map (·.1)).Nodup) : ((putN kn K x).map (·.1)).Nodup := by
  unfold putN
  by_cases e : (kn.any fun p => decide (p.1 = K)) = true
  · rw [if_pos e, List.map_map]
    have : kn.map ((·.1) ∘ fun p => if p.1 = K then (p.1, x) else p) = kn.map (·.1) := List.map_congr_left fun p _ => by
      show (if p.1 = K then (p.1, x) else p).1 = p.1
      by_cases z : p.1 = K
      · rw [if_pos z]
      · rw [if_neg z]
    rw [this]
    exact h
  · rw [if_neg e, List.map_append, List.nodup_append]
    refine ⟨h, by simp, fun a ha b hb z => e ?_⟩
    have hb : b = K := by simpa using hb
    obtain ⟨p, hp, rfl⟩ := List.mem_map.mp ha
    exact List.any_eq_true.mpr ⟨p, hp, by simp [z, hb]⟩
theorem put_mem {kn : Kn} {K : List Nat} {x : Nat} {p : List Nat × Nat} (h : p ∈ putN kn K x) : p ∈ kn ∨ p.1 = K := by
  unfold putN at h
  by_cases e : (kn.any fun p => decide (p.1 = K)) = true
  · rw [if_pos e] at h
    obtain ⟨q, hq, rfl⟩ := List.mem_map.mp h
    by_cases z : q.1 = K
    · rw [if_pos z]; exact .inr z
    · rw [if_neg z]; exact .inl hq
  · rw [if_neg e] at h
    rcases List.mem_append.mp h with h | h
    · exact .inl h
    · rw [List.mem_singleton.mp h]; exact .inr rfl
/-- K is of the kind at place i -/
def OfK (n : Nat) (m : Nat → Nat → Nat) (ks : List (List Nat)) (K : List Nat) (i : Nat) : Prop := ∃ K0, ks[i]? = some K0 ∧ ∃ g, g < n ∧ Led n m K0 g K
structure KnOk (n : Nat) (m : Nat → Nat → Nat) (ks : List (List Nat)) (kn : Kn) : Prop where
  nd : (kn.map (·.1)).Nodup
  sub : ∀ p ∈ kn, Sub n m p.1
  ok : ∀ K x, knL kn K = some x → ∃ i, x = nD i ∧ OfK n m ks K i
  all : ∀ K ∈ ks, (knL kn K).isSome = true
section
variable {n : Nat} {m : Nat → Nat → Nat} {ks : List (List Nat)} {kn : Kn} {K : List Nat} {i j : Nat}
theorem KnOk.len (h : Hse n m) (h60 : n ≤ 60) (k : KnOk n m ks kn) : kn.length ≤ 2400 := by
  have := few_subs h h60 k.nd fun H hH => by
    obtain ⟨p, hp, rfl⟩ := List.mem_map.mp hH
    exact k.sub p hp
  rwa [List.length_map] at this
theorem KnOk.put (k : KnOk n m ks kn) (s : Sub n m K) (o : OfK n m ks K i) : KnOk n m ks (putN kn K i) := by
  refine ⟨put_nd k.nd, fun p hp => ?_, fun K' x e => ?_, fun K' hK' => ?_⟩
  · rcases put_mem hp with hp | hp
    · exact k.sub p hp
    · rw [hp]; exact s
  · rw [knL_put] at e
    by_cases z : K' = K
    · rw [if_pos z] at e
      cases e
      exact ⟨i, rfl, by rw [z]; exact o⟩
    · rw [if_neg z] at e
      exact k.ok K' x e
  · rw [knL_put]
    by_cases z : K' = K
    · rw [if_pos z]; rfl
    · rw [if_neg z]; exact k.all K' hK'
theorem OfK.uniq (h : Hse n m) (k : IsKinds n m ks) (a : OfK n m ks K i) (b : OfK n m ks K j) : i = j := by
  obtain ⟨K0, h0, g, hg, L0⟩ := a
  obtain ⟨K1, h1, g1, hg1, L1⟩ := b
  have m0 := List.mem_of_getElem? h0
  have m1 := List.mem_of_getElem? h1
  have s0 := k.sub K0 m0
  have s1 := k.sub K1 m1
  obtain ⟨b1, hb1, e1, e2⟩ := h.inv2 hg1
  have L2 := L1.back h s1 hg1 hb1 e1
  have L3 := L0.then_ h s0 hg hb1 L2
  have e := k.one K0 m0 K1 m1 _ (h.lt g b1 hg hb1) L3
  subst e
  have hi := (List.getElem?_eq_some_iff.mp h0)
  have hj := (List.getElem?_eq_some_iff.mp h1)
  obtain ⟨hi, ei⟩ := hi
  obtain ⟨hj, ej⟩ := hj
  exact (List.getElem_inj (h₀ := hi) (h₁ := hj) k.nd).mp (ei.trans ej.symm)
theorem OfK.led (h : Hse n m) (k : IsKinds n m ks) (a : OfK n m ks K i) {g : Nat} (hg : g < n) {K' : List Nat} (L : Led n m K g K') : OfK n m ks K' i := by
  obtain ⟨K0, h0, g0, hg0, L0⟩ := a
  exact ⟨K0, h0, _, h.lt g0 g hg0 hg, L0.then_ h (k.sub K0 (List.mem_of_getElem? h0)) hg0 hg L⟩
end
end VL
namespace VL
open PySem PySem.Spec PyProof.Rows L2 HM
structure FinOk (am : Am) (C a dx kk : Addr) (hn : Nat) (m : Nat → Nat → Nat) (F H : Hp) (kn : Kn) (ls : List (List Nat)) : Prop where
  ex : ∃ vh vl, H a = some (.ins C dx [("house", vh), ("known", .ref kk), ("leaders", vl)]) ∧ Rp F vh (houD hn m) ∧ Rp F vl (.lst (tlD ls))
  own : H dx = some (.own a)
  kn : H kk = some (.dT (knV kn))
  na : ¬ am.sp a
  nx : ¬ am.sp dx
  nk : ¬ am.sp kk
section
variable {am : Am} {C a dx kk : Addr} {hn : Nat} {m : Nat → Nat → Nat} {F F' H H' : Hp} {kn : Kn} {ls : List (List Nat)}
theorem FinOk.up (f : FinOk am C a dx kk hn m F H kn ls) (u : Up F F') (h1 : H' a = H a) (h2 : H' dx = H dx) (h3 : H' kk = H kk) : FinOk am C a dx kk hn m F' H' kn ls := by
  obtain ⟨vh, vl, e, r1, r2⟩ := f.ex
  exact ⟨⟨vh, vl, h1.trans e, r1.up u, r2.up u⟩, h2.trans f.own, h3.trans f.kn, f.na, f.nx, f.nk⟩
end
section
variable {am : Am} {C a dx kk : Addr} {hn : Nat} {m : Nat → Nat → Nat} {ks : List (List Nat)} {F H F' H' : Hp} {n n' : Nat} {P : Addr}
/-- behind a call that knows of no finder -/
theorem Out.keep {kn : Kn} {ls : List (List Nat)} (o : Out am F H F' H' n') (f : FinOk am C a dx kk hn m F H kn ls) : FinOk am C a dx kk hn m F' H' kn ls := by
  obtain ⟨vh, vl, e, r1, r2⟩ := f.ex
  exact f.up o.u ((o.k _ _ e f.na).trans e.symm) ((o.k _ _ f.own f.nx).trans f.own.symm) ((o.k _ _ f.kn f.nk).trans f.kn.symm)
end
end VL
namespace VL
open PySem PySem.Spec PyProof.Rows L2 HM
end VL
namespace VL
open PySem PySem.Spec PyProof.Rows L2 HM
section
variable {n N : Nat} {m a : Nat → Nat → Nat} {P : List Nat}
theorem at_idx {g : Nat} (h : g ∈ P) : tA P (P.idxOf g) = g := by
  have h1 := List.idxOf_lt_length_of_mem h
  have h2 := tA_get h1
  rw [List.getElem?_eq_getElem h1, List.getElem_idxOf h1] at h2
  exact (Option.some.inj h2).symm
theorem idx_at (nd : P.Nodup) {i : Nat} (hi : i < P.length) : P.idxOf (tA P i) = i := by
  have hm := tA_mem hi
  have h1 := List.idxOf_lt_length_of_mem hm
  have e : P[P.idxOf (tA P i)]? = P[i]? := by rw [tA_get h1, at_idx hm, tA_get hi]
  exact (List.getElem?_inj h1 nd).mp e
end
end VL
namespace VL
open PySem PySem.Spec PyProof.Rows L2 HM
theorem tA_range {N x : Nat} {f : Nat → Nat} (h : x < N) : tA ((List.range N).map f) x = f x := by
  unfold tA
  rw [List.getD_eq_getElem?_getD, List.getElem?_map, List.getElem?_range h]
  rfl
end VL
namespace VL
open PySem PySem.Spec PyProof.Rows L2 HM
end VL
namespace VL
open PySem PySem.Spec PyProof.Rows L2 HM
end VL
namespace VL
open PySem PySem.Spec PyProof.Rows L2 HM
end VL
namespace VL
open PySem PySem.Spec PyProof.Rows L2 HM
end VL
namespace VL
open PySem PySem.Spec PyProof.Rows L2 HM
end VL
namespace VL
open PySem PySem.Spec PyProof.Rows L2 HM HG
theorem OfK.lt {n : Nat} {m : Nat → Nat → Nat} {ks : List (List Nat)} {K : List Nat} {i : Nat} (o : OfK n m ks K i) : i < ks.length := by
  obtain ⟨K0, e, _⟩ := o
  exact (List.getElem?_eq_some_iff.mp e).1
def kI1 (x : Nat) : Key := .inl (x : Int)
theorem kI1_inj {a b : Nat} (h : kI1 a = kI1 b) : a = b := by
  unfold kI1 at h
  injection h with h
  exact Int.ofNat_inj.mp h
end VL
namespace VL
open PySem PySem.Spec PyProof.Rows L2 HM HG
end VL
namespace VL
open PySem PySem.Spec PyProof.Rows L2 HM HG
end VL
namespace VL
open PySem PySem.Spec PyProof.Rows L2 HM HG
end VL
namespace VL
open PySem PySem.Spec PyProof.Rows L2 HM HG
end VL
namespace VL
open PySem PySem.Spec PyProof.Rows L2 HM HG
end VL
namespace VL
open PySem PySem.Spec PyProof.Rows L2 HM
/-- a method of the text as the top has left it -/
structure MthAt (K : PySem.W.Frag) (C : Addr) (x qual : Str) (st : Stmt) (f : Addr) (oc : Value) (od : Option Addr) (kV doc pm : Value) (an : Option Addr) (cdv ct : Value) (sl : Array (Option Value)) : Prop where
  a : PySem.W.findIn K (.ref C) x = some (some (.ref f))
  t : PySem.W.isFn K (.ref f) = true
  l : K.lookup f = some ⟨oc, od, .func (PySem.W.fnOf x qual (defArgs st) (defBody st) (defScope st) .none kV doc pm an cdv ct), sl⟩
  c : PySem.W.codeIn K cdv qual = true
  k : PySem.W.keepIn K (.ref f) = true
section
variable {K : PySem.W.Frag} {C : Addr} {x qual : Str} {st : Stmt} {f : Addr} {oc : Value} {od : Option Addr} {kV doc pm : Value} {an : Option Addr} {cdv ct : Value} {sl : Array (Option Value)}
theorem MthAt.fn (D : MthAt K C x qual st f oc od kV doc pm an cdv ct sl) : Fun K x qual st f (PySem.W.fnOf x qual (defArgs st) (defBody st) (defScope st) .none kV doc pm an cdv ct) := fun_mk D.l D.c D.k
end
end VL
namespace VL
open PySem PySem.Spec PyProof.Rows L2 HM HG
/-- a dict by numbers, as the set of its keys -/
structure DkS (n : Nat) (fs : List Nat) (kvs : List (Key × Dt)) : Prop where
  keys : kvs.map (·.1) = fs.map kI1
  nd : fs.Nodup
  lt : ∀ f ∈ fs, f < n
section
variable {n y : Nat} {fs : List Nat} {kvs : List (Key × Dt)} {d : Dt}
theorem kI1_mem : kI1 y ∈ fs.map kI1 ↔ y ∈ fs := by
  rw [List.mem_map]
  exact ⟨fun ⟨x, hx, e⟩ => by rw [← kI1_inj e]; exact hx, fun h => ⟨y, h, rfl⟩⟩
theorem DkS.len (k : DkS n fs kvs) : kvs.length ≤ n := by
  have := congrArg List.length k.keys
  rw [List.length_map, List.length_map] at this
  rw [this]
  exact few_of_nodup k.nd k.lt
theorem DkS.has (k : DkS n fs kvs) : (valD kvs (kI1 y)).isSome = decide (y ∈ fs) := by
  rw [valD_some, k.keys]
  exact decide_eq_decide.mpr kI1_mem
theorem DkS.put (k : DkS n fs kvs) (hy : y < n) : DkS n (if y ∈ fs then fs else fs ++ [y]) (putD kvs (kI1 y) d) := by
  by_cases h : y ∈ fs
  · rw [if_pos h]
    exact ⟨by rw [putD_keys, if_pos (by rw [k.keys]; exact kI1_mem.mpr h)]; exact k.keys, k.nd, k.lt⟩
  · rw [if_neg h]
    refine ⟨by rw [putD_keys, if_neg (by rw [k.keys]; exact fun z => h (kI1_mem.mp z)), k.keys, List.map_append]; rfl, ?_, fun f hf => ?_⟩
    · rw [List.nodup_append]
      exact ⟨k.nd, List.pairwise_singleton .., fun a ha b hb z => h (by rw [List.mem_singleton.mp hb] at z; rw [← z]; exact ha)⟩
    · rcases List.mem_append.mp hf with hf | hf
      · exact k.lt f hf
      · rw [List.mem_singleton.mp hf]; exact hy
end
end VL
namespace VL
open PySem PySem.Spec PyProof.Rows L2 HM HG
end VL
namespace VL
open PySem PySem.Spec PyProof.Rows L2 HM HG
end VL
namespace VL
open PySem PySem.Spec PyProof.Rows L2 HM HG
end VL
namespace VL
open PySem PySem.Spec PyProof.Rows L2 HM HG
end VL
namespace VL
open PySem PySem.Spec PyProof.Rows L2 HM HG
theorem pm_ind (T : Nat → Nat → Nat) (i l : Nat) : ∀ r, pm T (fun k => if k = i then 1 else 0) r l = if i < r then (T i l : Int) else 0
  | 0 => by rw [if_neg (Nat.not_lt_zero i)]; rfl
  | r + 1 => by
    show pm T _ r l + (if r = i then (1 : Int) else 0) * (T r l : Int) = _
    rw [pm_ind T i l r]
    by_cases z : r = i
    · rw [if_pos z, if_neg (by omega), if_pos (by omega), z]; omega
    · rw [if_neg z]
      by_cases w : i < r
      · rw [if_pos w, if_pos (by omega)]; omega
      · rw [if_neg w, if_neg (by omega)]; omega
end VL
namespace VL
open PySem PySem.Spec PyProof.Rows L2 HM HG
/-- g taken i times -/
def pwH (m : Nat → Nat → Nat) (g : Nat) : Nat → Nat
  | 0 => 0
  | i + 1 => m (pwH m g i) g
theorem pwH_lt {n : Nat} {m : Nat → Nat → Nat} (h : Hse n m) {g : Nat} (hg : g < n) : ∀ i, pwH m g i < n
  | 0 => h.pos
  | i + 1 => h.lt _ _ (pwH_lt h hg i) hg
end VL
namespace VL
open PySem PySem.Spec PyProof.Rows L2 HM HG
section
variable {n : Nat} {m : Nat → Nat → Nat} {L : List Nat} {g : Nat}
theorem pwH_add (h : Hse n m) (hg : g < n) (i : Nat) : ∀ j, pwH m g (i + j) = m (pwH m g i) (pwH m g j)
  | 0 => (h.zr _ (pwH_lt h hg i)).symm
  | j + 1 => by
    show m (pwH m g (i + j)) g = m (pwH m g i) (m (pwH m g j) g)
    rw [pwH_add h hg i j, h.as _ _ g (pwH_lt h hg i) (pwH_lt h hg j) hg]
theorem pwH_back (h : Hse n m) (hg : g < n) : ∃ r, 0 < r ∧ r ≤ n ∧ pwH m g r = 0 := by
  refine Classical.byContradiction fun no => ?_
  have nd : ((List.range (n + 1)).map (pwH m g)).Nodup := List.pairwise_map.mpr (List.Pairwise.imp_of_mem (fun {a b} ha hb hab e => ?_) List.pairwise_lt_range)
  · have := few_of_nodup (n := n) nd fun x hx => by
      obtain ⟨i, _, rfl⟩ := List.mem_map.mp hx
      exact pwH_lt h hg i
    rw [List.length_map, List.length_range] at this
    omega
  · have hb := List.mem_range.mp hb
    have e2 := pwH_add h hg (b - a) a
    rw [show b - a + a = b by omega, ← e] at e2
    refine no ⟨b - a, by omega, by omega, ?_⟩
    have ha' := pwH_lt h hg a
    refine (h.rc h.pos (pwH_lt h hg (b - a)) ha' ?_).symm
    rw [h.zl _ ha', ← e2]
/-- the first power of g in L -/
theorem pwH_least (h : Hse n m) (s : Sub n m L) (hg : g < n) : ∃ r, 0 < r ∧ r ≤ n ∧ (∀ i, 0 < i → i < r → pwH m g i ∉ L) ∧ pwH m g r ∈ L := by
  classical
  obtain ⟨r0, h1, h2, h3⟩ := pwH_back h hg
  have ex : ∀ k, (∃ r, 0 < r ∧ r ≤ k ∧ pwH m g r ∈ L) → ∃ r, 0 < r ∧ r ≤ k ∧ (∀ i, 0 < i → i < r → pwH m g i ∉ L) ∧ pwH m g r ∈ L := fun k => by
    induction k with
    | zero => rintro ⟨r, a, b, _⟩; omega
    | succ k ih =>
      rintro ⟨r, a, b, c⟩
      by_cases z : ∃ r, 0 < r ∧ r ≤ k ∧ pwH m g r ∈ L
      · obtain ⟨r, a, b, c, d⟩ := ih z
        exact ⟨r, a, by omega, c, d⟩
      · refine ⟨r, a, b, fun i i0 ir w => z ⟨i, i0, by omega, w⟩, c⟩
  obtain ⟨r, a, b, c, d⟩ := ex n ⟨r0, h1, h2, by rw [h3]; exact s.ze⟩
  exact ⟨r, a, b, c, d⟩
end
end VL
namespace VL
open PySem PySem.Spec PyProof.Rows L2 HM HG
/-- G is made of L and the powers of g, a number that leads L to itself; r is the least power in L -/
structure Grw (n : Nat) (m : Nat → Nat → Nat) (L : List Nat) (g r : Nat) (G : List Nat) : Prop where
  lt : g < n
  st : phi m L L g = true
  pos : 0 < r
  out : ∀ i, 0 < i → i < r → pwH m g i ∉ L
  ind : pwH m g r ∈ L
  up : G.Pairwise (· < ·)
  mem : ∀ y, y ∈ G ↔ ∃ i l, l ∈ L ∧ m l (pwH m g i) = y
/-- all of these, each once, with how many shares make it -/
structure GrwAll (n : Nat) (m : Nat → Nat → Nat) (L : List Nat) (Gs : List (List Nat × Nat)) : Prop where
  all : ∀ p ∈ Gs, ∃ g r, Grw n m L g r p.1 ∧ p.2 = ((List.range r).filter fun i => decide (Nat.gcd (i + 1) r = 1)).length
  has : ∀ g r G, Grw n m L g r G → ∃ k, (G, k) ∈ Gs
  one : (Gs.map (·.1)).Nodup
end VL
namespace VL
open PySem PySem.Spec PyProof.Rows L2 HM HG
section
variable {n : Nat} {m : Nat → Nat → Nat} {L G : List Nat} {g r : Nat}
theorem pwH_pass (h : Hse n m) (s : Sub n m L) (hg : g < n) (st : phi m L L g = true) : ∀ i {k : Nat}, k ∈ L → ∃ x ∈ L, m x (pwH m g i) = m (pwH m g i) k
  | 0, k, hk => ⟨k, hk, by show m k 0 = m 0 k; rw [h.zr k (s.lt k hk), h.zl k (s.lt k hk)]⟩
  | i + 1, k, hk => by
    obtain ⟨x, hx, e⟩ := (phi_iff h s s.lt hg).mp st k hk
    obtain ⟨y, hy, e2⟩ := pwH_pass h s hg st i hx
    have hp := pwH_lt h hg i
    have kn := s.lt k hk
    have xn := s.lt x hx
    have yn := s.lt y hy
    refine ⟨y, hy, ?_⟩
    show m y (m (pwH m g i) g) = m (m (pwH m g i) g) k
    rw [← h.as y _ g yn hp hg, e2, h.as _ x g hp xn hg, e, ← h.as _ g k hp hg kn]
theorem Grw.sub (h : Hse n m) (s : Sub n m L) (w : Grw n m L g r G) : Sub n m G := by
  refine ⟨w.up, fun y hy => ?_, (w.mem 0).mpr ⟨0, 0, s.ze, h.zl 0 h.pos⟩, fun y hy z hz => ?_⟩
  · obtain ⟨i, l, hl, rfl⟩ := (w.mem y).mp hy
    exact h.lt _ _ (s.lt l hl) (pwH_lt h w.lt i)
  · obtain ⟨i, l, hl, rfl⟩ := (w.mem y).mp hy
    obtain ⟨j, k, hk, rfl⟩ := (w.mem z).mp hz
    obtain ⟨x, hx, e⟩ := pwH_pass h s w.lt w.st i hk
    have hi := pwH_lt h w.lt i
    have hj := pwH_lt h w.lt j
    have ln := s.lt l hl
    have kn := s.lt k hk
    have xn := s.lt x hx
    refine (w.mem _).mpr ⟨i + j, m l x, s.mul l hl x hx, ?_⟩
    rw [pwH_add h w.lt i j, ← h.as (m l x) _ _ (h.lt l x ln xn) hi hj, h.as l x _ ln xn hi, e, ← h.as l _ k ln hi kn, h.as (m l (pwH m g i)) k _ (h.lt _ _ ln hi) kn hj]
theorem Grw.has (h : Hse n m) (s : Sub n m L) (w : Grw n m L g r G) : ∀ l ∈ L, l ∈ G := fun l hl => (w.mem l).mpr ⟨0, l, hl, h.zr l (s.lt l hl)⟩
end
end VL
namespace VL
open PySem PySem.Spec PyProof.Rows L2 HM HG
theorem bezI (a b : Nat) : ∃ x y : Int, (a : Int) * x + b * y = (Nat.gcd a b : Nat) := by
  induction a, b using Nat.gcd.induction with
  | H0 n => exact ⟨0, 1, by rw [Nat.gcd_zero_left]; omega⟩
  | H1 c d hc ih =>
    obtain ⟨x, y, e⟩ := ih
    refine ⟨y - (d / c : Nat) * x, x, ?_⟩
    rw [Nat.gcd_rec c d, ← e]
    have : ((d % c : Nat) : Int) = (d : Int) - c * (d / c : Nat) := by
      have h1 := Nat.div_add_mod d c
      have h2 : ((c * (d / c) + d % c : Nat) : Int) = (d : Int) := congrArg _ h1
      rw [Int.natCast_add, Int.natCast_mul] at h2
      omega
    rw [this, Int.mul_sub, Int.sub_mul, Int.mul_assoc]
    omega
theorem bezN {j r : Nat} (j0 : 0 < j) (r0 : 0 < r) (e : Nat.gcd j r = 1) : ∃ a b, j * a = 1 + r * b := by
  rcases Nat.lt_or_ge r 2 with z | z
  · have : r = 1 := by omega
    subst this
    exact ⟨1, j - 1, by omega⟩
  · obtain ⟨x, y, h⟩ := bezI j r
    rw [e] at h
    have hr : (0 : Int) < r := by omega
    have p0 := Int.emod_nonneg x (show (r : Int) ≠ 0 by omega)
    have e1 := Int.mul_ediv_add_emod x r
    obtain ⟨a, ha⟩ := Int.eq_ofNat_of_zero_le p0
    have key : (j : Int) * a = 1 + r * (-y - j * (x / r)) := by
      have e2 : x = r * (x / r) + a := by rw [← ha]; exact e1.symm
      generalize x / (r : Int) = q at e2 ⊢
      subst e2
      rw [Int.mul_add, ← Int.mul_assoc, Int.mul_comm (j : Int) r, Int.mul_assoc] at h
      rw [Int.mul_sub, Int.mul_neg]
      have h1 : ((1 : Nat) : Int) = 1 := rfl
      omega
    have b0 : 0 ≤ -y - j * (x / r) := by
      generalize -y - (j : Int) * (x / r) = b at key ⊢
      have h1 : (0 : Int) ≤ j * a := Int.mul_nonneg (by omega) (by omega)
      rcases (show b < 0 ∨ 0 ≤ b by omega) with w | w
      · have : (r : Int) * b ≤ r * (-1) := Int.mul_le_mul_of_nonneg_left (by omega) (by omega)
        omega
      · exact w
    obtain ⟨b, hb⟩ := Int.eq_ofNat_of_zero_le b0
    rw [hb] at key
    refine ⟨a, b, ?_⟩
    have : ((j * a : Nat) : Int) = ((1 + r * b : Nat) : Int) := by
      rw [Int.natCast_add, Int.natCast_mul, Int.natCast_mul, key]
      rfl
    exact Int.ofNat.inj this
section
variable {n : Nat} {m : Nat → Nat → Nat} {L G : List Nat} {g r : Nat}
theorem Sub.mul_in (h : Hse n m) (s : Sub n m L) {l x : Nat} (hl : l ∈ L) (hx : x < n) : m l x ∈ L ↔ x ∈ L := by
  refine ⟨fun w => ?_, s.mul l hl x⟩
  obtain ⟨y, hy, _, e⟩ := s.inv h hl
  have := s.mul y hy _ w
  rwa [← h.as y l x (s.lt y hy) (s.lt l hl) hx, e, h.zl x hx] at this
theorem pwH_in (h : Hse n m) (s : Sub n m L) (hg : g < n) (r0 : 0 < r) (out : ∀ i, 0 < i → i < r → pwH m g i ∉ L) (ind : pwH m g r ∈ L) : ∀ i, pwH m g i ∈ L ↔ r ∣ i := fun i => by
  induction i using Nat.strongRecOn with
  | _ i ih =>
    by_cases z : i < r
    · constructor
      · intro w
        rcases Nat.eq_zero_or_pos i with e | e
        · rw [e]; exact ⟨0, rfl⟩
        · exact absurd w (out i e z)
      · intro w
        have := Nat.eq_zero_of_dvd_of_lt w z
        rw [this]; exact s.ze
    · have e : r + (i - r) = i := by omega
      have ih2 := ih (i - r) (by omega)
      have e2 : pwH m g i = m (pwH m g r) (pwH m g (i - r)) := by rw [← pwH_add h hg r (i - r), e]
      rw [e2, Sub.mul_in h s ind (pwH_lt h hg _), ih2]
      constructor
      · rintro ⟨c, e3⟩
        exact ⟨c + 1, by rw [Nat.mul_succ]; omega⟩
      · rintro ⟨c, e3⟩
        cases c with
        | zero => omega
        | succ c => exact ⟨c, by rw [Nat.mul_succ] at e3; omega⟩
theorem pwH_cls (h : Hse n m) (s : Sub n m L) (hg : g < n) (r0 : 0 < r) (out : ∀ i, 0 < i → i < r → pwH m g i ∉ L) (ind : pwH m g r ∈ L) {i j : Nat} (hij : i ≤ j) : cls m L (pwH m g i) (pwH m g j) ↔ r ∣ j - i := by
  have e : pwH m g j = m (pwH m g (j - i)) (pwH m g i) := by rw [← pwH_add h hg (j - i) i, Nat.sub_add_cancel hij]
  rw [← pwH_in h s hg r0 out ind (j - i)]
  constructor
  · rintro ⟨x, hx, e2⟩
    rw [e] at e2
    rw [← h.rc (s.lt x hx) (pwH_lt h hg _) (pwH_lt h hg _) e2]
    exact hx
  · intro w
    exact ⟨_, w, e.symm⟩
theorem pwH_one (h : Hse n m) (hg : g < n) : pwH m g 1 = g := h.zl g hg
theorem pwH_cls_pow (h : Hse n m) (s : Sub n m L) (hg : g < n) (st : phi m L L g = true) {l j x : Nat} (hl : l ∈ L) (e : m l (pwH m g j) = x) : ∀ i, cls m L (pwH m g (j * i)) (pwH m x i)
  | 0 => s.refl h h.pos
  | i + 1 => by
    obtain ⟨y, hy, e2⟩ := pwH_cls_pow h s hg st hl e i
    obtain ⟨z, hz, e3⟩ := pwH_pass h s hg st (j * i) hl
    refine ⟨m y z, s.mul y hy z hz, ?_⟩
    show m (m y z) (pwH m g (j * i + j)) = m (pwH m x i) x
    rw [pwH_add h hg, ← e2, ← e]
    have yn := s.lt y hy
    have zn := s.lt z hz
    have ln := s.lt l hl
    have p := pwH_lt h hg (j * i)
    have q := pwH_lt h hg j
    generalize pwH m g (j * i) = a at *
    generalize pwH m g j = b at *
    rw [h.as y z _ yn zn (h.lt _ _ p q), ← h.as z a b zn p q, e3, h.as y a _ yn p (h.lt _ _ ln q), ← h.as a l b p ln q]
theorem Grw.ex (h : Hse n m) (s : Sub n m L) (hg : g < n) (st : phi m L L g = true) : ∃ r G, Grw n m L g r G ∧ r ≤ n := by
  classical
  obtain ⟨r, r0, rn, out, ind⟩ := pwH_least h s hg
  refine ⟨r, (List.range n).filter fun y => decide (∃ i l, l ∈ L ∧ m l (pwH m g i) = y), ⟨hg, st, r0, out, ind, List.Pairwise.filter _ List.pairwise_lt_range, fun y => ?_⟩, rn⟩
  rw [List.mem_filter, List.mem_range, decide_eq_true_iff]
  refine ⟨fun w => w.2, fun w => ⟨?_, w⟩⟩
  obtain ⟨i, l, hl, rfl⟩ := w
  exact h.lt _ _ (s.lt l hl) (pwH_lt h hg i)
theorem Grw.sub_of (h : Hse n m) (s : Sub n m L) {x r' : Nat} {G' : List Nat} (w : Grw n m L g r G) (w' : Grw n m L x r' G') {l j : Nat} (hl : l ∈ L) (e : m l (pwH m g j) = x) : ∀ y ∈ G', y ∈ G := fun y hy => by
  obtain ⟨i, k, hk, rfl⟩ := (w'.mem y).mp hy
  obtain ⟨z, hz, e2⟩ := pwH_cls_pow h s w.lt w.st hl e i
  refine (w.mem _).mpr ⟨j * i, m k z, s.mul k hk z hz, ?_⟩
  rw [← e2, h.as k z _ (s.lt k hk) (s.lt z hz) (pwH_lt h w.lt _)]
theorem Grw.eq_of (h : Hse n m) (s : Sub n m L) {x r' : Nat} {G' : List Nat} (w : Grw n m L g r G) (w' : Grw n m L x r' G') (c : cls m L g x) : G = G' := by
  have gn := w.lt
  have xn := w'.lt
  obtain ⟨l, hl, e⟩ := c
  obtain ⟨k, hk, e2⟩ := s.symm h gn ⟨l, hl, e⟩
  refine rising_eq w.up w'.up fun y => ⟨fun hy => ?_, fun hy => ?_⟩
  · exact w'.sub_of h s w hk (by rw [pwH_one h xn]; exact e2) y hy
  · exact w.sub_of h s w' hl (by rw [pwH_one h gn]; exact e) y hy
/-- a power that has nothing in common with r makes the same -/
theorem Grw.gen (h : Hse n m) (s : Sub n m L) {x r' : Nat} {G' : List Nat} (w : Grw n m L g r G) (w' : Grw n m L x r' G') {l j : Nat} (hl : l ∈ L) (e : m l (pwH m g j) = x) (j0 : 0 < j) (hc : Nat.gcd j r = 1) : G = G' := by
  have gn := w.lt
  have xn := w'.lt
  obtain ⟨a, b, e2⟩ := bezN j0 w.pos hc
  have c1 := pwH_cls_pow h s gn w.st hl e a
  have c2 : cls m L (pwH m g 1) (pwH m g (j * a)) := (pwH_cls h s gn w.pos w.out w.ind (by omega)).mpr ⟨b, by omega⟩
  have c3 := s.symm h (pwH_lt h gn 1) (s.trans h (pwH_lt h gn 1) c2 c1)
  rw [pwH_one h gn] at c3
  obtain ⟨k, hk, e3⟩ := c3
  exact rising_eq w.up w'.up fun y => ⟨fun hy => w'.sub_of h s w hk e3 y hy, fun hy => w.sub_of h s w' hl e y hy⟩
/-- and only such a power does -/
theorem Grw.gen_only (h : Hse n m) (s : Sub n m L) {x r' : Nat} (w : Grw n m L g r G) (w' : Grw n m L x r' G) : ∃ j l, l ∈ L ∧ m l (pwH m g j) = x ∧ 0 < j ∧ j ≤ r ∧ Nat.gcd j r = 1 := by
  have gn := w.lt
  have xn := w'.lt
  have hx : x ∈ G := (w'.mem x).mpr ⟨1, 0, s.ze, by rw [pwH_one h xn, h.zl x xn]⟩
  obtain ⟨i, k, hk, e⟩ := (w.mem x).mp hx
  -- the power from 1 to r
  have r0 := w.pos
  obtain ⟨j, j0, jr, hj⟩ : ∃ j, 0 < j ∧ j ≤ r ∧ cls m L (pwH m g j) (pwH m g i) := by
    rcases Nat.eq_zero_or_pos (i % r) with z | z
    · refine ⟨r, r0, Nat.le_refl _, ?_⟩
      have a1 : cls m L (pwH m g 0) (pwH m g r) := (pwH_cls h s gn r0 w.out w.ind (by omega)).mpr ⟨1, by omega⟩
      have a2 : cls m L (pwH m g 0) (pwH m g i) := (pwH_cls h s gn r0 w.out w.ind (by omega)).mpr (Nat.dvd_of_mod_eq_zero z)
      exact s.trans h (pwH_lt h gn r) (s.symm h (pwH_lt h gn 0) a1) a2
    · refine ⟨i % r, z, Nat.le_of_lt (Nat.mod_lt _ r0), ?_⟩
      refine (pwH_cls h s gn r0 w.out w.ind (Nat.mod_le i r)).mpr ⟨i / r, ?_⟩
      have := Nat.div_add_mod i r
      omega
  obtain ⟨l, hl, e2⟩ := s.trans h (pwH_lt h gn j) hj ⟨k, hk, e⟩
  refine ⟨j, l, hl, e2, j0, jr, ?_⟩
  have hg' : g ∈ G := (w.mem g).mpr ⟨1, 0, s.ze, by rw [pwH_one h gn, h.zl g gn]⟩
  obtain ⟨a, q, hq, e3⟩ := (w'.mem g).mp hg'
  have c1 := pwH_cls_pow h s gn w.st hl e2 a
  have c2 : cls m L (pwH m g (j * a)) (pwH m g 1) := by
    rw [pwH_one h gn]
    exact s.trans h (pwH_lt h gn _) c1 ⟨q, hq, e3⟩
  have d : ∀ c, c ∣ j → c ∣ r → c = 1 := fun c h1 h2 => by
    rcases Nat.eq_zero_or_pos (j * a) with z | z
    · have hd := (pwH_cls h s gn r0 w.out w.ind (show j * a ≤ 1 by omega)).mp c2
      rw [z] at hd
      have := Nat.dvd_trans h2 hd
      exact Nat.dvd_one.mp this
    · have hd := (pwH_cls h s gn r0 w.out w.ind (show 1 ≤ j * a by omega)).mp (s.symm h (pwH_lt h gn _) c2)
      have h3 := Nat.dvd_trans h2 hd
      have h4 : c ∣ j * a := Nat.dvd_trans h1 ⟨a, rfl⟩
      have h5 := Nat.dvd_sub h4 h3
      rw [show j * a - (j * a - 1) = 1 by omega] at h5
      exact Nat.dvd_one.mp h5
  exact d _ (Nat.gcd_dvd_left j r) (Nat.gcd_dvd_right j r)
end
end VL
namespace VL
open PySem PySem.Spec PyProof.Rows L2 HM HG
/-- what a set of whole numbers from nought on knows, as a list -/
structure SetP (N : Nat) (S : Int → Bool) (c : Nat) (ds : List Nat) : Prop where
  mem : ∀ s : Nat, S (s : Int) = true ↔ s ∈ ds
  nd : ds.Nodup
  len : c = ds.length
  lt : ∀ s ∈ ds, s < N
theorem SetP.few {N c : Nat} {S : Int → Bool} {ds : List Nat} (w : SetP N S c ds) : c ≤ N := by
  rw [w.len]
  exact few_of_nodup w.nd w.lt
theorem SetP.add {N c s : Nat} {S : Int → Bool} {ds : List Nat} (w : SetP N S c ds) (hs : s < N) : ∃ ds', SetP N (fun j => S j || decide (j = (s : Int))) (if S (s : Int) = true then c else c + 1) ds' ∧ ∀ x, x ∈ ds' ↔ x ∈ ds ∨ x = s := by
  by_cases e : s ∈ ds
  · refine ⟨ds, ⟨fun x => ?_, w.nd, by rw [if_pos ((w.mem s).mpr e)]; exact w.len, w.lt⟩, fun x => ⟨.inl, fun h => h.elim id fun z => by rw [z]; exact e⟩⟩
    rw [Bool.or_eq_true, w.mem x, decide_eq_true_iff]
    exact ⟨fun h => h.elim id fun z => by rw [show x = s by omega]; exact e, .inl⟩
  · refine ⟨ds ++ [s], ⟨fun x => ?_, ?_, ?_, fun x hx => ?_⟩, fun x => by rw [List.mem_append, List.mem_singleton]⟩
    · rw [Bool.or_eq_true, w.mem x, decide_eq_true_iff, List.mem_append, List.mem_singleton]
      exact ⟨fun h => h.imp id fun z => by omega, fun h => h.imp id fun z => by omega⟩
    · rw [List.nodup_append]
      exact ⟨w.nd, by simp, fun a ha b hb z => e (by rw [← List.mem_singleton.mp hb, ← z]; exact ha)⟩
    · rw [if_neg (fun z => e ((w.mem s).mp z)), List.length_append, w.len]
      rfl
    · rcases List.mem_append.mp hx with hx | hx
      · exact w.lt x hx
      · rw [List.mem_singleton.mp hx]; exact hs
def cop (r : Nat) : List Nat := (List.range r).filter fun i => decide (Nat.gcd (i + 1) r = 1)
/-- behind the first j shares: ds are the shares whose part was told -/
structure GIn (n : Nat) (m : Nat → Nat → Nat) (L : List Nat) (j : Nat) (ds : List Nat) (Gs : List (List Nat × Nat)) : Prop where
  all : ∀ p ∈ Gs, ∃ g r, Grw n m L g r p.1 ∧ p.2 = (cop r).length
  mem : ∀ y, y < n → (plc m L y ∈ ds ↔ ∃ r G k, Grw n m L y r G ∧ (G, k) ∈ Gs)
  has : ∀ i y, i < j → (lst m L n)[i]? = some y → phi m L L y = true → ∃ r G k, Grw n m L y r G ∧ (G, k) ∈ Gs
  one : (Gs.map (·.1)).Nodup
  len : Gs.length ≤ j
section
variable {n : Nat} {m : Nat → Nat → Nat} {L G : List Nat} {g r j : Nat} {ds : List Nat} {Gs : List (List Nat × Nat)}
theorem GIn.zero : GIn n m L 0 [] [] where
  all p hp := by cases hp
  mem y _ := ⟨fun h => (by cases h), fun ⟨_, _, _, _, h⟩ => (by cases h)⟩
  has i y h := by omega
  one := List.nodup_nil
  len := Nat.le_refl _
theorem GIn.put (h : Hse n m) (s : Sub n m L) (I : GIn n m L j ds Gs) {y : Nat} (hy : (lst m L n)[j]? = some y) (nd : j ∉ ds) (w : Grw n m L y r G) {ds' : List Nat} (hd : ∀ x, x ∈ ds' ↔ x ∈ ds ∨ ∃ i, i < r ∧ Nat.gcd (i + 1) r = 1 ∧ x = plc m L (pwH m y (i + 1))) : GIn n m L (j + 1) ds' (Gs ++ [(G, (cop r).length)]) := by
  obtain ⟨yn, ep⟩ := lst_plc hy
  have key : ∀ z, z < n → ((∃ i, i < r ∧ Nat.gcd (i + 1) r = 1 ∧ plc m L z = plc m L (pwH m y (i + 1))) ↔ ∃ r', Grw n m L z r' G) := fun z zn => by
    constructor
    · rintro ⟨i, hi, hc, e⟩
      have pn := pwH_lt h yn (i + 1)
      obtain ⟨l, hl, e2⟩ := s.cls_of_rp h pn zn ((s.plc_iff h pn zn).mp e.symm)
      have stz : phi m L L z = true := by
        have hz : z ∈ G := (w.mem z).mpr ⟨i + 1, l, hl, e2⟩
        rw [← phi_cls h s s.lt pn ⟨l, hl, e2⟩, phi_iff h s s.lt pn]
        intro k hk
        obtain ⟨x, hx, e3⟩ := pwH_pass h s yn w.st (i + 1) hk
        exact ⟨x, hx, e3⟩
      obtain ⟨r', G', w', _⟩ := Grw.ex h s zn stz
      refine ⟨r', ?_⟩
      rw [w.gen h s w' hl e2 (Nat.succ_pos i) hc]
      exact w'
    · rintro ⟨r', w'⟩
      obtain ⟨i, l, hl, e, i0, ir, hc⟩ := w.gen_only h s w'
      refine ⟨i - 1, by omega, ?_, ?_⟩
      · rw [Nat.sub_add_cancel i0]; exact hc
      · rw [Nat.sub_add_cancel i0]
        have pn := pwH_lt h yn i
        exact (s.plc_iff h zn pn).mpr (s.rp_eq h pn ⟨l, hl, e⟩).symm
  have new : ∀ k, (G, k) ∉ Gs := fun k hk => nd (by rw [← ep]; exact (I.mem y yn).mpr ⟨r, G, k, w, hk⟩)
  refine ⟨fun p hp => ?_, fun z zn => ?_, fun i z hi hz st => ?_, ?_, ?_⟩
  · rcases List.mem_append.mp hp with hp | hp
    · exact I.all p hp
    · rw [List.mem_singleton.mp hp]
      exact ⟨y, r, w, rfl⟩
  · rw [hd, I.mem z zn, key z zn]
    constructor
    · rintro (⟨r', G', k, w', hk⟩ | ⟨r', w'⟩)
      · exact ⟨r', G', k, w', List.mem_append_left _ hk⟩
      · exact ⟨r', G, _, w', List.mem_append_right _ (List.mem_singleton.mpr rfl)⟩
    · rintro ⟨r', G', k, w', hk⟩
      rcases List.mem_append.mp hk with hk | hk
      · exact .inl ⟨r', G', k, w', hk⟩
      · cases List.mem_singleton.mp hk
        exact .inr ⟨r', w'⟩
  · by_cases e : i = j
    · subst e
      rw [hy] at hz
      cases hz
      exact ⟨r, G, _, w, List.mem_append_right _ (List.mem_singleton.mpr rfl)⟩
    · obtain ⟨r', G', k, w', hk⟩ := I.has i z (by omega) hz st
      exact ⟨r', G', k, w', List.mem_append_left _ hk⟩
  · rw [List.map_append, List.nodup_append]
    refine ⟨I.one, by simp, fun a ha b hb z => ?_⟩
    obtain ⟨p, hp, rfl⟩ := List.mem_map.mp ha
    have hb : b = G := by simpa using hb
    exact new p.2 (by rw [← hb, ← z]; exact hp)
  · rw [List.length_append]
    have := I.len
    show _ + 1 ≤ _
    omega
theorem GIn.done (h : Hse n m) (s : Sub n m L) (I : GIn n m L (lst m L n).length ds Gs) : GrwAll n m L Gs := by
  refine ⟨I.all, fun g r G w => ?_, I.one⟩
  have gn := w.lt
  have hr := s.rp_lt h gn
  have hg := plc_get h s gn
  have st : phi m L L (rp m L g) = true := by
    rw [← phi_cls h s s.lt gn (s.rp_cls h gn)]
    exact w.st
  obtain ⟨r', G', k, w', hk⟩ := I.has _ _ (plc_lt h s gn) hg st
  exact ⟨k, by rw [w.eq_of h s w' (s.rp_cls h gn)]; exact hk⟩
/-- the powers from 1 to r, each behind every number of the part -/
theorem Grw.perm (h : Hse n m) (s : Sub n m L) (w : Grw n m L g r G) : ((List.range r).flatMap fun i => L.map fun l => m l (pwH m g (i + 1))).Perm G := by
  have gn := w.lt
  refine (List.perm_ext_iff_of_nodup ?_ (w.up.imp fun z => Nat.ne_of_lt z)).mpr fun y => ?_
  · refine List.pairwise_flatMap.mpr ⟨fun i hi => ?_, ?_⟩
    · exact List.pairwise_map.mpr (List.Pairwise.imp_of_mem (fun {a b} ha hb hab e => hab (h.rc (s.lt a ha) (s.lt b hb) (pwH_lt h gn _) e)) s.nd)
    · refine List.Pairwise.imp_of_mem (fun {i j} hi hj hij x hx y hy e => ?_) (List.pairwise_lt_range (n := r))
      have hj := List.mem_range.mp hj
      obtain ⟨a, ha, rfl⟩ := List.mem_map.mp hx
      obtain ⟨b, hb, e2⟩ := List.mem_map.mp hy
      have c1 : cls m L (pwH m g (i + 1)) (m a (pwH m g (i + 1))) := ⟨a, ha, rfl⟩
      have c2 : cls m L (pwH m g (j + 1)) (m a (pwH m g (i + 1))) := ⟨b, hb, by rw [e]; exact e2⟩
      have c3 := s.trans h (pwH_lt h gn _) c1 (s.symm h (pwH_lt h gn _) c2)
      have := (pwH_cls h s gn w.pos w.out w.ind (show i + 1 ≤ j + 1 by omega)).mp c3
      have h0 := Nat.eq_zero_of_dvd_of_lt this (by omega)
      omega
  · rw [List.mem_flatMap, w.mem]
    constructor
    · rintro ⟨i, hi, hy⟩
      obtain ⟨l, hl, rfl⟩ := List.mem_map.mp hy
      exact ⟨i + 1, l, hl, rfl⟩
    · rintro ⟨i, l, hl, rfl⟩
      have r0 := w.pos
      obtain ⟨j, j0, jr, c⟩ : ∃ j, 0 < j ∧ j ≤ r ∧ cls m L (pwH m g j) (pwH m g i) := by
        rcases Nat.eq_zero_or_pos (i % r) with z | z
        · refine ⟨r, r0, Nat.le_refl _, ?_⟩
          have a1 : cls m L (pwH m g 0) (pwH m g r) := (pwH_cls h s gn r0 w.out w.ind (by omega)).mpr ⟨1, by omega⟩
          have a2 : cls m L (pwH m g 0) (pwH m g i) := (pwH_cls h s gn r0 w.out w.ind (by omega)).mpr (Nat.dvd_of_mod_eq_zero z)
          exact s.trans h (pwH_lt h gn r) (s.symm h (pwH_lt h gn 0) a1) a2
        · refine ⟨i % r, z, Nat.le_of_lt (Nat.mod_lt _ r0), ?_⟩
          refine (pwH_cls h s gn r0 w.out w.ind (Nat.mod_le i r)).mpr ⟨i / r, ?_⟩
          have := Nat.div_add_mod i r
          omega
      obtain ⟨x, hx, e⟩ := s.trans h (pwH_lt h gn j) c ⟨l, hl, rfl⟩
      exact ⟨j - 1, List.mem_range.mpr (by omega), List.mem_map.mpr ⟨x, hx, by rw [Nat.sub_add_cancel j0]; exact e⟩⟩
end
end VL
namespace VL
open PySem PySem.Spec PyProof.Rows L2 HM HG
/-- the least numbers of the shares that lead the part to itself -/
def stS (n : Nat) (m : Nat → Nat → Nat) (L : List Nat) : List Nat := (lst m L n).filter (phi m L L)
section
variable {n : Nat} {m : Nat → Nat → Nat} {L K G : List Nat} {g r : Nat} {Gs : List (List Nat × Nat)}
theorem stS_mem : g ∈ stS n m L ↔ g < n ∧ rp m L g = g ∧ phi m L L g = true := by
  unfold stS
  rw [List.mem_filter, lst_mem, and_assoc]
theorem stS_nd : (stS n m L).Nodup := (lst_nodup (m := m) (P := L) n).filter _
/-- the numbers that make the same as g -/
theorem Grw.key (h : Hse n m) (s : Sub n m L) (w : Grw n m L g r G) {z : Nat} (zn : z < n) : (∃ i, i < r ∧ Nat.gcd (i + 1) r = 1 ∧ plc m L z = plc m L (pwH m g (i + 1))) ↔ ∃ r', Grw n m L z r' G := by
  have yn := w.lt
  constructor
  · rintro ⟨i, hi, hc, e⟩
    have pn := pwH_lt h yn (i + 1)
    obtain ⟨l, hl, e2⟩ := s.cls_of_rp h pn zn ((s.plc_iff h pn zn).mp e.symm)
    have stz : phi m L L z = true := by
      rw [← phi_cls h s s.lt pn ⟨l, hl, e2⟩, phi_iff h s s.lt pn]
      intro k hk
      obtain ⟨x, hx, e3⟩ := pwH_pass h s yn w.st (i + 1) hk
      exact ⟨x, hx, e3⟩
    obtain ⟨r', G', w', _⟩ := Grw.ex h s zn stz
    refine ⟨r', ?_⟩
    rw [w.gen h s w' hl e2 (Nat.succ_pos i) hc]
    exact w'
  · rintro ⟨r', w'⟩
    obtain ⟨i, l, hl, e, i0, ir, hc⟩ := w.gen_only h s w'
    refine ⟨i - 1, by omega, ?_, ?_⟩
    · rw [Nat.sub_add_cancel i0]; exact hc
    · rw [Nat.sub_add_cancel i0]
      have pn := pwH_lt h yn i
      exact (s.plc_iff h zn pn).mpr (s.rp_eq h pn ⟨l, hl, e⟩).symm
theorem Grw.rp (h : Hse n m) (s : Sub n m L) (w : Grw n m L g r G) : ∃ r', Grw n m L (rp m L g) r' G := by
  have gn := w.lt
  have c := s.rp_cls h gn
  have st : phi m L L (VL.rp m L g) = true := by
    rw [← phi_cls h s s.lt gn c]
    exact w.st
  obtain ⟨r', G', w', _⟩ := Grw.ex h s (s.rp_lt h gn) st
  exact ⟨r', by rw [w.eq_of h s w' c]; exact w'⟩
open Classical in
noncomputable def gof (n : Nat) (m : Nat → Nat → Nat) (L : List Nat) (g : Nat) : List Nat := if w : ∃ G r, Grw n m L g r G then w.choose else []
theorem gof_eq (h : Hse n m) (s : Sub n m L) (w : Grw n m L g r G) : gof n m L g = G := by
  have ex : ∃ G r, Grw n m L g r G := ⟨G, r, w⟩
  unfold gof
  rw [dif_pos ex]
  obtain ⟨r', w'⟩ := ex.choose_spec
  exact w'.eq_of h s w (s.refl h w.lt)
theorem gof_is (h : Hse n m) (s : Sub n m L) (hg : g < n) (st : phi m L L g = true) : ∃ r, Grw n m L g r (gof n m L g) := by
  obtain ⟨r, G, w, _⟩ := Grw.ex h s hg st
  exact ⟨r, by rw [gof_eq h s w]; exact w⟩
/-- as many shares make it -/
theorem Grw.cnt (h : Hse n m) (s : Sub n m L) (w : Grw n m L g r G) : ((stS n m L).filter fun z => decide (gof n m L z = G)).length = (cop r).length := by
  have gn := w.lt
  have pn : ∀ i, pwH m g i < n := pwH_lt h gn
  have pm : ((cop r).map fun i => VL.rp m L (pwH m g (i + 1))).Perm ((stS n m L).filter fun z => decide (gof n m L z = G)) := by
    refine (List.perm_ext_iff_of_nodup ?_ (stS_nd.filter _)).mpr fun z => ?_
    · refine List.pairwise_map.mpr (List.Pairwise.imp_of_mem (fun {i j} hi hj hij e => ?_) (List.Pairwise.filter _ (List.pairwise_lt_range (n := r))))
      have hj := List.mem_range.mp (List.mem_filter.mp hj).1
      have := (pwH_cls h s gn w.pos w.out w.ind (show i + 1 ≤ j + 1 by omega)).mp (s.cls_of_rp h (pn _) (pn _) e)
      have h0 := Nat.eq_zero_of_dvd_of_lt this (by omega)
      omega
    · rw [List.mem_map, List.mem_filter, stS_mem, decide_eq_true_iff]
      constructor
      · rintro ⟨i, hi, rfl⟩
        unfold cop at hi
        rw [List.mem_filter, List.mem_range, decide_eq_true_iff] at hi
        obtain ⟨r', w'⟩ := (w.key h s (pn (i + 1))).mp ⟨i, hi.1, hi.2, rfl⟩
        obtain ⟨r2, w2⟩ := w'.rp h s
        exact ⟨⟨w2.lt, s.rp_rp h (pn _), w2.st⟩, gof_eq h s w2⟩
      · rintro ⟨⟨zn, zr, zs⟩, e⟩
        obtain ⟨r', w'⟩ := gof_is h s zn zs
        rw [e] at w'
        obtain ⟨i, hi, hc, e2⟩ := (w.key h s zn).mpr ⟨r', w'⟩
        refine ⟨i, ?_, ?_⟩
        · unfold cop
          rw [List.mem_filter, List.mem_range, decide_eq_true_iff]
          exact ⟨hi, hc⟩
        · rw [← (s.plc_iff h zn (pn _)).mp e2, zr]
  rw [← pm.length_eq, List.length_map]
theorem sum_perm {a b : List Int} (p : a.Perm b) : a.sum = b.sum := by
  induction p with
  | nil => rfl
  | cons x _ ih => rw [List.sum_cons, List.sum_cons, ih]
  | swap x y l => rw [List.sum_cons, List.sum_cons, List.sum_cons, List.sum_cons]; omega
  | trans _ _ h1 h2 => rw [h1, h2]
theorem sum_constC {α : Type} {f : α → Int} {c : Int} : ∀ {l : List α}, (∀ x ∈ l, f x = c) → (l.map f).sum = (l.length : Int) * c
  | [], _ => by simp
  | x :: l, h => by
    rw [List.map_cons, List.sum_cons, sum_constC fun y hy => h y (List.mem_cons_of_mem _ hy), h x List.mem_cons_self, List.length_cons, Int.natCast_add, Int.add_mul]
    show _ = _ + (1 : Int) * c
    omega
theorem sum_flatM {α : Type} {f : α → List Nat} {v : Nat → Int} : ∀ l : List α, ((l.flatMap f).map v).sum = (l.map fun x => ((f x).map v).sum).sum
  | [] => rfl
  | x :: l => by rw [List.flatMap_cons, List.map_append, List.sum_append, sum_flatM l, List.map_cons, List.sum_cons]
theorem GrwAll.perm (h : Hse n m) (s : Sub n m L) (A : GrwAll n m L Gs) : (Gs.flatMap fun p => (stS n m L).filter fun z => decide (gof n m L z = p.1)).Perm (stS n m L) := by
  refine (List.perm_ext_iff_of_nodup ?_ stS_nd).mpr fun z => ?_
  · refine List.pairwise_flatMap.mpr ⟨fun p _ => stS_nd.filter _, ?_⟩
    refine List.Pairwise.imp (fun {p q} hpq x hx y hy e => hpq ?_) (List.pairwise_map.mp A.one)
    rw [← of_decide_eq_true (List.mem_filter.mp hx).2, ← of_decide_eq_true (List.mem_filter.mp hy).2, e]
  · rw [List.mem_flatMap]
    constructor
    · rintro ⟨p, _, hz⟩
      exact (List.mem_filter.mp hz).1
    · intro hz
      obtain ⟨zn, zr, zs⟩ := stS_mem.mp hz
      obtain ⟨r, w⟩ := gof_is h s zn zs
      obtain ⟨k, hk⟩ := A.has _ _ _ w
      exact ⟨_, hk, List.mem_filter.mpr ⟨hz, decide_eq_true rfl⟩⟩
/-- a sum over the shares that lead the part to itself, grouped -/
theorem GrwAll.sum (h : Hse n m) (s : Sub n m L) (A : GrwAll n m L Gs) (v : List Nat → Int) : (Gs.map fun p => (p.2 : Int) * v p.1).sum = ((stS n m L).map fun g => v (gof n m L g)).sum := by
  rw [← sum_perm ((A.perm h s).map fun g => v (gof n m L g)), sum_flatM]
  congr 1
  refine List.map_congr_left fun p hp => ?_
  obtain ⟨g, r, w, e⟩ := A.all p hp
  rw [sum_constC (c := v p.1) fun z hz => by rw [of_decide_eq_true (List.mem_filter.mp hz).2], w.cnt h s, e]
  rfl
end
def ssum (n : Nat) (m : Nat → Nat → Nat) (K : List Nat) (f : Nat → Nat) (mk : Nat → Int) : Int := ((stS n m K).map fun g => mk (f g)).sum
def stD (n : Nat) (m : Nat → Nat → Nat) (K : List Nat) (f : Nat → Nat) (mk : Nat → Int) : Dt := .tup [.int (ssum n m K f mk), nD (stS n m K).length]
end VL
namespace VL
open PySem PySem.Spec PyProof.Rows L2 HM HG
end VL
namespace VL
open PySem PySem.Spec PyProof.Rows L2 HM HG
section
variable {n : Nat} {m : Nat → Nat → Nat} {L K G : List Nat} {g r : Nat}
theorem Grw.pt (h : Hse n m) (s : Sub n m L) (w : Grw n m L g r G) {l : List Nat} (p : IsPt m (L ++ [g]) l) : l = G := by
  have gn := w.lt
  have sG := w.sub h s
  refine rising_eq p.up w.up fun y => ?_
  rw [p.mem]
  have gG : g ∈ G := (w.mem g).mpr ⟨1, 0, s.ze, by rw [pwH_one h gn, h.zl g gn]⟩
  constructor
  · intro hy
    refine sG.rch (fun x hx => ?_) hy
    rcases List.mem_append.mp hx with hx | hx
    · exact w.has h s x hx
    · rw [List.mem_singleton.mp hx]; exact gG
  · intro hy
    obtain ⟨i, l, hl, rfl⟩ := (w.mem y).mp hy
    have ln := s.lt l hl
    induction i with
    | zero =>
      show Rch m (L ++ [g]) (m l 0)
      rw [h.zr l ln, ← h.zl l ln]
      exact .step .zero (List.mem_append_left _ hl)
    | succ i ih =>
      show Rch m (L ++ [g]) (m l (m (pwH m g i) g))
      rw [← h.as l _ g ln (pwH_lt h gn i) gn]
      exact .step (ih ((w.mem _).mpr ⟨i, l, hl, rfl⟩)) (List.mem_append_right _ (List.mem_singleton.mpr rfl))
end
end VL
namespace VL
open PySem PySem.Spec PyProof.Rows L2 HM HG
end VL
namespace VL
open PySem PySem.Spec PyProof.Rows L2 HM
end VL
namespace VL
open PySem PySem.Spec PyProof.Rows L2 HM HG
end VL
namespace VL
open PySem PySem.Spec PyProof.Rows L2 HM HG
/-- the first below r at which p, or None -/
def UnAt (r : Nat) (p : Nat → Bool) (d : Dt) : Prop := (∃ j, j < r ∧ p j = true ∧ (∀ i, i < j → p i = false) ∧ d = nD j) ∨ ((∀ i, i < r → p i = false) ∧ d = .non)
theorem UnAt.uniq {r : Nat} {p : Nat → Bool} {d d' : Dt} (a : UnAt r p d) (b : UnAt r p d') : d = d' := by
  rcases a with ⟨j, hj, h1, h2, rfl⟩ | ⟨h, rfl⟩
  · rcases b with ⟨k, hk, h3, h4, rfl⟩ | ⟨h, rfl⟩
    · rcases Nat.lt_trichotomy j k with z | z | z
      · rw [h4 j z] at h1; cases h1
      · rw [z]
      · rw [h2 k z] at h3; cases h3
    · rw [h j hj] at h1; cases h1
  · rcases b with ⟨k, hk, h3, h4, rfl⟩ | ⟨h', rfl⟩
    · rw [h k hk] at h3; cases h3
    · rfl
theorem UnAt.rp {r : Nat} {p : Nat → Bool} {d : Dt} (a : UnAt r p d) (hr : r ≤ 2400) : rpS d := by
  rcases a with ⟨j, hj, _, _, rfl⟩ | ⟨_, rfl⟩
  · have h40 : 2400 < 10 ^ 40 := by decide
    have hs : Sm 40 0 41 (nD j) := ⟨decide_eq_true (show j < 10 ^ 40 by omega), Nat.le_refl _, Nat.le_refl _⟩
    exact hs.rp (by decide) (by decide) (by decide) (by decide)
  · exact ⟨rfl, rfl, by decide, by decide⟩
end VL
namespace VL
open PySem PySem.Spec PyProof.Rows L2 HM HG
end VL
namespace VL
open PySem PySem.Spec PyProof.Rows L2 HM
end VL
namespace VL
open PySem PySem.Spec PyProof.Rows L2 HM HG
/-- marks of a set, counts of any sign -/
def Solv (r : Nat) (T : Nat → Nat → Nat) (mk : Nat → Int) : Prop := ∃ cs : Nat → Int, ∀ j, j < r → mk j = pm T cs r j
end VL
namespace VL
open PySem PySem.Spec PyProof.Rows L2 HM HG
section
variable {r : Nat} {T : Nat → Nat → Nat} {es mk rho cs : Nat → Int} {b : Nat}
theorem pm_cut {l : Nat} (b : Nat) : ∀ r, b ≤ r → (∀ j, b ≤ j → j < r → es j = 0) → pm T es r l = pm T es b l
  | 0, hb, _ => by rw [show b = 0 by omega]
  | r + 1, hb, z => by
    by_cases e : b = r + 1
    · rw [e]
    · show pm T es r l + es r * (T r l : Int) = _
      rw [z r (by omega) (by omega), pm_cut b r (by omega) fun j h1 h2 => z j h1 (by omega), Int.zero_mul, Int.add_zero]
theorem zero_top (t : Tri r T) (b : Nat) : ∀ r', r' ≤ r → (∀ l, b ≤ l → l < r' → pm T es r' l = 0) → ∀ j, b ≤ j → j < r' → es j = 0
  | 0, _, _, j, _, hj => by omega
  | r' + 1, hr, z, j, h1, h2 => by
    have hp := t.pos r' (by omega)
    have e0 : ∀ _ : b ≤ r', es r' = 0 := fun hb => by
      have := z r' hb (by omega)
      rw [pm_own t (by omega)] at this
      rcases Int.mul_eq_zero.mp this with w | w
      · exact w
      · omega
    by_cases e : j = r'
    · rw [e]; exact e0 (by omega)
    · refine zero_top t b r' (by omega) (fun l h3 h4 => ?_) j h1 (by omega)
      have := z l h3 (by omega)
      have e2 : pm T es (r' + 1) l = pm T es r' l + es r' * (T r' l : Int) := rfl
      rw [e2, e0 (by omega), Int.zero_mul, Int.add_zero] at this
      exact this
/-- what is left behind the kinds from b on -/
structure Left (r : Nat) (T : Nat → Nat → Nat) (mk : Nat → Int) (b : Nat) (cs rho : Nat → Int) : Prop where
  all : ∀ l, l < r → mk l = rho l + pm T (fun j => if j < b then 0 else cs j) r l
  top : ∀ l, b ≤ l → l < r → rho l = 0
theorem Left.start : Left r T mk r (fun _ => 0) mk := ⟨fun l hl => by
  rw [show (fun j : Nat => if j < r then (0 : Int) else 0) = fun _ => 0 from funext fun j => by split <;> rfl, pm_none]
  omega, fun l h1 h2 => by omega⟩
theorem Left.no (t : Tri r T) (q : Left r T mk (b + 1) cs rho) (hb : b < r) (ne : rho b % ((T b b : Nat) : Int) ≠ 0) : ¬ Solv r T mk := fun ⟨ds, hds⟩ => ne (by
  obtain ⟨es, hes⟩ : ∃ es : Nat → Int, es = fun j => ds j - (if j < b + 1 then 0 else cs j) := ⟨_, rfl⟩
  have e1 : ∀ l, l < r → rho l = pm T es r l := fun l hl => by
    have := q.all l hl
    rw [hds l hl] at this
    rw [hes, pm_sub]
    omega
  have z := zero_top (es := es) t (b + 1) r (Nat.le_refl r) fun l h1 h2 => by rw [← e1 l h2]; exact q.top l h1 h2
  rw [e1 b hb, pm_cut (b + 1) r (by omega) z, pm_own t hb, Int.mul_emod_left])
theorem Left.step (t : Tri r T) (q : Left r T mk (b + 1) cs rho) (hb : b < r) (e : rho b % ((T b b : Nat) : Int) = 0) : Left r T mk b (fun j => if j = b then rho b / ((T b b : Nat) : Int) else cs j) fun l => rho l - rho b / ((T b b : Nat) : Int) * ((T b l : Nat) : Int) := by
  obtain ⟨c, hc⟩ : ∃ c, c = rho b / ((T b b : Nat) : Int) := ⟨_, rfl⟩
  rw [← hc]
  refine ⟨fun l hl => ?_, fun l h1 h2 => ?_⟩
  · have e2 : pm T (fun j => if j < b then 0 else if j = b then c else cs j) r l = pm T (fun j => (if j < b + 1 then 0 else cs j) + c * (if j = b then 1 else 0)) r l := pm_congr r l fun j _ => by
      by_cases z : j < b
      · rw [if_pos z, if_pos (by omega), if_neg (by omega)]; omega
      · by_cases w : j = b
        · rw [if_neg z, if_pos w, if_pos (by omega), if_pos w]; omega
        · rw [if_neg z, if_neg w, if_neg (by omega), if_neg w]; omega
    rw [e2, pm_add, pm_scale, pm_ind, if_pos hb, q.all l hl]
    show _ = rho l - c * ((T b l : Nat) : Int) + _
    omega
  · show rho l - c * ((T b l : Nat) : Int) = 0
    by_cases z : l = b
    · have hp := t.pos b hb
      rw [z, hc, Int.ediv_mul_cancel (Int.dvd_of_emod_eq_zero e)]
      omega
    · rw [q.top l (by omega) h2, t.up b l (by omega) h2]
      show (0 : Int) - c * 0 = 0
      omega
end
end VL
namespace VL
open PySem PySem.Spec PyProof.Rows L2 HM HG
end VL
namespace VL
open PySem PySem.Spec PyProof.Rows L2 HM HG
/-- the highest kind at which the rest is not a multiple -/
def StopAt (r : Nat) (T : Nat → Nat → Nat) (mk : Nat → Int) (b : Nat) : Prop := b < r ∧ ∃ cs rho, Left r T mk (b + 1) cs rho ∧ rho b % ((T b b : Nat) : Int) ≠ 0
section
variable {r : Nat} {T : Nat → Nat → Nat} {cs : Nat → Int} {mk : Nat → Int}
theorem StopAt.uniq (t : Tri r T) {b b2 : Nat} (h : StopAt r T mk b) (h2 : StopAt r T mk b2) : b = b2 := by
  have key : ∀ {b b2 : Nat}, StopAt r T mk b → StopAt r T mk b2 → ¬ b < b2 := fun {b b2} ⟨hb, cs, rho, L, ne⟩ ⟨hb2, ds, rho2, L2, ne2⟩ hl => by
    refine ne2 ?_
    obtain ⟨es, hes⟩ : ∃ es : Nat → Int, es = fun j => (if j < b + 1 then 0 else cs j) - (if j < b2 + 1 then 0 else ds j) := ⟨_, rfl⟩
    have e1 : ∀ l, b2 ≤ l → l < r → rho2 l = pm T es r l := fun l h1 h2 => by
      have u := L.all l h2
      have v := L2.all l h2
      rw [L.top l (by omega) h2] at u
      rw [hes, pm_sub]
      omega
    have z := zero_top (es := es) t (b2 + 1) r (Nat.le_refl r) fun l h1 h2 => by rw [← e1 l (by omega) h2]; exact L2.top l h1 h2
    rw [e1 b2 (Nat.le_refl _) hb2, pm_cut (b2 + 1) r (by omega) z, pm_own t hb2, Int.mul_emod_left]
  have h3 := key h h2
  have h4 := key h2 h
  omega
end
end VL
namespace VL
open PySem PySem.Spec PyProof.Rows L2 HM HG
end VL
namespace VL
open PySem PySem.Spec PyProof.Rows L2 HM HG
theorem rowsDt_set (n N : Nat) (a : Nat → Nat → Nat) : Dt.lst (rowsDt n (rowI N a)) = setD n N a := by
  unfold rowsDt setD
  refine congrArg Dt.lst (List.map_congr_left fun g _ => ?_)
  rw [rowI_D]
  rfl
end VL
namespace VL
open PySem PySem.Spec PyProof.Rows L2 HM
end VL
namespace VL
open PySem PySem.Spec PyProof.Rows L2 HM HG
end VL
namespace VL
open PySem PySem.Spec PyProof.Rows L2 HM
end VL
namespace VL
open PySem PySem.Spec PyProof.Rows L2 HM
theorem objD_add {n : Nat} {A : Nat → Addr} {p : Addr} : objD (n + 1) (addA n A p) = objD n A ++ [.obj p] := by
  unfold objD
  rw [List.range_succ, List.map_append, List.map_cons, List.map_nil, addA_new]
  congr 1
  exact List.map_congr_left fun i hi => by rw [addA_old (List.mem_range.mp hi)]
section
variable {am : Am} {F0 : Hp} {X : Cx} {e : Expr} {tn : VTN} {apos cpos pos px : Pos} {x : Str}
def xAppR (am : Am) (F0 : Hp) (i : Nat) (tn : VTN) : XTS := fun V H0 env n => (∃ ds0, env[i]? = some (.ow (.lst ds0))) ∧ tn env n fun k env1 n1 => ∃ (l : List Int) (Hb : Hp) (m : Nat) (A : Nat → Addr) (r : Nat → List Int), k = .lst (l.map Dt.int) ∧ H0 = mat Hb m A r ∧ MatOk am F0 Hb m A ∧
  env1[i]? = some (.ow (.lst (objD m A))) ∧ m ≤ 5000 ∧ ∀ A', MatOk am F0 Hb (m + 1) A' → V.nx (mat Hb (m + 1) A' (fun j => if j = m then l else r j)) (env1.set i (.ow (.lst (objD (m + 1) A')))) n1
theorem xs_appR {i : Nat} (hx : PE X (.Name x px) (tVar i)) (he : ∀ H0, PE X e (nOf ⟨am, F0, H0⟩ tn))
    (hsw : swapsWith (.Call (.Attribute (.Name x px) "append" apos) [e] [] cpos) none pos.line X.env = pure false := by rfl)
    (hbase : attributeBase (.Name x px) "append" X.env (eval (.Name x px) X.env) = eval (.Name x px) X.env := by rfl)
    (hfew : ((backTo cpos (starEach [e] X.env)).all (fun x => !x.1) && (backToKw cpos (keywordEach [] X.env)).all (fun x => x.1.isSome)
      && decide (([e] : List Expr).length + ([] : List Keyword).length + (if ([] : List Keyword).isEmpty then 0 else 1) < 30)) = true := by rfl)
    (hline : (apos.endLine == cpos.line) = true := by rfl) (hs : starEach [e] X.env = (false, eval e X.env) :: starEach [] X.env := by rfl) (hplain : (backTo cpos (starEach [] X.env)).any (·.1) = false := by rfl) :
    PS X (.Expr (.Call (.Attribute (.Name x px) "append" apos) [e] [] cpos) pos) (sX am F0 (xAppR am F0 i tn)) :=
  PS.imp (ps_expr (pe_bm (to := tVar i) PySem.F.plainAttrs_list PySem.F.slot_list_append PySem.F.type_list_append mt_append hx (pa_cons (te := fun σ H R => ∃ H0, nOf ⟨am, F0, H0⟩ tn σ H R) ⟨fun pins s σ H Q I ⟨H0, q⟩ => (he H0).run pins s σ H Q I q⟩ pa_nil hs) hbase hfew hline hs hplain) hsw) fun D σ H ⟨H0, F, env, n, V, rr, ⟨⟨ds0, e0⟩, q⟩, k⟩ => by
  obtain ⟨a, xs0, ea, hH, _⟩ := rr.rdOwn e0
  refine ⟨_, ea, .inl ⟨rfl, xs0, .inl (.inl hH)⟩, H0, F, env, n, _, rr, q, fun p o H' F' kk env' n' r' u hF h0 ns hHp ok hno q' => ?_⟩
  obtain ⟨l, Hb, m, A, rw_, rfl, rfl, mo, ei, hm, q'⟩ := q'
  obtain ⟨xs, rfl, rx⟩ := ok
  have ex := rx.of_ints
  subst ex
  have h0 : mat Hb m A rw_ p = none := h0
  have f0 : F0 p = none := none_less r'.up0 hF
  have mo' := mo.add (r := rw_) h0 f0 ns
  have r6 := r'.push hHp hF ns hno
  have em : mat Hb m A rw_ = mat Hb m A (fun j => if j = m then l else rw_ j) := mat_eq mo.inj fun i hi => (if_neg (by omega)).symm
  have ec : Fc.wth ⟨am, F0, mat Hb m A rw_⟩ p (.lst (l.map L2.V.int)) = ⟨am, F0, mat Hb (m + 1) (addA m A p) (fun j => if j = m then l else rw_ j)⟩ := by
    show (⟨am, F0, upd (mat Hb m A rw_) p (.lst (l.map L2.V.int))⟩ : Fc) = _
    have h1 := mat_add (r := fun j => if j = m then l else rw_ j) mo (p := p) (by rw [← em]; exact h0)
    simp only [if_true] at h1
    rw [em, h1]
  rw [ec] at r6
  obtain ⟨a', o', g1, g2, g3, g4, g5, xs', rfl, rx'⟩ := r6.sl i _ ei
  rw [ea] at g1
  cases g1
  exact lft_append F' H' a xs' (objD m A) [.ref p] [.obj p] (fun _ ds' => ds' = objD m A ++ [.obj p]) _ r6.sub g2 g5 rx' (.cons (.obj p) .nil) ⟨.obj p, rfl, by unfold objD; rw [List.length_map, List.length_range]; exact hm, rfl⟩ fun v d ys zs rv ry qv => by
    subst qv
    rw [← objD_add] at ry
    exact k.nx _ F' _ σ _ n' (r6.write (k' := .lst (objD (m + 1) (addA m A p))) ei ea ⟨ys, rfl, ry⟩) u (q' _ mo')
end
end VL
namespace VL
open PySem PySem.Spec PyProof.Rows L2 HM
/-- rising by the code -/
def Srt (m : Nat) (gl : List (List Nat)) : Prop := (gl.map iN).Pairwise fun q r => TS.code (m : Int) q ≤ TS.code (m : Int) r
theorem iN_inj : ∀ {a b : List Nat}, iN a = iN b → a = b
  | [], [], _ => rfl
  | [], _ :: _, h => by cases h
  | _ :: _, [], h => by cases h
  | x :: a, y :: b, h => by
    have h : ((x : Int) :: iN a) = ((y : Int) :: iN b) := h
    injection h with h1 h2
    rw [iN_inj h2, Int.ofNat_inj.mp h1]
theorem uniq_srt {α : Type} (f : α → Int) : ∀ {a b : List α}, (∀ x, x ∈ a ↔ x ∈ b) → a.Pairwise (fun x y => f x < f y) → b.Pairwise (fun x y => f x < f y) → a = b
  | [], [], _, _, _ => rfl
  | [], y :: b, h, _, _ => absurd ((h y).mpr List.mem_cons_self) List.not_mem_nil
  | x :: a, [], h, _, _ => absurd ((h x).mp List.mem_cons_self) List.not_mem_nil
  | x :: a, y :: b, h, ha, hb => by
    rw [List.pairwise_cons] at ha hb
    have exy : x = y := by
      rcases List.mem_cons.mp ((h x).mp List.mem_cons_self) with z | z
      · exact z
      · rcases List.mem_cons.mp ((h y).mpr List.mem_cons_self) with w | w
        · exact w.symm
        · have h1 := ha.1 y w
          have h2 := hb.1 x z
          omega
    subst exy
    congr 1
    refine uniq_srt f (fun z => ⟨fun hz => ?_, fun hz => ?_⟩) ha.2 hb.2
    · rcases List.mem_cons.mp ((h z).mp (List.mem_cons_of_mem _ hz)) with w | w
      · subst w
        have := ha.1 z hz
        omega
      · exact w
    · rcases List.mem_cons.mp ((h z).mpr (List.mem_cons_of_mem _ hz)) with w | w
      · subst w
        have := hb.1 z hz
        omega
      · exact w
end VL
namespace HM
open PySem PySem.Spec PyProof.Rows L2
end HM
namespace VL
open PySem PySem.Spec PyProof.Rows L2 HM
end VL
namespace VL
open PySem PySem.Spec PyProof.Rows L2 HM
end VL
namespace VL
open PySem PySem.Spec PyProof.Rows L2 HM
def invT (m : Nat) (a : List Nat) : List Nat := (List.range m).map fun x => a.idxOf x
def cjT (m : Nat) (nm t : List Nat) : List Nat := thn (thn (invT m nm) t) nm
section
variable {m : Nat} {a b c nm o t : List Nat}
theorem Tn.idx (h : Tn m a) {i : Nat} (hi : i < m) : a.idxOf (tA a i) = i := idx_at h.nd (by rw [h.len]; exact hi)
theorem Tn.at_idx (h : Tn m a) {x : Nat} (hx : x < m) : tA a (a.idxOf x) = x := VL.at_idx (h.all hx)
theorem Tn.idx_lt (h : Tn m a) {x : Nat} (hx : x < m) : a.idxOf x < m := by
  have := List.idxOf_lt_length_of_mem (h.all hx)
  rwa [h.len] at this
theorem inv_at (hx : x < m) : tA (invT m a) x = a.idxOf x := tA_range hx
theorem inv_tn (h : Tn m a) : Tn m (invT m a) := tn_of (by unfold invT; rw [List.length_map, List.length_range]) (fun y hy => by
  obtain ⟨x, hx, rfl⟩ := List.mem_map.mp hy
  exact h.idx_lt (List.mem_range.mp hx)) (List.pairwise_map.mpr (List.Pairwise.imp_of_mem (fun {x y} hx hy hxy e => hxy (by
    rw [← h.at_idx (List.mem_range.mp hx), e, h.at_idx (List.mem_range.mp hy)])) List.nodup_range))
theorem thn_inv (h : Tn m a) : thn a (invT m a) = stay m := by
  unfold thn stay
  refine List.ext_getElem? fun i => ?_
  rw [List.getElem?_map]
  by_cases hi : i < m
  · rw [tA_get (by rw [h.len]; exact hi), List.getElem?_range hi]
    show some (tA (invT m a) (tA a i)) = some i
    rw [inv_at (h.at_lt hi), h.idx hi]
  · rw [List.getElem?_eq_none (by rw [h.len]; omega), List.getElem?_eq_none (by rw [List.length_range]; omega)]
    rfl
theorem inv_uniq (ha : Tn m a) (hb : Tn m b) (e : thn a b = stay m) : b = invT m a := thn_inj ha hb (inv_tn ha) (by rw [e, thn_inv ha])
theorem cj_tn (h : Tn m nm) (ht : Tn m t) : Tn m (cjT m nm t) := thn_tn (thn_tn (inv_tn h) ht) h
theorem cj_stay (ht : Tn m t) : cjT m (stay m) t = t := by
  have e : invT m (stay m) = stay m := (inv_uniq (stay_tn m) (stay_tn m) (thn_stay (stay_tn m))).symm
  unfold cjT
  rw [e, stay_thn ht, thn_stay ht]
theorem cj_comp (h : Tn m nm) (ho : Tn m o) (ht : Tn m t) : cjT m o (cjT m nm t) = cjT m (thn nm o) t := by
  have hi := inv_tn h
  have hj := inv_tn ho
  have e : invT m (thn nm o) = thn (invT m o) (invT m nm) := (inv_uniq (thn_tn h ho) (thn_tn hj hi) (by
    rw [thn_assoc h ho, ← thn_assoc ho hj, thn_inv ho, stay_thn hi, thn_inv h])).symm
  unfold cjT
  rw [e]
  rw [← thn_assoc hj (thn_tn (thn_tn hi ht) h |> fun _ => thn_tn hi ht), ← thn_assoc hj hi]
  rw [thn_assoc (thn_tn (thn_tn hj hi) ht) h]
theorem cj_back (h : Tn m nm) (ht : Tn m t) : cjT m (invT m nm) (cjT m nm t) = t := by
  rw [cj_comp h (inv_tn h) ht, thn_inv h, cj_stay ht]
theorem cj_inj (h : Tn m nm) (hb : Tn m b) (hc : Tn m c) (e : cjT m nm b = cjT m nm c) : b = c := by
  rw [← cj_back h hb, e, cj_back h hc]
end
theorem code_inj {B : Int} : ∀ {q r : List Int}, q.length = r.length → TS.Bd B q → TS.Bd B r → TS.code B q = TS.code B r → q = r
  | [], [], _, _, _, _ => rfl
  | [], _ :: _, h, _, _, _ => by cases h
  | _ :: _, [], h, _, _, _ => by cases h
  | x :: q, y :: r, hl, h1, h2, e => by
    have hl2 : q.length = r.length := Nat.succ.inj hl
    rcases Int.lt_trichotomy x y with z | z | z
    · have := TS.code_lt hl2 h1.tail h2.tail z; omega
    · subst z
      congr 1
      refine code_inj hl2 h1.tail h2.tail ?_
      have g1 : ¬ TS.code B q < TS.code B r := fun w => by have := (TS.code_same (d := x) hl2).mpr w; omega
      have g2 : ¬ TS.code B r < TS.code B q := fun w => by have := (TS.code_same (d := x) hl2.symm).mpr w; omega
      omega
    · have := TS.code_lt hl2.symm h2.tail h1.tail z; omega
theorem srt_lt {m : Nat} {gl : List (List Nat)} (tn : ∀ a ∈ gl, Tn m a) (nd : gl.Nodup) (s : Srt m gl) : gl.Pairwise fun a b => TS.code (m : Int) (iN a) < TS.code (m : Int) (iN b) := by
  have s1 : (gl.map iN).Pairwise fun q r => TS.code (m : Int) q ≤ TS.code (m : Int) r := s
  have s2 : gl.Pairwise fun a b => TS.code (m : Int) (iN a) ≤ TS.code (m : Int) (iN b) := (List.pairwise_map (f := iN) (R := fun q r => TS.code (m : Int) q ≤ TS.code (m : Int) r)).mp s1
  refine (List.Pairwise.and s2 nd).imp_of_mem fun {a b} ha hb h => ?_
  have hab : TS.code (m : Int) (iN a) ≠ TS.code (m : Int) (iN b) := fun e => h.2 (iN_inj (code_inj (by unfold iN; rw [List.length_map, List.length_map, (tn a ha).len, (tn b hb).len]) (bd_tn (tn a ha)) (bd_tn (tn b hb)) e))
  have := h.1
  omega
theorem srt_uniq {m : Nat} {g1 g2 : List (List Nat)} (t1 : ∀ a ∈ g1, Tn m a) (n1 : g1.Nodup) (s1 : Srt m g1) (t2 : ∀ a ∈ g2, Tn m a) (n2 : g2.Nodup) (s2 : Srt m g2) (h : ∀ x, x ∈ g1 ↔ x ∈ g2) : g1 = g2 :=
  uniq_srt (fun a => TS.code (m : Int) (iN a)) h (srt_lt t1 n1 s1) (srt_lt t2 n2 s2)
/-- gl' is gl named anew, sorted -/
structure NG (m : Nat) (nm : List Nat) (gl gl' : List (List Nat)) : Prop where
  pm : gl'.Perm (gl.map (cjT m nm))
  srt : Srt m gl'
section
variable {m : Nat} {nm o : List Nat} {gl g1 g2 g3 : List (List Nat)}
theorem NG.tn (hn : Tn m nm) (ht : ∀ a ∈ gl, Tn m a) (h : NG m nm gl g1) : ∀ a ∈ g1, Tn m a := fun a ha => by
  obtain ⟨b, hb, rfl⟩ := List.mem_map.mp (h.pm.mem_iff.mp ha)
  exact cj_tn hn (ht b hb)
theorem NG.nd (hn : Tn m nm) (ht : ∀ a ∈ gl, Tn m a) (nd : gl.Nodup) (h : NG m nm gl g1) : g1.Nodup := h.pm.nodup_iff.mpr (List.pairwise_map.mpr (List.Pairwise.imp_of_mem (fun {x y} hx hy hxy e => hxy (cj_inj hn (ht x hx) (ht y hy) e)) nd))
theorem NG.len (h : NG m nm gl g1) : g1.length = gl.length := by rw [h.pm.length_eq, List.length_map]
theorem NG.uniq (hn : Tn m nm) (ht : ∀ a ∈ gl, Tn m a) (nd : gl.Nodup) (h1 : NG m nm gl g1) (h2 : NG m nm gl g2) : g1 = g2 :=
  srt_uniq (h1.tn hn ht) (h1.nd hn ht nd) h1.srt (h2.tn hn ht) (h2.nd hn ht nd) h2.srt fun x => by rw [h1.pm.mem_iff, h2.pm.mem_iff]
theorem NG.comp (hn : Tn m nm) (ho : Tn m o) (ht : ∀ a ∈ gl, Tn m a) (h1 : NG m nm gl g1) (h2 : NG m o g1 g2) : NG m (thn nm o) gl g2 := ⟨by
  refine h2.pm.trans ((h1.pm.map _).trans ?_)
  rw [List.map_map]
  rw [List.map_congr_left fun x hx => show (cjT m o ∘ cjT m nm) x = cjT m (thn nm o) x from cj_comp hn ho (ht x hx)], h2.srt⟩
end
/-- some turns of which few come -/
structure FewT (m : Nat) (ts : List (List Nat)) : Prop where
  m1 : 1 ≤ m
  m7 : m ≤ 7
  l4 : ts.length ≤ 4
  tn : ∀ g ∈ ts, Tn m g
  few : ∀ l : List (List Nat), l.Nodup → (∀ x ∈ l, GR m ts x) → l.length ≤ 60
theorem len_le_of_subL {k l : List (List Nat)} (nd : k.Nodup) (sub : ∀ x ∈ k, x ∈ l) : k.length ≤ l.length := List.Nodup.length_le_of_subset nd sub
theorem FewT.one {m : Nat} {ts : List (List Nat)} (h1 : 1 ≤ m) (h7 : m ≤ 7) (ht : ∀ g ∈ ts, Tn m g) (hl : ts.length ≤ 1) : FewT m ts := ⟨h1, h7, by omega, ht, fun l nd hg => Nat.le_trans (GR.few12 ht h7 hl nd hg) (by decide)⟩
theorem FewT.of {m : Nat} {ts gl : List (List Nat)} (h1 : 1 ≤ m) (h7 : m ≤ 7) (h4 : ts.length ≤ 4) (ht : ∀ g ∈ ts, Tn m g) (g : IsGr m gl) (hg : ∀ x, x ∈ gl ↔ GR m ts x) : FewT m ts := ⟨h1, h7, h4, ht, fun l nd hl => Nat.le_trans (len_le_of_subL nd fun x hx => (hg x).mpr (hl x hx)) g.few⟩
end VL
namespace VL
open PySem PySem.Spec PyProof.Rows L2 HM
end VL
namespace VL
open PySem PySem.Spec PyProof.Rows L2 HM
theorem gr_mono {m : Nat} {ts t2 : List (List Nat)} (h : ∀ g ∈ ts, g ∈ t2) {x : List Nat} (g : GR m ts x) : GR m t2 x := by
  induction g with
  | stay => exact .stay
  | step _ hg ih => exact .step ih (h _ hg)
theorem FewT.sub {m : Nat} {ts t2 : List (List Nat)} (f : FewT m ts) (nd : t2.Nodup) (h : ∀ a, a ∈ t2 ↔ a ∈ ts) : FewT m t2 :=
  ⟨f.m1, f.m7, Nat.le_trans (List.Nodup.length_le_of_subset nd fun x hx => (h x).mp hx) f.l4, fun g hg => f.tn g ((h g).mp hg), fun l nd hl => f.few l nd fun x hx => gr_mono (fun g hg => (h g).mp hg) (hl x hx)⟩
end VL
namespace VL
open PySem PySem.Spec PyProof.Rows L2 HM
end VL
namespace VL
open PySem PySem.Spec PyProof.Rows L2 HM
end VL
namespace VL
open PySem PySem.Spec PyProof.Rows L2 HM
def dMin2 : RCD := fun ds Q => ∃ i j : Int, ds = [.int i, .int j] ∧ Q (.int (if j < i then j else i))
theorem lft_min2 : LftC (fun xs H Q => ∃ i j : Int, xs = [V.int i, V.int j] ∧ Q (V.int (if j < i then j else i)) H) dMin2 := fun F H vs ds Q R u rp ⟨i, j, e, q⟩ k => by
  subst e
  obtain ⟨w1, w2, rfl, p1, p2⟩ := rp.two
  exact ⟨i, j, by rw [p1.int_inv, p2.int_inv], k _ _ (.int _) q⟩
end VL
namespace VL
open PySem PySem.Spec PyProof.Rows L2 HM
end VL
namespace VL
open PySem PySem.Spec PyProof.Rows L2 HM
end VL
namespace VL
open PySem PySem.Spec PyProof.Rows L2 HM HG
end VL
namespace VL
open PySem PySem.Spec PyProof.Rows L2 HM HG
end VL
namespace VL
open PySem PySem.Spec PyProof.Rows L2 HM HG
end VL
namespace VL
open PySem PySem.Spec PyProof.Rows L2 HM
def lockL (am : Am) (d : Addr) (xs : List V) : Am where
  sp b := am.sp b ∨ b = d
  ok n F H := am.ok n F H ∧ H d = some (.lst xs)
  trk := fun {n F H a} h hs z => by
    rcases hs with hs | rfl
    · exact am.trk h.1 hs z
    · rw [h.2] at z; cases z
  ntp := fun {n F H a xs} h hs z => by
    rcases hs with hs | rfl
    · exact am.ntp h.1 hs z
    · rw [h.2] at z; cases z
  mono := fun {n F F' H H'} h e c uF => ⟨am.mono h.1 (fun b hb => e b (.inl hb)) c uF, by rw [e d (.inr rfl)]; exact h.2⟩
section
variable {am : Am} {F0 H0 F H : Hp} {σ : L2.St} {env : Ev} {n i : Nat} {d : Addr} {xs : List V} {ds : List Dt} {ns : List Int}
theorem Rel.lockL (r : Rel ⟨am, F0, H0⟩ F H σ env n) (hi : env[i]? = some (.ow (.lst ds))) (ha : σ[i]? = some (some (.ref d))) (hd : H d = some (.lst xs)) : Rel ⟨lockL am d xs, F0, H0⟩ F H σ (env.set i (.fz (.obj d))) n := by
  obtain ⟨d', o, e1, hF, h0, ns, hH, _⟩ := r.sl i _ hi
  rw [ha] at e1
  cases e1
  have hl := (List.getElem?_eq_some_iff.mp hi).1
  have get : ∀ {j : Nat} {k : Con}, (env.set i (.fz (.obj d)))[j]? = some (.ow k) → j ≠ i ∧ env[j]? = some (.ow k) := fun {j k} e => by
    by_cases z : j = i
    · subst z; rw [List.getElem?_set_self hl] at e; cases e
    · rw [List.getElem?_set_ne (Ne.symm z)] at e; exact ⟨z, e⟩
  refine ⟨r.sub, fun b hb => ?_, ⟨r.amb, hd⟩, r.up0, r.out0, fun b u e nb => r.keep0 b u e fun z => nb (.inl z), by rw [List.length_set]; exact r.len, fun j s e => ?_, fun j l b k1 k2 hjl e1 e2 e3 => ?_⟩
  · rcases hb with hb | rfl
    · exact r.spf b hb
    · exact hF
  · by_cases z : j = i
    · subst z
      rw [List.getElem?_set_self hl] at e
      cases e
      exact ⟨_, ha, .obj d⟩
    · rw [List.getElem?_set_ne (Ne.symm z)] at e
      have q := r.sl j s e
      cases s with
      | no => trivial
      | fz d => exact q
      | ow kk =>
        obtain ⟨a2, o2, g1, g2, g3, g4, g5, g6⟩ := q
        have ne : a2 ≠ d := fun z2 => r.apart i j d _ kk (Ne.symm z) hi e ha (by rw [g1, z2])
        exact ⟨a2, o2, g1, g2, g3, fun hs => hs.elim g4 ne, g5, g6⟩
  · obtain ⟨_, f1⟩ := get e1
    obtain ⟨_, f2⟩ := get e2
    exact r.apart j l b k1 k2 hjl f1 f2 e3
end
end VL
namespace VL
open PySem PySem.Spec PyProof.Rows L2 HM
section
variable {am : Am} {F0 H0 : Hp} {X : Cx} {e : Expr} {te : VTE}
def vFrzER (c : Fc) (i : Nat) (te : VTE) : VTE := fun env n Q => ∃ Hb m A r, c.H0 = mat Hb m A r ∧ MatOk c.am c.F0 Hb m A ∧ env[i]? = some (.ow (.lst (objD m A))) ∧
  te ((hid env).set i (.fz (.lst (rowsDt m r)))) n fun d env2 n2 => env2 = (hid env).set i (.fz (.lst (rowsDt m r))) ∧ flat d = true ∧ Q d env n2
theorem ve_frzR {i : Nat} (h : ∀ F0 H0, PE X e (tOf ⟨am, F0, H0⟩ te)) (hP : Plain am := by assumption) : PE X e (tOf ⟨am, F0, H0⟩ (vFrzER ⟨am, F0, H0⟩ i te)) :=
  PE.imp (t := fun σ H R => ∃ F0 H0, tOf ⟨am, F0, H0⟩ te σ H R) ⟨fun pins s σ H Q I ⟨F0, H0, q⟩ => (h F0 H0).run pins s σ H Q I q⟩ fun σ H R ⟨F, env, n, Q, rr, ⟨Hb, m, A, r, e0, mo, ei, q⟩, k⟩ => by
    have e0 : H0 = mat Hb m A r := e0
    subst e0
    obtain ⟨up1, r1, hr⟩ := Rel.rowsF2 mo rr
    obtain ⟨a, xs, hH, hF, hσ, up, r2⟩ := r1.intoS ei
    have hi : i < (hid env).length := by rw [hid_len]; exact (List.getElem?_eq_some_iff.mp ei).1
    have rv : Rp (upd (mat F m A r) a (.lst xs)) (.ref a) (.lst (rowsDt m r)) := by
      obtain ⟨v, g1, g2⟩ := r2.sl i _ (List.getElem?_set_self hi)
      rw [hσ] at g1
      cases g1
      obtain ⟨a', xs', ea, hF2, rx⟩ := g2.lst_inv
      cases ea
      exact .lst hF2 (rps_objs rx fun j hj => (hr j (List.mem_range.mp hj)).up up)
    have r3 := r2.setF (i := i) rv
    rw [set_self hσ, env_set_set] at r3
    refine ⟨_, H, _, _, n, _, r3, q, fun v H2 F2 d env2 n2 r4 u4 rvd q2 => ?_⟩
    obtain ⟨_, hfl, q2⟩ := q2
    refine k v H2 _ d env n2 (rr.outS hP (up1.trans up) (fun b ys z => ?_) (fun j k' b ej eb => ?_) u4 r4) (onlyT_up ((up1.trans up).trans u4)) (rvd.flat (fun _ _ z => onlyT_tup z) hfl) q2
    · by_cases w : b = a
      · subst w; rw [upd_same] at z; cases z
      · rw [upd_ne w] at z
        by_cases y : ∃ i, i < m ∧ A i = b
        · obtain ⟨i, hi, rfl⟩ := y
          rw [mat_at mo.inj hi] at z
          cases z
        · rwa [mat_out fun i hi z => y ⟨i, hi, z⟩] at z
    · obtain ⟨b', o, g1, g2, g3, g4, g5, g6⟩ := rr.sl j _ ej
      rw [eb] at g1
      cases g1
      by_cases w : b = a
      · subst w
        exact .inr ⟨xs, u4 _ _ upd_same⟩
      · refine .inl (r4.out0 b o g5 g6.nt ?_)
        show upd (mat F m A r) a (.lst xs) b = none
        have g3' : mat Hb m A r b = none := g3
        rw [upd_ne w, mat_out fun i hi z => by rw [← z, mat_at mo.inj hi] at g3'; cases g3']
        exact g2
end
section
variable {am : Am} {F0 : Hp} {X : Cx} {st : Stmt} {t : XTS} {env : Ev} {n : Nat}
def xLess (t : XTS) : XTS := fun V H0 env n => ∃ Hb, Up Hb H0 ∧ t V Hb env n
theorem xs_less (h : PS X st (sX am F0 t)) : PS X st (sX am F0 (xLess t)) := PS.imp h fun D σ H ⟨H0, F, env, n, V, r, ⟨Hb, u, q⟩, k⟩ => ⟨Hb, F, env, n, V, r.less u, q, k⟩
end
section
variable {am : Am} {F0 : Hp} {X : Cx} {apos cpos pos px py : Pos} {x y : Str}
def xAppV (am : Am) (F0 : Hp) (i j : Nat) : XTS := fun V H0 env n => ∃ (l : List Int) (Hb : Hp) (m : Nat) (A : Nat → Addr) (r : Nat → List Int), i ≠ j ∧ env[j]? = some (.ow (.lst (l.map Dt.int))) ∧ H0 = mat Hb m A r ∧ MatOk am F0 Hb m A ∧
  env[i]? = some (.ow (.lst (objD m A))) ∧ m ≤ 5000 ∧ ∀ A', MatOk am F0 Hb (m + 1) A' → V.nx (mat Hb (m + 1) A' (fun j => if j = m then l else r j)) ((env.set j .no).set i (.ow (.lst (objD (m + 1) A')))) n
theorem Rel.forget {F H : Hp} {σ : L2.St} {env : Ev} {n j : Nat} {c : Fc} (q : Rel c F H σ env n) : Rel c F H σ (env.set j .no) n := by
  have f : ∀ {l : Nat} {s : Sl}, (env.set j .no)[l]? = some s → s = .no ∨ (l ≠ j ∧ env[l]? = some s) := fun {l s} e => by
    by_cases z : l = j
    · subst z
      by_cases hl : l < env.length
      · rw [List.getElem?_set_self hl] at e; cases e; exact .inl rfl
      · rw [List.getElem?_eq_none (by rw [List.length_set]; omega)] at e; cases e
    · rw [List.getElem?_set_ne (Ne.symm z)] at e; exact .inr ⟨z, e⟩
  refine ⟨q.sub, q.spf, q.amb, q.up0, q.out0, q.keep0, by rw [List.length_set]; exact q.len, fun l s e => ?_, fun l l2 b k k' hl e1 e2 e3 => ?_⟩
  · rcases f e with rfl | ⟨_, e⟩
    · trivial
    · exact q.sl l s e
  · rcases f e1 with z | ⟨_, e1⟩
    · cases z
    rcases f e2 with z | ⟨_, e2⟩
    · cases z
    exact q.apart l l2 b k k' hl e1 e2 e3
theorem xs_appV {i j : Nat} (hx : PE X (.Name x px) (tVar i)) (hy : PE X (.Name y py) (tVar j))
    (hsw : swapsWith (.Call (.Attribute (.Name x px) "append" apos) [.Name y py] [] cpos) none pos.line X.env = pure false := by rfl)
    (hbase : attributeBase (.Name x px) "append" X.env (eval (.Name x px) X.env) = eval (.Name x px) X.env := by rfl)
    (hfew : ((backTo cpos (starEach [Expr.Name y py] X.env)).all (fun x => !x.1) && (backToKw cpos (keywordEach [] X.env)).all (fun x => x.1.isSome)
      && decide (([Expr.Name y py] : List Expr).length + ([] : List Keyword).length + (if ([] : List Keyword).isEmpty then 0 else 1) < 30)) = true := by rfl)
    (hline : (apos.endLine == cpos.line) = true := by rfl) (hs : starEach [Expr.Name y py] X.env = (false, eval (.Name y py) X.env) :: starEach [] X.env := by rfl) (hplain : (backTo cpos (starEach [] X.env)).any (·.1) = false := by rfl) :
    PS X (.Expr (.Call (.Attribute (.Name x px) "append" apos) [.Name y py] [] cpos) pos) (sX am F0 (xAppV am F0 i j)) :=
  PS.imp (ps_expr (pe_bm (to := tVar i) PySem.F.plainAttrs_list PySem.F.slot_list_append PySem.F.type_list_append mt_append hx (pa_cons (te := tVar j) hy pa_nil hs) hbase hfew hline hs hplain) hsw) fun D σ H ⟨H0, F, env, n, V, rr, ⟨l, Hb, m, A, rw_, hij, ej, e0, mo, ei, hm, q⟩, k⟩ => by
  subst e0
  obtain ⟨a, o, g1, g2, g3, g4, g5, xs, rfl, rx⟩ := rr.sl i _ ei
  obtain ⟨p, o', p1, p2, p3, p4, p5, ys, rfl, ry⟩ := rr.sl j _ ej
  have ex := ry.of_ints
  subst ex
  refine ⟨_, g1, .inl ⟨rfl, xs, .inl (.inl g5)⟩, _, p1, ?_⟩
  have hap : a ≠ p := fun z => by
    rw [z] at g1
    exact rr.apart i j p _ _ hij ei ej g1 p1
  have p3 : mat Hb m A rw_ p = none := p3
  have f0 : F0 p = none := none_less rr.up0 p2
  have mo' := mo.add (r := rw_) p3 f0 p4
  have r1 := rr.forget (j := j)
  have hi1 : (env.set j .no)[i]? = some (.ow (.lst (objD m A))) := by rw [List.getElem?_set_ne (Ne.symm hij)]; exact ei
  have r6 := r1.push p5 p2 p4 fun l2 k' e z => by
    by_cases w : l2 = j
    · subst w
      rw [List.getElem?_set_self (List.getElem?_eq_some_iff.mp ej).1] at e
      cases e
    · rw [List.getElem?_set_ne (Ne.symm w)] at e
      exact rr.apart l2 j p _ _ w e ej z p1
  have em : mat Hb m A rw_ = mat Hb m A (fun j => if j = m then l else rw_ j) := mat_eq mo.inj fun i hi => (if_neg (by omega)).symm
  have ec : Fc.wth ⟨am, F0, mat Hb m A rw_⟩ p (.lst (l.map L2.V.int)) = ⟨am, F0, mat Hb (m + 1) (addA m A p) (fun j => if j = m then l else rw_ j)⟩ := by
    show (⟨am, F0, upd (mat Hb m A rw_) p (.lst (l.map L2.V.int))⟩ : Fc) = _
    have h1 := mat_add (r := fun j => if j = m then l else rw_ j) mo (p := p) (by rw [← em]; exact p3)
    simp only [if_true] at h1
    rw [em, h1]
  rw [ec] at r6
  obtain ⟨a', o', h1, h2, h3, h4, h5, xs', rfl, rx'⟩ := r6.sl i _ hi1
  rw [g1] at h1
  cases h1
  exact lft_append F H a xs' (objD m A) [.ref p] [.obj p] (fun _ ds' => ds' = objD m A ++ [.obj p]) _ r6.sub h2 h5 rx' (.cons (.obj p) .nil) ⟨.obj p, rfl, by unfold objD; rw [List.length_map, List.length_range]; exact hm, rfl⟩ fun v d ys zs rv ry qv => by
    subst qv
    rw [← objD_add] at ry
    exact k.nx _ F _ σ _ n (r6.write (k' := .lst (objD (m + 1) (addA m A p))) hi1 g1 ⟨ys, rfl, ry⟩) (Up.refl F) (q _ mo')
end
end VL
namespace VL
open PySem PySem.Spec PyProof.Rows L2 HM
section
variable {am : Am} {F0 H0 F H : Hp} {σ : L2.St} {env : Ev} {n i : Nat} {d : Addr} {xs : List V}
theorem Rel.lockR (r : Rel ⟨am, F0, H0⟩ F H σ env n) (h0 : H0 d = some (.lst xs)) (hn : ¬ am.sp d) (f0 : F0 d = none) : Rel ⟨VL.lockL am d xs, F0, H0⟩ F H σ env n := by
  have hF : F d = none := r.out0 d _ h0 (fun _ z => by cases z) f0
  refine ⟨r.sub, fun b hb => ?_, ⟨r.amb, r.keep0 d _ h0 hn⟩, r.up0, r.out0, fun b u e nb => r.keep0 b u e fun z => nb (.inl z), r.len, fun j s e => ?_, r.apart⟩
  · rcases hb with hb | rfl
    · exact r.spf b hb
    · exact hF
  · have q := r.sl j s e
    cases s with
    | no => trivial
    | fz d => exact q
    | ow kk =>
      obtain ⟨a2, o2, g1, g2, g3, g4, g5, g6⟩ := q
      have g3' : H0 a2 = none := g3
      have ne : a2 ≠ d := fun z => by rw [z, h0] at g3'; cases g3'
      exact ⟨a2, o2, g1, g2, g3, fun (hs : am.sp a2 ∨ a2 = d) => hs.elim g4 ne, g5, g6⟩
theorem Rel.unlockR (r : Rel ⟨VL.lockL am d xs, F0, H0⟩ F H σ env n) (h0 : H0 d = some (.lst xs)) : Rel ⟨am, F0, H0⟩ F H σ env n := by
  refine ⟨r.sub, fun b hb => r.spf b (.inl hb), r.amb.1, r.up0, r.out0, fun b u e nb => ?_, r.len, fun j s e => ?_, r.apart⟩
  · by_cases z : b = d
    · have e : H0 b = some u := e
      rw [z, h0] at e
      cases e
      rw [z]; exact r.amb.2
    · exact r.keep0 b u e fun w => w.elim nb z
  · have q := r.sl j s e
    cases s with
    | no => trivial
    | fz d => exact q
    | ow kk =>
      obtain ⟨a2, o2, g1, g2, g3, g4, g5, g6⟩ := q
      exact ⟨a2, o2, g1, g2, g3, fun hs => g4 (.inl hs), g5, g6⟩
variable {X : Cx} {st : Stmt}
def vLockR (c : Fc) (i : Nat) (ts : List Int → Addr → VTS) : VTS := fun V env n => ∃ (ns : List Int) (d : Addr) (x : Nat), env[i]? = some (.fz (.obj d)) ∧ MatAt c x ns d ∧ ts ns d { nx := V.nx, rt := fun _ _ => False, bk := fun _ _ => False, ct := fun _ _ => False } env n
theorem vs_lockR {i : Nat} {ts : List Int → Addr → VTS} (h : ∀ (d : Addr) (ns : List Int), PS X st (sOf ⟨VL.lockL am d (ns.map V.int), F0, H0⟩ (ts ns d))) : PS X st (sOf ⟨am, F0, H0⟩ (vLockR ⟨am, F0, H0⟩ i ts)) :=
  PS.imp (t := fun D σ H => ∃ (d : Addr) (ns : List Int), sOf ⟨lockL am d (ns.map V.int), F0, H0⟩ (ts ns d) D σ H) ⟨fun pins s σ H Q I ⟨d, ns, q⟩ => (h d ns).run pins s σ H Q I q⟩ fun D σ H ⟨F, env, n, V, rr, ⟨ns, d, x, ei, ma, q⟩, k⟩ => by
  obtain ⟨Hb, m, A, r, e0, mo, hi, rfl, rfl⟩ := ma.ex
  have e0 : H0 = mat Hb m A r := e0
  have h0 : H0 (A x) = some (.lst ((r x).map L2.V.int)) := by rw [e0]; exact mat_at mo.inj hi
  exact ⟨A x, r x, F, env, n, _, rr.lockR h0 (mo.ns x hi) (mo.f0 x hi), q, ⟨fun F' H' σ' env' n' r' u z => k.nx F' H' σ' env' n' (r'.unlockR h0) u z, fun _ _ _ _ _ _ _ _ _ _ z => z.elim, fun _ _ _ _ _ _ _ z => z.elim, fun _ _ _ _ _ _ _ z => z.elim⟩⟩
/-- a list that is held so -/
def viO (i : Nat) (d : Addr) (ns : List Int) : VTI := fun env n Q => env[i]? = some (.fz (.obj d)) ∧ Q (ns.map Dt.int) env n
theorem wk_listO {K : PySem.W.Frag} {F : Hp} {a : Addr} {ns : List Int} : Wk (lockL am a (ns.map V.int)) (Itl K a) F (ns.map Dt.int) := fun c hc F1 H σ env n r u i => by
  have hH : SqL K H a (ns.map V.int) := by
    have := r.amb
    rw [hc] at this
    exact .inl (.inl this.2)
  have rx : Rps F (ns.map V.int) (ns.map Dt.int) := Rps.ints ns
  refine ⟨fun hi => ?_, fun hi => ⟨_, hH, by rw [rx.len]; exact hi⟩⟩
  obtain ⟨v, e1, e2⟩ := rx.get (List.getElem?_eq_getElem hi)
  refine ⟨⟨_, v, hH, e1⟩, fun x H' y => ?_⟩
  obtain ⟨rfl, y⟩ := y
  have := y _ hH
  rw [e1] at this
  cases this
  exact ⟨F1, _, r, Up.refl F1, List.getElem?_eq_getElem hi, e2.up u⟩
theorem vi_listO {tg : Expr} {x : Str} {p : Pos} {i : Nat} {d : Addr} {ns : List Int} (h : PE X (.Name x p) (tVar i)) : PI X tg (.Name x p) (iOf ⟨lockL am d (ns.map V.int), F0, H0⟩ (viO i d ns)) := PI.imp (pi_list h) fun σ H R ⟨F, env, n, Q, r, ⟨e, q⟩, k⟩ => by
  obtain ⟨v, g1, g2⟩ := r.sl i _ e
  cases g2
  exact ⟨_, g1, d, rfl, ⟨_, .inl (.inl r.amb.2)⟩, k _ H F _ env n r (Up.refl F) wk_listO q⟩
end
section
variable {am : Am} {F0 : Hp} {X : Cx} {apos cpos pos px py : Pos} {x y : Str}
def xAppK (am : Am) (F0 : Hp) (i j : Nat) : XTS := fun V H0 env n => ∃ (l : List Int) (Hb : Hp) (m : Nat) (A : Nat → Addr) (r : Nat → List Int), i ≠ j ∧ env[j]? = some (.ow (.lst (l.map Dt.int))) ∧ H0 = mat Hb m A r ∧ MatOk am F0 Hb m A ∧
  env[i]? = some (.ow (.lst (objD m A))) ∧ m ≤ 5000 ∧ ∀ A', MatOk am F0 Hb (m + 1) A' → V.nx (mat Hb (m + 1) A' (fun j => if j = m then l else r j)) ((env.set i (.ow (.lst (objD (m + 1) A')))).set j (.fz (.obj (A' m)))) n
theorem xs_appK {i j : Nat} (hx : PE X (.Name x px) (tVar i)) (hy : PE X (.Name y py) (tVar j))
    (hsw : swapsWith (.Call (.Attribute (.Name x px) "append" apos) [.Name y py] [] cpos) none pos.line X.env = pure false := by rfl)
    (hbase : attributeBase (.Name x px) "append" X.env (eval (.Name x px) X.env) = eval (.Name x px) X.env := by rfl)
    (hfew : ((backTo cpos (starEach [Expr.Name y py] X.env)).all (fun x => !x.1) && (backToKw cpos (keywordEach [] X.env)).all (fun x => x.1.isSome)
      && decide (([Expr.Name y py] : List Expr).length + ([] : List Keyword).length + (if ([] : List Keyword).isEmpty then 0 else 1) < 30)) = true := by rfl)
    (hline : (apos.endLine == cpos.line) = true := by rfl) (hs : starEach [Expr.Name y py] X.env = (false, eval (.Name y py) X.env) :: starEach [] X.env := by rfl) (hplain : (backTo cpos (starEach [] X.env)).any (·.1) = false := by rfl) :
    PS X (.Expr (.Call (.Attribute (.Name x px) "append" apos) [.Name y py] [] cpos) pos) (sX am F0 (xAppK am F0 i j)) :=
  PS.imp (ps_expr (pe_bm (to := tVar i) PySem.F.plainAttrs_list PySem.F.slot_list_append PySem.F.type_list_append mt_append hx (pa_cons (te := tVar j) hy pa_nil hs) hbase hfew hline hs hplain) hsw) fun D σ H ⟨H0, F, env, n, V, rr, ⟨l, Hb, m, A, rw_, hij, ej, e0, mo, ei, hm, q⟩, k⟩ => by
  subst e0
  obtain ⟨a, o, g1, g2, g3, g4, g5, xs, rfl, rx⟩ := rr.sl i _ ei
  obtain ⟨p, o', p1, p2, p3, p4, p5, ys, rfl, ry⟩ := rr.sl j _ ej
  have ex := ry.of_ints
  subst ex
  refine ⟨_, g1, .inl ⟨rfl, xs, .inl (.inl g5)⟩, _, p1, ?_⟩
  have hap : a ≠ p := fun z => by
    rw [z] at g1
    exact rr.apart i j p _ _ hij ei ej g1 p1
  have p3 : mat Hb m A rw_ p = none := p3
  have f0 : F0 p = none := none_less rr.up0 p2
  have mo' := mo.add (r := rw_) p3 f0 p4
  have r1 := rr.forget (j := j)
  have hi1 : (env.set j .no)[i]? = some (.ow (.lst (objD m A))) := by rw [List.getElem?_set_ne (Ne.symm hij)]; exact ei
  have r6 := r1.push p5 p2 p4 fun l2 k' e z => by
    by_cases w : l2 = j
    · subst w
      rw [List.getElem?_set_self (List.getElem?_eq_some_iff.mp ej).1] at e
      cases e
    · rw [List.getElem?_set_ne (Ne.symm w)] at e
      exact rr.apart l2 j p _ _ w e ej z p1
  have em : mat Hb m A rw_ = mat Hb m A (fun j => if j = m then l else rw_ j) := mat_eq mo.inj fun i hi => (if_neg (by omega)).symm
  have ec : Fc.wth ⟨am, F0, mat Hb m A rw_⟩ p (.lst (l.map L2.V.int)) = ⟨am, F0, mat Hb (m + 1) (addA m A p) (fun j => if j = m then l else rw_ j)⟩ := by
    show (⟨am, F0, upd (mat Hb m A rw_) p (.lst (l.map L2.V.int))⟩ : Fc) = _
    have h1 := mat_add (r := fun j => if j = m then l else rw_ j) mo (p := p) (by rw [← em]; exact p3)
    simp only [if_true] at h1
    rw [em, h1]
  rw [ec] at r6
  obtain ⟨a', o', h1, h2, h3, h4, h5, xs', rfl, rx'⟩ := r6.sl i _ hi1
  rw [g1] at h1
  cases h1
  exact lft_append F H a xs' (objD m A) [.ref p] [.obj p] (fun _ ds' => ds' = objD m A ++ [.obj p]) _ r6.sub h2 h5 rx' (.cons (.obj p) .nil) ⟨.obj p, rfl, by unfold objD; rw [List.length_map, List.length_range]; exact hm, rfl⟩ fun v d ys zs rv ry qv => by
    subst qv
    rw [← objD_add] at ry
    have r7 := r6.write (k' := .lst (objD (m + 1) (addA m A p))) hi1 g1 ⟨ys, rfl, ry⟩
    have r8 := r7.setF (i := j) (Rp.obj p)
    rw [set_self p1] at r8
    have ee : (((env.set j Sl.no).set i (.ow (.lst (objD (m + 1) (addA m A p))))).set j (.fz (.obj p))) = ((env.set i (.ow (.lst (objD (m + 1) (addA m A p))))).set j (.fz (.obj (addA m A p m)))) := by
      rw [addA_new, List.set_comm _ _ (Ne.symm hij), env_set_set]
    rw [ee] at r8
    exact k.nx _ F _ σ _ n r8 (Up.refl F) (q _ mo')
end
end VL
namespace VL
open PySem PySem.Spec PyProof.Rows L2 HM
def dMax2 : RCD := fun ds Q => ∃ i j : Int, ds = [.int i, .int j] ∧ Q (.int (if j > i then j else i))
theorem lft_max2 : LftC (fun xs H Q => ∃ i j : Int, xs = [V.int i, V.int j] ∧ Q (V.int (if j > i then j else i)) H) dMax2 := fun F H vs ds Q R u rp ⟨i, j, e, q⟩ k => by
  subst e
  obtain ⟨w1, w2, rfl, p1, p2⟩ := rp.two
  exact ⟨i, j, by rw [p1.int_inv, p2.int_inv], k _ _ (.int _) q⟩
def pcR (n N : Nat) (a : Nat → Nat → Nat) : Nat → List Int := fun i => (orb n N a (tA (fsts n N a) i)).map fun y : Nat => (y : Int)
theorem pcR_rows (n N : Nat) (a : Nat → Nat → Nat) : rowsDt (fsts n N a).length (pcR n N a) = tlD (pcs n N a) := by
  refine List.ext_getElem? fun i => ?_
  unfold rowsDt tlD pcs
  rw [List.getElem?_map, List.getElem?_map, List.getElem?_map]
  by_cases hi : i < (fsts n N a).length
  · rw [List.getElem?_range hi, List.getElem?_eq_getElem hi]
    show some (Dt.lst ((pcR n N a i).map Dt.int)) = some (Dt.lst (nsD (orb n N a (fsts n N a)[i])))
    unfold pcR
    rw [show tA (fsts n N a) i = (fsts n N a)[i] by unfold tA; rw [List.getD_eq_getElem?_getD, List.getElem?_eq_getElem hi]; rfl, ← nsD_ints]
  · rw [List.getElem?_eq_none (by rw [List.length_range]; omega), List.getElem?_eq_none (by omega)]
    rfl
def spPcsR : VSpR := fun ds t Q => ∃ (n : Nat) (m : Nat → Nat → Nat) (N : Nat) (a : Nat → Nat → Nat), ds = [setD n N a] ∧ Hse n m ∧ n ≤ 60 ∧ Act n m N a ∧ N ≤ 900 ∧ Q (fsts n N a).length (pcR n N a) t
def spLPcsR : VSpR := fun ds t Q => ∃ (n : Nat) (m : Nat → Nat → Nat) (N : Nat) (a : Nat → Nat → Nat), ds = [setD n N a] ∧ Hse n m ∧ n ≤ 60 ∧ Act n m N a ∧ N ≤ 60 ∧ Q (fsts n N a).length (pcR n N a) t
theorem fsts_up (n N : Nat) (a : Nat → Nat → Nat) : (fsts n N a).Pairwise (· < ·) := List.Pairwise.filter _ List.pairwise_lt_range
def spSetR35 (p : Addr) : VSpR := fun ds t Q => ∃ (n : Nat) (m : Nat → Nat → Nat) (room : Nat), ds = [.obj p, houD n m, nD room] ∧ Hse n m ∧ n ≤ 60 ∧ room ≤ 60 ∧ ∀ N a, Act n m N a → N ≤ room → Q n (rowI N a) t
structure UfOk (n N : Nat) (a : Nat → Nat → Nat) (f : Nat → Nat) : Prop where
  le : ∀ x, x < N → f x ≤ x
  inn : ∀ x, x < N → ∃ g, g < n ∧ a x g = f x
def ufJ (f : Nat → Nat) (u v : Nat) : Nat → Nat := fun y => if f y = max u v then min u v else f y
section
variable {n : Nat} {m : Nat → Nat → Nat} {N : Nat} {a : Nat → Nat → Nat} {f : Nat → Nat}
theorem UfOk.start (h : Hse n m) (A : Act n m N a) : UfOk n N a (fun x => x) := ⟨fun _ _ => Nat.le_refl _, fun x hx => ⟨0, h.pos, A.ze x hx⟩⟩
theorem cn_trans (h : Hse n m) (A : Act n m N a) {x y z : Nat} (hx : x < N) (h1 : ∃ g, g < n ∧ a x g = y) (h2 : ∃ g, g < n ∧ a y g = z) : ∃ g, g < n ∧ a x g = z := by
  obtain ⟨g, hg, rfl⟩ := h1
  obtain ⟨k, hk, rfl⟩ := h2
  exact ⟨m g k, h.lt g k hg hk, (A.mu x g k hx hg hk).symm⟩
theorem cn_symm (h : Hse n m) (A : Act n m N a) {x y : Nat} (hx : x < N) (h1 : ∃ g, g < n ∧ a x g = y) : ∃ g, g < n ∧ a y g = x := by
  obtain ⟨g, hg, rfl⟩ := h1
  obtain ⟨k, hk, _, _, e⟩ := A.back h hx hg
  exact ⟨k, hk, e⟩
theorem UfOk.lt (u : UfOk n N a f) {x : Nat} (hx : x < N) : f x < N := Nat.lt_of_le_of_lt (u.le x hx) hx
theorem UfOk.step (h : Hse n m) (A : Act n m N a) (u : UfOk n N a f) {x g : Nat} (hx : x < N) (hg : g < n) : UfOk n N a (ufJ f (f x) (f (a x g))) := by
  have hy := A.lt x g hx hg
  have c1 := u.inn x hx
  have c2 := cn_trans h A hx ⟨g, hg, rfl⟩ (u.inn _ hy)
  have key : ∀ p q : Nat, (p = f x ∨ p = f (a x g)) → (q = f x ∨ q = f (a x g)) → p < N ∧ ∃ k, k < n ∧ a p k = q := fun p q hp hq => by
    have cp : ∃ k, k < n ∧ a x k = p := by rcases hp with rfl | rfl <;> assumption
    have cq : ∃ k, k < n ∧ a x k = q := by rcases hq with rfl | rfl <;> assumption
    have hpN : p < N := by rcases hp with rfl | rfl; exact u.lt hx; exact u.lt hy
    exact ⟨hpN, cn_trans h A hpN (cn_symm h A hx cp) cq⟩
  have hmx : max (f x) (f (a x g)) = f x ∨ max (f x) (f (a x g)) = f (a x g) := by omega
  have hmn : min (f x) (f (a x g)) = f x ∨ min (f x) (f (a x g)) = f (a x g) := by omega
  refine ⟨fun y hy2 => ?_, fun y hy2 => ?_⟩
  · unfold ufJ
    have := u.le y hy2
    split
    · omega
    · exact this
  · unfold ufJ
    split
    · rename_i e
      have c := u.inn y hy2
      rw [e] at c
      exact cn_trans h A hy2 c (key _ _ hmx hmn).2
    · exact u.inn y hy2
theorem ufJ_same (f : Nat → Nat) {x y : Nat} : ufJ f (f x) (f y) x = ufJ f (f x) (f y) y := by
  unfold ufJ
  by_cases e1 : f x = max (f x) (f y)
  · rw [if_pos e1]
    by_cases e2 : f y = max (f x) (f y)
    · rw [if_pos e2]
    · rw [if_neg e2]; omega
  · rw [if_neg e1]
    by_cases e2 : f y = max (f x) (f y)
    · rw [if_pos e2]; omega
    · omega
theorem ufJ_keep (f : Nat → Nat) (u v : Nat) {x y : Nat} (h : f x = f y) : ufJ f u v x = ufJ f u v y := by unfold ufJ; rw [h]
theorem UfOk.fix (u : UfOk n N a f) {z : Nat} (hz : z ∈ fsts n N a) : f z = z := by
  obtain ⟨h1, h2⟩ := fsts_mem.mp hz
  obtain ⟨g, hg, e⟩ := u.inn z h1
  have := h2 g hg
  have := u.le z h1
  omega
theorem UfOk.first (h : Hse n m) (A : Act n m N a) (u : UfOk n N a f) (al : ∀ g x, g < n → x < N → f x = f (a x g)) {x : Nat} (hx : x < N) : f x ∈ fsts n N a := by
  refine fsts_mem.mpr ⟨u.lt hx, fun k hk => ?_⟩
  obtain ⟨g, hg, e⟩ := u.inn x hx
  have e2 : a (f x) k = a x (m g k) := by rw [← e]; exact A.mu x g k hx hg hk
  have hm := h.lt g k hg hk
  have := al (m g k) x hm hx
  rw [e2]
  have h3 := u.le (a x (m g k)) (A.lt x _ hx hm)
  omega
theorem UfOk.piece (h : Hse n m) (A : Act n m N a) (u : UfOk n N a f) (al : ∀ g x, g < n → x < N → f x = f (a x g)) {z : Nat} (hz : z ∈ fsts n N a) : (List.range N).filter (fun x => decide (f x = z)) = orb n N a z := by
  have hzN := (fsts_mem.mp hz).1
  unfold orb
  refine List.filter_congr fun x hx => ?_
  have hx := List.mem_range.mp hx
  rw [Bool.eq_iff_iff, decide_eq_true_iff, List.any_eq_true]
  constructor
  · intro e
    obtain ⟨g, hg, e2⟩ := cn_symm h A hx (u.inn x hx)
    rw [e] at e2
    exact ⟨g, List.mem_range.mpr hg, decide_eq_true e2⟩
  · rintro ⟨g, hg, e⟩
    have e := of_decide_eq_true e
    rw [← e, ← al g z (List.mem_range.mp hg) hzN, u.fix hz]
end
section
variable {am : Am} {F0 : Hp} {X : Cx} {body : List Stmt} {pos : Pos}
def xForH (wi : Hp → VTI) (g : VTG) (tb : XTS) : XTS := fun V H0 env n => wi H0 env n fun xs env1 n1 => ∃ P : Nat → Hp → Ev → Nat → Prop, P 0 H0 env1 n1 ∧
  (∀ i x H0 env n, xs[i]? = some x → P i H0 env n → g x env n fun env2 n2 => tb { nx := P (i + 1), ct := P (i + 1), bk := V.nx, rt := V.rt } H0 env2 n2) ∧ ∀ H0 env n, P xs.length H0 env n → V.nx H0 env n
theorem xs_forH {tg iter : Expr} {wi : Hp → VTI} {g : VTG} {tb : XTS} (hp : PassesOwn (model X.prog X.w) X.A X.env X.xe) (hc : X.calm = true) (hi : ∀ H0, PI X tg iter (iOf ⟨am, F0, H0⟩ (wi H0))) (hg : ∀ H0, PG X tg (gOf ⟨am, F0, H0⟩ g)) (hb : PSs X body (sX am F0 tb))
    (hs : ∀ x, foldedSetIterable iter X.env x = pure x := by intro _; rfl) : PS X (.For tg iter body [] pos) (sX am F0 (xForH wi g tb)) :=
  PS.imp (ps_for (wi := fun σ H R => ∃ H0, iOf ⟨am, F0, H0⟩ (wi H0) σ H R) (g := fun v σ H R => ∃ H0, gOf ⟨am, F0, H0⟩ g v σ H R) hp hc ⟨fun pins s σ H Q I ⟨H0, q⟩ => (hi H0).run pins s σ H Q I q⟩ ⟨fun pins s σ H v u Q I r ⟨H0, q⟩ => (hg H0).run pins s σ H v u Q I r q⟩ hb hs) fun D σ H ⟨H0, F, env, n, V, r, q, k⟩ => by
  refine ⟨H0, F, env, n, _, r, q, fun J H1 F1 xs env1 n1 r1 u1 wk q1 => ?_⟩
  obtain ⟨P, p0, turn, fin⟩ := q1
  refine ⟨fun i m σ H => m = xs.length - i ∧ i ≤ xs.length ∧ ∃ H0 F' env n, Rel ⟨am, F0, H0⟩ F' H σ env n ∧ Up F1 F' ∧ P i H0 env n, ⟨_, rfl, Nat.zero_le _, H0, F1, env1, n1, r1, Up.refl F1, p0⟩, ?_⟩
  rintro i m σ2 H2 ⟨rfl, hi, Hb, F2, env2, n2, r2, u2, p2⟩
  obtain ⟨wg, ws⟩ := wk ⟨am, F0, Hb⟩ rfl F2 H2 σ2 env2 n2 r2 u2 i
  by_cases hlt : i < xs.length
  · obtain ⟨go, yl⟩ := wg hlt
    refine .inr ⟨go, fun σ' H' => ∃ H0 F' env n, Rel ⟨am, F0, H0⟩ F' H' σ' env n ∧ Up F1 F' ∧ P (i + 1) H0 env n, fun σ' H' h => ⟨xs.length - (i + 1), by omega, rfl, hlt, h⟩, fun x H3 y => ?_⟩
    obtain ⟨F3, d, r3, u3, ed, rd⟩ := yl x H3 y
    refine ⟨Hb, F3, env2, n2, d, _, r3, rd, turn i d Hb env2 n2 ed p2, fun σ4 H4 F4 env4 n4 r4 u4 q4 => ?_⟩
    have u14 := (u2.trans u3).trans u4
    exact ⟨Hb, F4, env4, n4, _, r4, q4, ⟨fun H0 F5 H5 σ5 env5 n5 r5 u5 q5 => ⟨H0, F5, env5, n5, r5, u14.trans u5, q5⟩, (k.up (u1.trans u14)).rt, (k.up (u1.trans u14)).nx, fun H0 F5 H5 σ5 env5 n5 r5 u5 q5 => ⟨H0, F5, env5, n5, r5, u14.trans u5, q5⟩⟩⟩
  · have e : i = xs.length := by omega
    subst e
    exact .inl ⟨ws (Nat.le_refl _), k.nx Hb F2 H2 σ2 env2 n2 r2 (u1.trans u2) (fin Hb env2 n2 p2)⟩
end
section
variable {am : Am} {F0 H0 F H : Hp} {σ : L2.St} {env : Ev} {n i m : Nat} {d : Addr} {A : Nat → Addr}
theorem Rel.unlockX (r : Rel ⟨VL.lockL am d (refV m A), F0, H0⟩ F H σ env n) (hn : ¬ am.sp d) (h0 : H0 d = none) (hi : i < env.length) (ha : σ[i]? = some (some (.ref d))) : Rel ⟨am, F0, H0⟩ F H σ (env.set i (.ow (.lst (objD m A)))) n := by
  have hF : F d = none := r.spf d (.inr rfl)
  have get : ∀ {j : Nat} {k : Con}, (env.set i (.ow (.lst (objD m A))))[j]? = some (.ow k) → j = i ∨ env[j]? = some (.ow k) := fun {j k} e => by
    by_cases z : j = i
    · exact .inl z
    · rw [List.getElem?_set_ne (Ne.symm z)] at e; exact .inr e
  have own : ∀ {j : Nat} {k : Con}, env[j]? = some (.ow k) → σ[j]? ≠ some (some (.ref d)) := fun {j k} e z => by
    obtain ⟨a2, o2, g1, g2, g3, g4, g5, g6⟩ := r.sl j _ e
    rw [g1] at z
    cases z
    exact g4 (.inr rfl)
  refine ⟨r.sub, fun b hb => r.spf b (.inl hb), r.amb.1, r.up0, r.out0, fun b u e nb => ?_, by rw [List.length_set]; exact r.len, fun j s e => ?_, fun j l b k1 k2 hjl e1 e2 e3 => ?_⟩
  · have ne : b ≠ d := fun z => by
      have e' : H0 b = some u := e
      rw [z, h0] at e'; cases e'
    exact r.keep0 b u e fun z => z.elim nb ne
  · by_cases z : j = i
    · subst z
      rw [List.getElem?_set_self hi] at e
      cases e
      exact ⟨d, _, ha, hF, h0, hn, r.amb.2, _, rfl, rps_refs _⟩
    · rw [List.getElem?_set_ne (Ne.symm z)] at e
      have q := r.sl j s e
      cases s with
      | no => trivial
      | fz d => exact q
      | ow kk =>
        obtain ⟨a2, o2, g1, g2, g3, g4, g5, g6⟩ := q
        exact ⟨a2, o2, g1, g2, g3, fun hs => g4 (.inl hs), g5, g6⟩
  · rcases get e1 with rfl | f1
    · rw [ha] at e3
      cases e3
      rcases get e2 with rfl | f2
      · exact absurd rfl hjl
      · exact own f2
    · rcases get e2 with rfl | f2
      · rw [ha]
        intro z
        cases z
        exact own f1 e3
      · exact r.apart j l b k1 k2 hjl f1 f2 e3
variable {X : Cx} {st : Stmt}
def xLockX (am : Am) (F0 : Hp) (i : Nat) (ts : Addr → List V → XTS) : XTS := fun V H0 env n => ∃ (Hb : Hp) (m : Nat) (A : Nat → Addr) (r : Nat → List Int), H0 = mat Hb m A r ∧ MatOk am F0 Hb m A ∧ env[i]? = some (.ow (.lst (objD m A))) ∧ ∀ d, MatOk (lockL am d (refV m A)) F0 Hb m A →
  ts d (refV m A) { nx := fun H1 env2 n2 => env2[i]? = some (.fz (.obj d)) ∧ (∃ r', H1 = mat Hb m A r') ∧ V.nx H1 (env2.set i (.ow (.lst (objD m A)))) n2, rt := fun _ _ _ => False, bk := fun _ _ _ => False, ct := fun _ _ _ => False } H0 (env.set i (.fz (.obj d))) n
theorem xs_lockX {i : Nat} {ts : Addr → List V → XTS} (h : ∀ (d : Addr) (xs : List V), PS X st (sX (lockL am d xs) F0 (ts d xs))) : PS X st (sX am F0 (xLockX am F0 i ts)) :=
  PS.imp (t := fun D σ H => ∃ (d : Addr) (xs : List V), sX (lockL am d xs) F0 (ts d xs) D σ H) ⟨fun pins s σ H Q I ⟨d, xs, q⟩ => (h d xs).run pins s σ H Q I q⟩ fun D σ H ⟨H0, F, env, n, V, rr, ⟨Hb, m, A, r, e0, mo, ei, q⟩, k⟩ => by
  subst e0
  obtain ⟨d, o, e1, hF, h0, nsp, hH, xs, rfl, rx⟩ := rr.sl i _ ei
  have ex : xs = refV m A := refV_of rx
  subst ex
  have h0' : mat Hb m A r d = none := h0
  have aA : ∀ i, i < m → A i ≠ d := fun i hi z => by rw [← z, mat_at mo.inj hi] at h0'; cases h0'
  have hb : Hb d = none := by rw [mat_out aA] at h0'; exact h0'
  refine ⟨d, refV m A, mat Hb m A r, F, _, n, _, rr.lockL ei e1 hH, q d ⟨mo.inj, mo.h0, mo.f0, fun i hi z => z.elim (mo.ns i hi) (aA i hi)⟩, ⟨fun H1 F' H' σ' env' n' r' u z => ?_, fun _ _ _ _ _ _ _ _ _ _ _ z => z.elim, fun _ _ _ _ _ _ _ _ z => z.elim, fun _ _ _ _ _ _ _ _ z => z.elim⟩⟩
  obtain ⟨z1, ⟨r2, rfl⟩, z2⟩ := z
  obtain ⟨v, e2, rp⟩ := r'.sl i _ z1
  cases rp
  exact k.nx _ F' _ σ' _ n' (r'.unlockX nsp (by show mat Hb m A r2 d = none; rw [mat_out aA]; exact hb) (List.getElem?_eq_some_iff.mp z1).1 e2) u z2
def viX (i : Nat) (d : Addr) (xs : List V) : VTI := fun env n Q => env[i]? = some (.fz (.obj d)) ∧ ∃ m A, xs = refV m A ∧ Q (objD m A) env n
theorem wk_listX {K : PySem.W.Frag} {F : Hp} {a : Addr} {m : Nat} {A : Nat → Addr} : Wk (lockL am a (refV m A)) (Itl K a) F (objD m A) := fun c hc F1 H σ env n r u i => by
  have hH : SqL K H a (refV m A) := by
    have := r.amb
    rw [hc] at this
    exact .inl (.inl this.2)
  have rx : Rps F (refV m A) (objD m A) := rps_refs _
  refine ⟨fun hi => ?_, fun hi => ⟨_, hH, by rw [rx.len]; exact hi⟩⟩
  obtain ⟨v, e1, e2⟩ := rx.get (List.getElem?_eq_getElem hi)
  refine ⟨⟨_, v, hH, e1⟩, fun x H' y => ?_⟩
  obtain ⟨rfl, y⟩ := y
  have := y _ hH
  rw [e1] at this
  cases this
  exact ⟨F1, _, r, Up.refl F1, List.getElem?_eq_getElem hi, e2.up u⟩
theorem vi_listX {tg : Expr} {x : Str} {p : Pos} {i : Nat} {d : Addr} {xs : List V} (h : PE X (.Name x p) (tVar i)) : PI X tg (.Name x p) (iOf ⟨lockL am d xs, F0, H0⟩ (viX i d xs)) := PI.imp (pi_list h) fun σ H R ⟨F, env, n, Q, r, ⟨e, m, A, ex, q⟩, k⟩ => by
  obtain ⟨v, g1, g2⟩ := r.sl i _ e
  cases g2
  exact ⟨_, g1, d, rfl, ⟨_, .inl (.inl r.amb.2)⟩, k _ H F _ env n r (Up.refl F) (by rw [ex]; exact wk_listX) q⟩
end
theorem flt_at {p : Nat → Bool} {x : Nat} (hp : p x = true) : ∀ d, ((List.range (x + 1 + d)).filter p)[((List.range x).filter p).length]? = some x
  | 0 => by
    rw [Nat.add_zero, List.range_succ, List.filter_append, List.getElem?_append_right (Nat.le_refl _), Nat.sub_self, List.filter_cons, if_pos hp]
    rfl
  | d + 1 => by
    have ih := flt_at hp d
    rw [show x + 1 + (d + 1) = (x + 1 + d) + 1 from rfl, List.range_succ, List.filter_append, List.getElem?_append_left (List.getElem?_eq_some_iff.mp ih).1]
    exact ih
theorem fsts_at {n N : Nat} {a : Nat → Nat → Nat} {x : Nat} (hx : x < N) (hp : fst1 n a x = true) : tA (fsts n N a) ((List.range x).filter (fst1 n a)).length = x := by
  have := flt_at hp (N - (x + 1))
  rw [show x + 1 + (N - (x + 1)) = N by omega] at this
  unfold tA fsts
  rw [List.getD_eq_getElem?_getD, this]
  rfl
theorem fsts_step {n : Nat} {a : Nat → Nat → Nat} (x : Nat) : ((List.range (x + 1)).filter (fst1 n a)).length = ((List.range x).filter (fst1 n a)).length + if fst1 n a x = true then 1 else 0 := by
  rw [List.range_succ, List.filter_append, List.length_append, List.filter_cons]
  split <;> rfl
theorem fsts_few {n : Nat} {a : Nat → Nat → Nat} (x : Nat) : ((List.range x).filter (fst1 n a)).length ≤ x := Nat.le_trans (List.length_filter_le _ _) (by rw [List.length_range]; exact Nat.le_refl _)
end VL
namespace K35
open PySem PySem.Spec PyProof.Rows L2 HM VL HG
abbrev s_pieces : Stmt := topS 1
theorem sc_pieces : FnScope ["rows", "told", "seen", "first", "row", "piece", "thing"] ["rows"] (defScope s_pieces) := ⟨rfl, rfl, rfl, by decide +kernel, rfl, by decide +kernel, by decide +kernel⟩
section
variable {P : Program} {w : World} {K : PySem.W.Frag} {mg : Str → Option Value} {base : Heap} {am : Am} {gd : Around → Prop} {k : Nat}
theorem ok_piecesR {f : Addr} {fd : FuncData} (F : Fun K "pieces" "pieces" s_pieces f fd) (mz : ∀ x ∈ bn, mg x = none) : VFnR gd P w K mg base CX0 (k + 1) f fd ["rows"] am spPcsR := by
  refine vfn_ofR F sc_pieces (fun ds n Q h => ?_) ⟨fun F0 H0 => _, fun cdv A out s H E F0 H0 hcd hgd hr =>
    (xrss_cons (xr_lift (xs_lift fun H0 => (vs_setN (i := 1) sc_pieces.nd rfl (.inl rfl) (vn_lst va_nil))))
      (xrss_cons (xr_lift (xs_lift fun H0 => (vs_setN (i := 2) sc_pieces.nd rfl (.inl rfl) (vn_set0 w rfl rfl (by rfl) (mz "set" (by decide))))))
      (xrss_cons (xr_lift (xs_for PassesOwn.never rfl (fun H0 => (vi_range1 (by rfl) (mz "range" (by decide)) (vb_cons (ve_cbR call_len_seq lft_len (by rfl) (mz "len" (by decide)) PySem.boot_len (vb_cons (ve_ixO (pv 0) ve_int (fun _ _ => rfl)) vb_nil)) vb_nil))) (fun H0 => (vg_name (pg_name (i := 3) sc_pieces.nd rfl (.inr rfl))))
        (xss_one (xs_if (fun H0 => (vt_snotin w rfl (ve_var (pv 3)) (pv 2) (by rfl)))
          (xss_cons (xs_lift fun H0 => (vs_setN (i := 5) sc_pieces.nd rfl (.inl rfl) (vn_sortS w rfl rfl (by rfl) (mz "sorted" (by decide)) (vn_scI (iv := 4) (own := [("row", 4)]) w rfl rfl sc_pieces.nd (vi_list (ve_var (pv 0))) (blkOk_by (own := [("row", 4)]) (N := ["rows", "told", "seen", "first", "row", "piece", "thing"]) (sc := defScope s_pieces) (by decide +kernel)) (fun _ _ _ _ _ => (pg_name (i := 4) sc_pieces.nd rfl (.inl rfl))) (fun _ _ _ _ _ _ _ => (ve_ixO (pv 4) (ve_var (pv 3)) (fun _ _ => rfl)))))))
          (xss_cons (xs_appK (i := 1) (j := 5) (pv 1) (pv 5))
          (xss_one (xs_liftH fun H0 => (vs_lockR (i := 5) (fun d ns => (vs_for PassesOwn.never rfl (vi_listO (i := 5) (pv 5)) (vg_name (pg_name (i := 6) sc_pieces.nd rfl (.inl rfl)))
            (vss_one (vs_expr (ve_sadd w rfl (pv 2) (ve_var (pv 6))))))))))))
          xss_nil))))
      (xrss_one (xr_ret (pv 1)))))), fun F0 H0 ds t Q h => ?_⟩
  · obtain ⟨n, m, N, a, rfl, _⟩ := h
    rfl
  · obtain ⟨n, m, N, a, rfl, hH, hn, hA, hN, q⟩ := h
    refine ⟨Nat.zero_le _, ?_⟩
    have hp := hH.pos
    refine ⟨⟨_, .inl rfl⟩, _, _, _, .inl rfl, rfl, set_at hp, _, .inl rfl, rfl, _, rfl, ⟨by omega, by rw [nsD_len, List.length_map, List.length_range]; omega⟩, ?_⟩
    rw [nsD_len, List.length_map, List.length_range]
    refine ⟨fun x H1 env t' => t' = t ∧ ∃ (A : Nat → Addr) (S : Int → Bool) (c : Nat) (W : List Nat) (s3 s5 s6 : Sl), H1 = mat H0 ((List.range x).filter (fst1 n a)).length A (pcR n N a) ∧ MatOk am F0 H0 ((List.range x).filter (fst1 n a)).length A ∧ env = [.fz (setD n N a), .ow (.lst (objD ((List.range x).filter (fst1 n a)).length A)), .ow (.set w S c), s3, .no, s5, s6] ∧ SetN S c W ∧ ∀ y, y ∈ W ↔ ∃ z, z ∈ fsts n N a ∧ z < x ∧ y ∈ orb n N a z, ⟨rfl, fun _ => 0, _, _, [], .no, .no, .no, mat_zero.symm, ⟨fun i j hi => absurd hi (Nat.not_lt_zero i), fun i hi => absurd hi (Nat.not_lt_zero i), fun i hi => absurd hi (Nat.not_lt_zero i), fun i hi => absurd hi (Nat.not_lt_zero i)⟩, rfl, ⟨fun j => ⟨fun z => (by cases z), fun ⟨i, hi, _⟩ => by cases hi⟩, by simp, Nat.le_refl 0⟩, fun y => ⟨fun z => (by cases z), fun ⟨z, _, hz, _⟩ => absurd hz (Nat.not_lt_zero z)⟩⟩, fun x d H1 env t' hx hP => ?_, fun H1 env t' hP => ?_⟩
    · obtain ⟨rfl, A, S, c, W, s3, s5, s6, rfl, mo, rfl, hS, hW⟩ := hP
      obtain ⟨rfl, hx2⟩ := rngD_get0 hx
      have hx : x < N := by have : x < ((N : Nat) : Int).toNat := hx2; omega
      have hWN : W.length ≤ N := few_of_nodup hS.2.1 fun y hy => by
        obtain ⟨z, _, _, hm⟩ := (hW y).mp hy
        exact (orb_mem.mp hm).1
      have hmet : x ∉ W ↔ fst1 n a x = true := by
        rw [hW]
        constructor
        · intro hn2
          refine fst1_iff.mpr fun g hg => Nat.le_of_not_lt fun hl => hn2 ?_
          obtain ⟨z, hz, hm⟩ := fst_ex hH hA (x + 1) x (Nat.lt_succ_self x) hx
          obtain ⟨hzN, hzf⟩ := fsts_mem.mp hz
          obtain ⟨_, k, hk, ek⟩ := orb_mem.mp hm
          have h1 := hzf (m k g) (hH.lt k g hk hg)
          rw [← hA.mu z k g hzN hk hg, ek] at h1
          exact ⟨z, hz, by omega, hm⟩
        · rintro hf ⟨z, hz, hl, hm⟩
          obtain ⟨hzN, _⟩ := fsts_mem.mp hz
          obtain ⟨_, k, hk, ek⟩ := orb_mem.mp hm
          obtain ⟨b, hb, _, _, e3⟩ := hA.back hH hzN hk
          have := fst1_iff.mp hf b hb
          rw [ek] at e3
          omega
      have hsucc : ∀ y, (∃ z, z ∈ fsts n N a ∧ z < x + 1 ∧ y ∈ orb n N a z) ↔ (∃ z, z ∈ fsts n N a ∧ z < x ∧ y ∈ orb n N a z) ∨ (fst1 n a x = true ∧ y ∈ orb n N a x) := fun y => by
        constructor
        · rintro ⟨z, hz, hl, hm⟩
          rcases Nat.lt_or_ge z x with h | h
          · exact .inl ⟨z, hz, h, hm⟩
          · have : z = x := by omega
            subst this
            exact .inr ⟨fst1_iff.mpr (fsts_mem.mp hz).2, hm⟩
        · rintro (⟨z, hz, hl, hm⟩ | ⟨hf, hm⟩)
          · exact ⟨z, hz, by omega, hm⟩
          · exact ⟨x, fsts_mem.mpr ⟨hx, fst1_iff.mp hf⟩, by omega, hm⟩
      have hrs := fsts_step (n := n) (a := a) x
      have hfew := fsts_few (n := n) (a := a) x
      obtain ⟨mm, emm⟩ : ∃ mm, mm = ((List.range x).filter (fst1 n a)).length := ⟨_, rfl⟩
      rw [← emm] at hrs hfew mo ⊢
      refine ⟨_, rfl, S, c, ((x : Nat) : Int), rfl, rfl, _, rfl, iteB (fun e => ?_) (fun e => ?_)⟩
      · have hf : fst1 n a x = true := hmet.mp fun z => by
          have e : (!S ((x : Nat) : Int)) = true := e
          rw [hS.in_ x, decide_eq_true z] at e
          cases e
        refine ⟨_, rfl, _, rfl, noOw1 (s := .no) rfl no_ow, by rw [setD_len]; omega, List.mem_cons_self, fun g => ((a x g : Nat) : Int), fun g d hd R hR => ?_, fun S2 c2 h2 hc2 => ⟨S2, c2, rfl, by rw [setD_len] at hc2; omega, fun ns pw mem len => ?_⟩⟩
        · obtain ⟨hg, rfl⟩ := rows_get hd
          exact ⟨⟨_, .inl rfl⟩, _, rfl, _, _, _, .inl rfl, rfl, row_at hx, hR⟩
        rw [setD_len] at h2
        have ens : ns.map Dt.int = nsD (orb n N a x) := rising_ints (orb_up x) pw fun j => by
          rw [mem j, h2 j, decide_eq_true_iff, List.mem_map]
          constructor
          · rintro ⟨g, hg, rfl⟩
            exact ⟨a x g, orb_mem.mpr ⟨hA.lt x g hx hg, g, hg, rfl⟩, rfl⟩
          · rintro ⟨y, hy, rfl⟩
            obtain ⟨_, g, hg, e⟩ := orb_mem.mp hy
            exact ⟨g, hg, by show ((a x g : Nat) : Int) = _; rw [e]⟩
        have ens2 : ns = (orb n N a x).map fun y : Nat => (y : Int) := (List.map_inj_right (fun _ _ e => Dt.int.inj e)).mp (ens.trans (nsD_ints _))
        refine ⟨ns, H0, mm, A, pcR n N a, by decide, rfl, rfl, mo, rfl, by omega, fun A' mo' => ?_⟩
        have hM : MatAt ⟨am, F0, mat H0 (mm + 1) A' (fun j => if j = mm then ns else pcR n N a j)⟩ mm ns (A' mm) := by
          have := matAt (r := fun j => if j = mm then ns else pcR n N a j) mo' (Nat.lt_succ_self mm)
          rwa [if_pos rfl] at this
        refine ⟨ns, A' mm, mm, rfl, hM, rfl, fun j env t2 => t2 = t' ∧ ∃ S c W2 s6, env = [.fz (setD n N a), .ow (.lst (objD (mm + 1) A')), .ow (.set w S c), .fz (nD x), .no, .fz (.obj (A' mm)), s6] ∧ SetN S c W2 ∧ ∀ y, y ∈ W2 ↔ y ∈ W ∨ y ∈ (orb n N a x).take j, ⟨rfl, S, c, W, s6, rfl, hS, fun y => by rw [List.take_zero]; exact ⟨.inl, fun z => z.elim id fun z => by cases z⟩⟩, fun j d env t2 hx3 hP => ?_, fun env t2 hP => ?_⟩
        · obtain ⟨rfl, S, c, W2, s6, rfl, hS2, hW2⟩ := hP
          rw [ens] at hx3
          unfold nsD at hx3
          rw [List.getElem?_map] at hx3
          obtain ⟨y, hy, rfl⟩ := Option.map_eq_some_iff.mp hx3
          have hl2 : W2.length ≤ N := few_of_nodup hS2.2.1 fun z hz => by
            rcases (hW2 z).mp hz with h | h
            · obtain ⟨z2, _, _, hm⟩ := (hW z).mp h
              exact (orb_mem.mp hm).1
            · exact (orb_mem.mp (List.mem_of_mem_take h)).1
          have hc3 := hS2.2.2
          obtain ⟨W3, hS3, hW3⟩ := hS2.add y
          refine ⟨⟨_, _, rfl⟩, _, rfl, S, c, ((y : Nat) : Int), rfl, rfl, by omega, rfl, _, _, W3, _, rfl, hS3, fun z => ?_⟩
          rw [hW3, hW2, take_snoc' hy, List.mem_append, List.mem_singleton, or_assoc]
        · obtain ⟨rfl, S, c, W2, s6, rfl, hS2, hW2⟩ := hP
          have e1 : mm + 1 = ((List.range (x + 1)).filter (fst1 n a)).length := by rw [hrs, if_pos hf]
          have hm : mat H0 (mm + 1) A' (fun j => if j = mm then ns else pcR n N a j) = mat H0 (mm + 1) A' (pcR n N a) := mat_eq mo'.inj fun j hj => by
            show (if j = mm then ns else pcR n N a j) = pcR n N a j
            by_cases z : j = mm
            · rw [if_pos z, z, ens2, emm]
              unfold pcR
              rw [fsts_at hx hf]
            · rw [if_neg z]
          refine ⟨rfl, A', S, c, W2, _, _, s6, by rw [← e1]; exact hm, by rw [← e1]; exact mo', by rw [← e1], hS2, fun y => ?_⟩
          · rw [hW2, ens, nsD_len, List.take_of_length_le (Nat.le_refl _), hsucc, hW]
            exact ⟨fun z => z.elim .inl fun z => .inr ⟨hf, z⟩, fun z => z.elim .inl fun z => .inr z.2⟩
      · have hf : ¬ fst1 n a x = true := fun z => by
          have e : (!S ((x : Nat) : Int)) = false := e
          rw [hS.in_ x, decide_eq_false (hmet.mpr z)] at e
          cases e
        have e1 : ((List.range (x + 1)).filter (fst1 n a)).length = mm := by rw [hrs, if_neg hf]; rfl
        refine ⟨rfl, A, S, c, W, _, s5, s6, by rw [e1], by rw [e1]; exact mo, by rw [e1]; rfl, hS, fun y => ?_⟩
        rw [hsucc, hW]
        exact ⟨.inl, fun z => z.elim id fun z => absurd z.1 hf⟩
    · obtain ⟨rfl, A, S, c, W, s3, s5, s6, rfl, mo, rfl, hS, hW⟩ := hP
      rw [rngD_len, Int.toNat_natCast] at mo ⊢
      exact ⟨_, A, _, rfl, mo, rfl, q⟩
end
end K35
namespace K35
open PySem PySem.Spec PyProof.Rows L2 HM VL
section
variable {P : Program} {w : World} {K : PySem.W.Frag} {mg : Str → Option Value} {base : Heap} {am : Am} {gd : Around → Prop} {k : Nat}
theorem ok_pieces {f : Addr} {fd : FuncData} (F : Fun K "pieces" "pieces" s_pieces f fd) (mz : ∀ x ∈ bn, mg x = none) : VFn gd P w K mg base CX0 (k + 1) f fd ["rows"] am spPcs := by
  refine vfn_of F sc_pieces (fun ds n Q E h => ?_) ⟨_, fun cdv A out s H E F0 H0 hcd hgd hr =>
    (vss_cons (vs_setN (i := 1) sc_pieces.nd rfl (.inl rfl) (vn_lst va_nil))
      (vss_cons (vs_setN (i := 2) sc_pieces.nd rfl (.inl rfl) (vn_set0 w rfl rfl (by rfl) (mz "set" (by decide))))
      (vss_cons (vs_for PassesOwn.never rfl (vi_range1 (by rfl) (mz "range" (by decide)) (vb_cons (ve_cbR call_len_seq lft_len (by rfl) (mz "len" (by decide)) PySem.boot_len (vb_cons (ve_ixO (pv 0) ve_int (fun _ _ => rfl)) vb_nil)) vb_nil)) (vg_name (pg_name (i := 3) sc_pieces.nd rfl (.inr rfl)))
        (vss_one (vs_if (vt_snotin w rfl (ve_var (pv 3)) (pv 2) (by rfl))
          (vss_cons (vs_set (i := 5) sc_pieces.nd rfl (.inl rfl) (ve_new (vn_sortS w rfl rfl (by rfl) (mz "sorted" (by decide)) (vn_scI (iv := 4) (own := [("row", 4)]) w rfl rfl sc_pieces.nd (vi_list (ve_var (pv 0))) (blkOk_by (own := [("row", 4)]) (N := ["rows", "told", "seen", "first", "row", "piece", "thing"]) (sc := defScope s_pieces) (by decide +kernel)) (fun _ _ _ _ _ => (pg_name (i := 4) sc_pieces.nd rfl (.inl rfl))) (fun _ _ _ _ _ _ _ => (ve_ixO (pv 4) (ve_var (pv 3)) (fun _ _ => rfl)))))))
          (vss_cons (vs_expr (ve_m (pe_bm PySem.F.plainAttrs_list PySem.F.slot_list_append PySem.F.type_list_append mt_append (pv 1) (va_cons (ve_var (pv 5)) va_nil)) lft_append))
          (vss_one (vs_for PassesOwn.never rfl (vi_list (ve_var (pv 5))) (vg_name (pg_name (i := 6) sc_pieces.nd rfl (.inl rfl)))
            (vss_one (vs_expr (ve_sadd w rfl (pv 2) (ve_var (pv 6)))))))))
          vss_nil)))
      (vss_one (vs_ret (ve_mv (pv 1))))))), fun ds t Q E h => ?_⟩
  · obtain ⟨n, m, N, a, rfl, _⟩ := h
    rfl
  · obtain ⟨n, m, N, a, rfl, hH, hn, hA, hN, q⟩ := h
    refine ⟨Nat.zero_le _, ?_⟩
    have hp := hH.pos
    refine ⟨⟨_, .inl rfl⟩, _, _, _, .inl rfl, rfl, set_at hp, _, .inl rfl, rfl, _, rfl, ⟨by omega, by rw [nsD_len, List.length_map, List.length_range]; omega⟩, ?_⟩
    rw [nsD_len, List.length_map, List.length_range]
    refine ⟨fun x env t' => t' = t ∧ ∃ S c W s3 s5 s6, env = [.fz (setD n N a), .ow (.lst (tlD (((List.range x).filter (fst1 n a)).map (orb n N a)))), .ow (.set w S c), s3, .no, s5, s6] ∧ SetN S c W ∧ ∀ y, y ∈ W ↔ ∃ z, z ∈ fsts n N a ∧ z < x ∧ y ∈ orb n N a z, ⟨rfl, _, _, [], .no, .no, .no, rfl, ⟨fun j => ⟨fun z => (by cases z), fun ⟨i, hi, _⟩ => by cases hi⟩, by simp, Nat.le_refl 0⟩, fun y => ⟨fun z => (by cases z), fun ⟨z, _, hz, _⟩ => absurd hz (Nat.not_lt_zero z)⟩⟩, fun x d env t' hx hP => ?_, fun env t' hP => ?_⟩
    · obtain ⟨rfl, S, c, W, s3, s5, s6, rfl, hS, hW⟩ := hP
      obtain ⟨rfl, hx2⟩ := rngD_get0 hx
      have hx : x < N := by have : x < ((N : Nat) : Int).toNat := hx2; omega
      have hWN : W.length ≤ N := few_of_nodup hS.2.1 fun y hy => by
        obtain ⟨z, _, _, hm⟩ := (hW y).mp hy
        exact (orb_mem.mp hm).1
      have hmet : x ∉ W ↔ fst1 n a x = true := by
        rw [hW]
        constructor
        · intro hn2
          refine fst1_iff.mpr fun g hg => Nat.le_of_not_lt fun hl => hn2 ?_
          obtain ⟨z, hz, hm⟩ := fst_ex hH hA (x + 1) x (Nat.lt_succ_self x) hx
          obtain ⟨hzN, hzf⟩ := fsts_mem.mp hz
          obtain ⟨_, k, hk, ek⟩ := orb_mem.mp hm
          have h1 := hzf (m k g) (hH.lt k g hk hg)
          rw [← hA.mu z k g hzN hk hg, ek] at h1
          exact ⟨z, hz, by omega, hm⟩
        · rintro hf ⟨z, hz, hl, hm⟩
          obtain ⟨hzN, _⟩ := fsts_mem.mp hz
          obtain ⟨_, k, hk, ek⟩ := orb_mem.mp hm
          obtain ⟨b, hb, _, _, e3⟩ := hA.back hH hzN hk
          have := fst1_iff.mp hf b hb
          rw [ek] at e3
          omega
      have hsucc : ∀ y, (∃ z, z ∈ fsts n N a ∧ z < x + 1 ∧ y ∈ orb n N a z) ↔ (∃ z, z ∈ fsts n N a ∧ z < x ∧ y ∈ orb n N a z) ∨ (fst1 n a x = true ∧ y ∈ orb n N a x) := fun y => by
        constructor
        · rintro ⟨z, hz, hl, hm⟩
          rcases Nat.lt_or_ge z x with h | h
          · exact .inl ⟨z, hz, h, hm⟩
          · have : z = x := by omega
            subst this
            exact .inr ⟨fst1_iff.mpr (fsts_mem.mp hz).2, hm⟩
        · rintro (⟨z, hz, hl, hm⟩ | ⟨hf, hm⟩)
          · exact ⟨z, hz, by omega, hm⟩
          · exact ⟨x, fsts_mem.mpr ⟨hx, fst1_iff.mp hf⟩, by omega, hm⟩
      have hrs : (List.range (x + 1)).filter (fst1 n a) = (List.range x).filter (fst1 n a) ++ if fst1 n a x = true then [x] else [] := by
        rw [List.range_succ, List.filter_append, List.filter_cons]
        split <;> rfl
      have htl : (tlD (((List.range x).filter (fst1 n a)).map (orb n N a))).length ≤ 900 := by
        rw [tlD_len, List.length_map]
        exact Nat.le_trans (List.length_filter_le _ _) (by rw [List.length_range]; omega)
      refine ⟨_, rfl, S, c, ((x : Nat) : Int), rfl, rfl, _, rfl, iteB (fun e => ?_) (fun e => ?_)⟩
      · have hf : fst1 n a x = true := hmet.mp fun z => by
          have e : (!S ((x : Nat) : Int)) = true := e
          rw [hS.in_ x, decide_eq_true z] at e
          cases e
        rw [if_pos hf] at hrs
        refine ⟨_, rfl, _, rfl, noOw1 (s := .no) rfl no_ow, by rw [setD_len]; omega, List.mem_cons_self, fun g => ((a x g : Nat) : Int), fun g d hd R hR => ?_, fun S2 c2 h2 hc2 => ⟨S2, c2, rfl, by rw [setD_len] at hc2; omega, fun ns pw mem len => ⟨_, rfl, ?_⟩⟩⟩
        · obtain ⟨hg, rfl⟩ := rows_get hd
          exact ⟨⟨_, .inl rfl⟩, _, rfl, _, _, _, .inl rfl, rfl, row_at hx, hR⟩
        rw [setD_len] at h2
        have ens : ns.map Dt.int = nsD (orb n N a x) := rising_ints (orb_up x) pw fun j => by
          rw [mem j, h2 j, decide_eq_true_iff, List.mem_map]
          constructor
          · rintro ⟨g, hg, rfl⟩
            exact ⟨a x g, orb_mem.mpr ⟨hA.lt x g hx hg, g, hg, rfl⟩, rfl⟩
          · rintro ⟨y, hy, rfl⟩
            obtain ⟨_, g, hg, e⟩ := orb_mem.mp hy
            exact ⟨g, hg, by show ((a x g : Nat) : Int) = _; rw [e]⟩
        rw [ens]
        refine ⟨⟨_, rfl⟩, _, rfl, _, rfl, _, rfl, by omega, ?_⟩
        rw [tlD_snoc]
        refine ⟨_, rfl, _, rfl, fun j env t2 => t2 = t' ∧ ∃ S c W2 s6, env = [.fz (setD n N a), .ow (.lst (tlD (((List.range x).filter (fst1 n a)).map (orb n N a) ++ [orb n N a x]))), .ow (.set w S c), .fz (nD x), .no, .fz (.lst (nsD (orb n N a x))), s6] ∧ SetN S c W2 ∧ ∀ y, y ∈ W2 ↔ y ∈ W ∨ y ∈ (orb n N a x).take j, ⟨rfl, S, c, W, s6, rfl, hS, fun y => by rw [List.take_zero]; exact ⟨.inl, fun z => z.elim id fun z => by cases z⟩⟩, fun j d env t2 hx3 hP => ?_, fun env t2 hP => ?_⟩
        · obtain ⟨rfl, S, c, W2, s6, rfl, hS2, hW2⟩ := hP
          unfold nsD at hx3
          rw [List.getElem?_map] at hx3
          obtain ⟨y, hy, rfl⟩ := Option.map_eq_some_iff.mp hx3
          have hl2 : W2.length ≤ N := few_of_nodup hS2.2.1 fun z hz => by
            rcases (hW2 z).mp hz with h | h
            · obtain ⟨z2, _, _, hm⟩ := (hW z).mp h
              exact (orb_mem.mp hm).1
            · exact (orb_mem.mp (List.mem_of_mem_take h)).1
          have hc3 := hS2.2.2
          obtain ⟨W3, hS3, hW3⟩ := hS2.add y
          refine ⟨⟨_, _, rfl⟩, _, rfl, S, c, ((y : Nat) : Int), rfl, rfl, by omega, rfl, _, _, W3, _, rfl, hS3, fun z => ?_⟩
          rw [hW3, hW2, take_snoc' hy, List.mem_append, List.mem_singleton, or_assoc]
        · obtain ⟨rfl, S, c, W2, s6, rfl, hS2, hW2⟩ := hP
          refine ⟨rfl, S, c, W2, _, _, s6, by rw [hrs, List.map_append]; rfl, hS2, fun y => ?_⟩
          rw [hW2, nsD_len, List.take_of_length_le (Nat.le_refl _), hsucc, hW]
          exact ⟨fun z => z.elim .inl fun z => .inr ⟨hf, z⟩, fun z => z.elim .inl fun z => .inr z.2⟩
      · have hf : ¬ fst1 n a x = true := fun z => by
          have e : (!S ((x : Nat) : Int)) = false := e
          rw [hS.in_ x, decide_eq_false (hmet.mpr z)] at e
          cases e
        rw [if_neg hf, List.append_nil] at hrs
        refine ⟨rfl, S, c, W, _, s5, s6, by rw [hrs]; rfl, hS, fun y => ?_⟩
        rw [hsucc, hW]
        exact ⟨.inl, fun z => z.elim id fun z => absurd z.1 hf⟩
    · obtain ⟨rfl, S, c, W, s3, s5, s6, rfl, hS, hW⟩ := hP
      rw [rngD_len, Int.toNat_natCast]
      exact ⟨_, rfl, q⟩
end
end K35
namespace K35
open PySem PySem.Spec PyProof.Rows L2 HM VL HG
abbrev s_l_pieces : Stmt := topS 19
theorem sc_l_pieces : FnScope ["_law_rows", "_law_firsts", "_law_row", "_law_thing", "_law_there", "_law_low", "_law_gone", "_law_mine"] ["_law_rows"] (defScope s_l_pieces) := ⟨rfl, rfl, rfl, by decide +kernel, rfl, by decide +kernel, by decide +kernel⟩
section
variable {P : Program} {w : World} {K : PySem.W.Frag} {mg : Str → Option Value} {base : Heap} {am : Am} {gd : Around → Prop} {k : Nat}
theorem ok_lpiecesR {f : Addr} {fd : FuncData} (F : Fun K "_law_pieces" "_law_pieces" s_l_pieces f fd) (mz : ∀ x ∈ bn, mg x = none) : VFnR gd P w K mg base CX0 (k + 1) f fd ["_law_rows"] am spLPcsR := by
  refine vfn_ofR F sc_l_pieces (fun ds n Q h => ?_) ⟨fun F0 H0 => _, fun cdv A out s H E F0 H0 hcd hgd hr =>
    (xrss_cons (xr_lift (xs_lift fun H0 => (vs_set (i := 1) sc_l_pieces.nd rfl (.inr rfl) (ve_new (vn_listRg rfl (by rfl) (mz "list" (by decide)) (vrg_1 (by rfl) (mz "range" (by decide)) (ve_cbR call_len_seq lft_len (by rfl) (mz "len" (by decide)) PySem.boot_len (vb_cons (ve_ixO (pv 0) ve_int (fun _ _ => rfl)) vb_nil))))))))
      (xrss_cons (xr_lift (xs_lift fun H0 => (vs_for PassesOwn.never rfl (vi_list (ve_var (pv 0))) (vg_name (pg_name (i := 2) sc_l_pieces.nd rfl (.inl rfl)))
        (vss_one (vs_for PassesOwn.never rfl (vi_enum (by rfl) (mz "enumerate" (by decide)) (va_cons (ve_var (pv 2)) va_nil)) (vg_tup (m := 2) rfl (vgs_cons (vg_name (pg_name (i := 3) sc_l_pieces.nd rfl (.inl rfl))) (vgs_cons (vg_name (pg_name (i := 4) sc_l_pieces.nd rfl (.inl rfl))) vgs_nil)))
          (vss_cons (vs_set (i := 5) sc_l_pieces.nd rfl (.inr rfl) (ve_cb (call_min2 rfl) lft_min2 (by rfl) (mz "min" (by decide)) (by decide +kernel) (va_cons (ve_ixO (pv 1) (ve_var (pv 3)) (fun _ _ => rfl)) (va_cons (ve_ixO (pv 1) (ve_var (pv 4)) (fun _ _ => rfl)) va_nil))))
          (vss_cons (vs_set (i := 6) sc_l_pieces.nd rfl (.inr rfl) (ve_cb (call_max2 rfl) lft_max2 (by rfl) (mz "max" (by decide)) (by decide +kernel) (va_cons (ve_ixO (pv 1) (ve_var (pv 3)) (fun _ _ => rfl)) (va_cons (ve_ixO (pv 1) (ve_var (pv 4)) (fun _ _ => rfl)) va_nil))))
          (vss_one (vs_if (vt_cmp op_ne lft_ne (ve_var (pv 5)) (ve_var (pv 6)) (nomark _))
            (vss_one (vs_set (i := 1) sc_l_pieces.nd rfl (.inr rfl) (ve_new (vn_lc (own := [("_law_mine", 7)]) rfl sc_l_pieces.nd (vi_list (ve_var (pv 1))) (blkOk_by (own := [("_law_mine", 7)]) (N := ["_law_rows", "_law_firsts", "_law_row", "_law_thing", "_law_there", "_law_low", "_law_gone", "_law_mine"]) (sc := defScope s_l_pieces) (by decide +kernel)) (tg_name (by simp)) (fun _ _ _ _ _ => (pg_name (i := 7) sc_l_pieces.nd rfl (.inl rfl))) (fun _ _ _ _ _ _ _ => vts_nil) (fun _ _ _ _ _ _ _ => (ve_ix ix_list lft_ixL (ve_new (vn_lst (va_cons (ve_var (pv 7)) (va_cons (ve_var (pv 5)) va_nil)))) (ve_intB (by rfl) (mz "int" (by decide)) (ve_cmp op_eq lft_eq (ve_var (pv 7)) (ve_var (pv 6)) (nomark _))) (fun _ _ => rfl)))))))
            vss_nil)))))))))
      (xrss_one (xr_retE (pe_lcR (own := [("_law_low", 5)]) rfl sc_l_pieces.nd (fun H0 => (vi_list (ve_new (vn_sortS w rfl rfl (by rfl) (mz "sorted" (by decide)) (vn_tyR (cr_setW w rfl rfl) lft_setI (by rfl) (mz "set" (by decide)) (by decide +kernel) (vb_rd (pv 1) vb_nil)))))) (blkOk_by (own := [("_law_low", 5)]) (N := ["_law_rows", "_law_firsts", "_law_row", "_law_thing", "_law_there", "_law_low", "_law_gone", "_law_mine"]) (sc := defScope s_l_pieces) (by decide +kernel)) (tg_name (by simp)) (fun _ _ _ _ _ => (pg_name (i := 5) sc_l_pieces.nd rfl (.inr rfl))) (fun H0 _ _ _ _ _ => (vn_lc (own := [("_law_thing", 3)]) rfl sc_l_pieces.nd (vi_range1 (by rfl) (mz "range" (by decide)) (vb_cons (ve_cbR call_len_seq lft_len (by rfl) (mz "len" (by decide)) PySem.boot_len (vb_rd (pv 1) vb_nil)) vb_nil)) (blkOk_by (own := [("_law_thing", 3)]) (by rfl)) (tg_name (by simp)) (fun _ _ _ _ _ => (pg_name (i := 3) sc_l_pieces.nd rfl (.inl rfl))) (fun _ _ _ _ _ _ _ => vts_one (vt_cmp op_eq lft_eq (ve_ixO (pv 1) (ve_var (pv 3)) (fun _ _ => rfl)) (ve_var (pv 5)) (nomark _))) (fun _ _ _ _ _ _ _ => (ve_var (pv 3)))))))))), fun F0 H0 ds t Q h => ?_⟩
  · obtain ⟨n, m, N, a, rfl, _⟩ := h
    rfl
  · obtain ⟨n, m, N, a, rfl, hH, hn, hA, hN, q⟩ := h
    have hp := hH.pos
    have hlh : ((List.range n).map fun g => rowD N fun x => a x g).length = n := by rw [List.length_map, List.length_range]
    refine ⟨⟨_, .inl rfl⟩, _, _, _, .inl rfl, rfl, set_at hp, _, .inl rfl, rfl, ?_⟩
    rw [nsD_len, List.length_map, List.length_range]
    refine ⟨_, rfl, ⟨by omega, by omega, by omega, by omega⟩, _, rfl, ?_⟩
    have e0 : rngD 0 (((N : Nat) : Int) - 0).toNat = nsD ((List.range N).map fun x => x) := by
      rw [Int.sub_zero, Int.toNat_natCast, List.map_id']
      unfold rngD nsD
      exact List.map_congr_left fun i _ => by show Dt.int (0 + (i : Int)) = Dt.int (i : Int); rw [Int.zero_add]
    refine ⟨_, rfl, _, rfl, fun g env t' => t' = t ∧ ∃ (f : Nat → Nat) (s2 s3 s4 s5 s6 : Sl), okS s3 ∧ okS s5 ∧ env = [.fz (setD n N a), .fz (.lst (nsD ((List.range N).map f))), s2, s3, s4, s5, s6, .no] ∧ UfOk n N a f ∧ ∀ g2 x, g2 < g → x < N → f x = f (a x g2), ⟨rfl, fun x => x, .no, .no, .no, .no, .no, ok_no, ok_no, by rw [← e0]; rfl, UfOk.start hH hA, fun g2 x h => absurd h (Nat.not_lt_zero g2)⟩, fun g d env t' hx hP => ?_, fun env t' hP => ?_⟩
    · obtain ⟨rfl, f, s2, s3, s4, s5, s6, o3, o5, rfl, hU, hal⟩ := hP
      have hg : g < n := by have := (List.getElem?_eq_some_iff.mp hx).1; rwa [hlh] at this
      rw [List.getElem?_map, List.getElem?_range hg] at hx
      cases hx
      refine ⟨_, rfl, _, rfl, fun x env t2 => t2 = t' ∧ ∃ (f : Nat → Nat) (s3 s4 s5 s6 : Sl), okS s3 ∧ okS s5 ∧ env = [.fz (setD n N a), .fz (.lst (nsD ((List.range N).map f))), .fz (rowD N fun x => a x g), s3, s4, s5, s6, .no] ∧ UfOk n N a f ∧ (∀ g2 x, g2 < g → x < N → f x = f (a x g2)) ∧ ∀ y, y < x → y < N → f y = f (a y g), ⟨rfl, f, s3, s4, s5, s6, o3, o5, rfl, hU, hal, fun y h => absurd h (Nat.not_lt_zero y)⟩, fun x d env t2 hx hP => ?_, fun env t2 hP => ?_⟩
      · obtain ⟨rfl, f, s3, s4, s5, s6, o3, o5, rfl, hU, hal, hin⟩ := hP
        obtain ⟨y, hy, rfl⟩ := enD_get hx
        unfold nsD at hy
        rw [List.getElem?_map, List.getElem?_map] at hy
        obtain ⟨y1, hy1, rfl⟩ := Option.map_eq_some_iff.mp hy
        obtain ⟨y2, hy2, rfl⟩ := Option.map_eq_some_iff.mp hy1
        have hxN : x < N := by have := (List.getElem?_eq_some_iff.mp hy2).1; rwa [List.length_range] at this
        rw [List.getElem?_range hxN] at hy2
        cases hy2
        have hax := hA.lt x g hxN hg
        obtain ⟨u, hu⟩ : ∃ u, u = f x := ⟨_, rfl⟩
        obtain ⟨v, hv⟩ : ∃ v, v = f (a x g) := ⟨_, rfl⟩
        have hU2 := hU.step hH hA hxN hg
        rw [← hu, ← hv] at hU2
        have eu : atI (nsD ((List.range N).map f)) ((x : Nat) : Int) = some (nD u) := by rw [hu]; exact row_at hxN
        have ev : atI (nsD ((List.range N).map f)) ((a x g : Nat) : Int) = some (nD v) := by rw [hv]; exact row_at hax
        have emn : (if ((v : Nat) : Int) < ((u : Nat) : Int) then ((v : Nat) : Int) else ((u : Nat) : Int)) = ((min u v : Nat) : Int) := by split <;> omega
        have emx : (if ((v : Nat) : Int) > ((u : Nat) : Int) then ((v : Nat) : Int) else ((u : Nat) : Int)) = ((max u v : Nat) : Int) := by split <;> omega
        refine ⟨_, rfl, rfl, _, _, rfl, _, _, rfl, rfl, ?_⟩
        refine ⟨⟨_, .inl rfl⟩, _, rfl, _, _, _, .inl rfl, rfl, eu, ⟨_, .inl rfl⟩, _, rfl, _, _, _, .inl rfl, rfl, ev, _, _, rfl, ?_⟩
        rw [emn]
        refine ⟨⟨_, .inl rfl⟩, _, rfl, _, _, _, .inl rfl, rfl, eu, ⟨_, .inl rfl⟩, _, rfl, _, _, _, .inl rfl, rfl, ev, _, _, rfl, ?_⟩
        rw [emx]
        have hal2 : ∀ g2 y, g2 < g → y < N → ufJ f u v y = ufJ f u v (a y g2) := fun g2 y h1 h2 => ufJ_keep f u v (hal g2 y h1 h2)
        have hin2 : ∀ y, y < x + 1 → y < N → ufJ f u v y = ufJ f u v (a y g) := fun y h1 h2 => by
          by_cases z : y = x
          · rw [z, hu, hv]; exact ufJ_same f
          · exact ufJ_keep f u v (hin y (by omega) h2)
        refine ⟨_, rfl, _, rfl, .inl ⟨_, _, rfl, rfl, _, rfl, iteB (fun e => ?_) (fun e => ?_)⟩⟩
        · refine ⟨_, rfl, _, rfl, lc_map (i := 7) (fun y => nD (ufJ f u v y)) (.head _) (noOw1 (s := .no) rfl no_ow) (by rw [nsD_len, List.length_map, List.length_range]; omega) (fun y d hd R hR => ?_) ?_⟩
          · obtain ⟨hyN, rfl⟩ := row_get hd
            have hix : atI [nD (f y), nD (min u v)] (if decide (((f y : Nat) : Int) = ((max u v : Nat) : Int)) = true then 1 else 0) = some (nD (ufJ f u v y)) := by
              unfold ufJ
              by_cases z : f y = max u v
              · rw [if_pos z, decide_eq_true (show ((f y : Nat) : Int) = ((max u v : Nat) : Int) by omega)]
                rfl
              · rw [if_neg z, decide_eq_false (show ¬ ((f y : Nat) : Int) = ((max u v : Nat) : Int) by omega)]
                rfl
            exact ⟨_, rfl, _, rfl, (by show 2 ≤ 5000; decide), _, rfl, _, rfl, _, rfl, .inl ⟨_, _, rfl, rfl, _, rfl, _, _, _, rfl, rfl, hix, hR⟩⟩
          · rw [nsD_len, List.length_map, List.length_range, show (List.range N).map (fun y => nD (ufJ f u v y)) = nsD ((List.range N).map (ufJ f u v)) by unfold nsD; rw [List.map_map]; rfl]
            exact ⟨_, rfl, rfl, ufJ f u v, .fz (nD x), .fz (nD (a x g)), .fz (nD (min u v)), .fz (nD (max u v)), ok_fz rfl, ok_fz rfl, rfl, hU2, hal2, hin2⟩
        · have e : (!decide (((min u v : Nat) : Int) = ((max u v : Nat) : Int))) = false := e
          rw [Bool.not_eq_false', decide_eq_true_iff] at e
          have ef : ufJ f u v = f := funext fun y => by
            unfold ufJ
            split
            · omega
            · rfl
          rw [ef] at hU2 hal2 hin2
          exact ⟨rfl, f, .fz (nD x), .fz (nD (a x g)), .fz (nD (min u v)), .fz (nD (max u v)), ok_fz rfl, ok_fz rfl, rfl, hU2, hal2, hin2⟩
      · obtain ⟨rfl, f, s3, s4, s5, s6, o3, o5, rfl, hU, hal, hin⟩ := hP
        rw [enD_len, nsD_len, List.length_map, List.length_range] at hin
        refine ⟨rfl, f, _, s3, s4, s5, s6, o3, o5, rfl, hU, fun g2 x h1 h2 => ?_⟩
        by_cases z : g2 = g
        · rw [z]; exact hin x h2 h2
        · exact hal g2 x (by omega) h2
    · obtain ⟨rfl, f, s2, s3, s4, s5, s6, o3, o5, rfl, hU, hal⟩ := hP
      rw [hlh] at hal
      have hal2 : ∀ g x, g < n → x < N → f x = f (a x g) := hal
      have hnd : (nsD ((List.range N).map f)).length = N := by rw [nsD_len, List.length_map, List.length_range]
      have hll : (fsts n N a).length ≤ N := Nat.le_trans (List.length_filter_le _ _) (by rw [List.length_range]; exact Nat.le_refl _)
      refine ⟨Up.refl _, ?_⟩
      refine ⟨⟨_, .inl rfl⟩, _, .inl rfl, (List.range N).map (fun x => ((f x : Nat) : Int)), by unfold nsD; rw [List.map_map, List.map_map]; rfl, by rw [List.length_map, List.length_range]; omega, fun ms hms => ⟨rfl, _, _, rfl, by rw [List.length_map, List.length_range] at hms; omega, fun ns pw mem len => ⟨_, rfl, _, rfl, ?_⟩⟩⟩
      have ens : ns.map Dt.int = nsD (fsts n N a) := rising_ints (fsts_up n N a) pw fun j => by
        rw [mem j, decide_eq_true_iff, decide_eq_true_iff, List.mem_map, List.mem_map]
        constructor
        · rintro ⟨x, hx, rfl⟩
          exact ⟨f x, hU.first hH hA hal2 (List.mem_range.mp hx), rfl⟩
        · rintro ⟨z, hz, rfl⟩
          exact ⟨z, List.mem_range.mpr (fsts_mem.mp hz).1, by rw [hU.fix hz]⟩
      rw [ens]
      refine ⟨noOw1 (s := s5) rfl o5.2, by rw [nsD_len]; omega, pcR n N a, fun i x hx => ?_, by rw [nsD_len]; exact q⟩
      have hi : i < (fsts n N a).length := by have := (List.getElem?_eq_some_iff.mp hx).1; rwa [nsD_len] at this
      have ex : x = nD (tA (fsts n N a) i) := by
        unfold nsD at hx
        rw [List.getElem?_map, tA_get hi] at hx
        exact (Option.some.inj hx).symm
      subst ex
      have hz : tA (fsts n N a) i ∈ fsts n N a := tA_mem hi
      refine ⟨⟨_, .inl rfl⟩, _, .inl rfl, _, .inl rfl, rfl, _, rfl, ⟨by omega, by rw [hnd]; omega⟩, lc_filter1 (i := 3) (fun x => decide (f x = tA (fsts n N a) i)) nD (.head _) (noOw1 (s := s3) rfl o3.2) (by rw [hnd, rngD_len]; omega) (fun x d hd => ?_) ?_⟩
      · rw [hnd] at hd
        obtain ⟨rfl, hx⟩ := rngD_get0 hd
        have hx : x < N := by have : x < ((N : Nat) : Int).toNat := hx; omega
        refine ⟨fun R hR => ?_, fun _ R hR => ⟨_, rfl, hR⟩⟩
        refine ⟨⟨_, .inl rfl⟩, _, rfl, _, _, _, .inl rfl, rfl, row_at hx, ?_⟩
        refine ⟨_, rfl, .inl ⟨_, _, rfl, rfl, _, rfl, ?_⟩⟩
        rw [show decide (((f x : Nat) : Int) = ((tA (fsts n N a) i : Nat) : Int)) = decide (f x = tA (fsts n N a) i) from decide_eq_decide.mpr (by omega)]
        exact hR
      · rw [hnd, rngD_len, Int.toNat_natCast, hU.piece hH hA hal2 hz]
        refine ⟨?_, rfl, rfl⟩
        unfold pcR
        rw [← nsD_ints]
        rfl
end
end K35
namespace K35
open PySem PySem.Spec PyProof.Rows L2 HM VL
abbrev s_l_set : Stmt := topS 18
theorem sc_l_set : FnScope ["_law_pen_here", "_law_house_here", "_law_room", "_law_number", "_law_rows", "_law_turn_here", "_law_j", "_law_part_here", "_law_again", "_law_begin", "_law_row", "_law_more", "_law_thing", "_law_order", "_law_found", "_law_spots", "_law_there"] ["_law_pen_here", "_law_house_here", "_law_room"] (defScope s_l_set) := ⟨rfl, rfl, rfl, by decide +kernel, rfl, by decide +kernel, by decide +kernel⟩
section
variable {P : Program} {w : World} {K : PySem.W.Frag} {mg : Str → Option Value} {base : Heap} {am : Am} {gd : Around → Prop} {k : Nat}
theorem ok_set35 {p : Addr} {f f_l_take f_l_turn f_l_part f_l_shares : Addr} {fd fd_l_take fd_l_turn fd_l_part fd_l_shares : FuncData} (F : Fun K "_law_set" "_law_set" s_l_set f fd)
    (G_l_take : VFn anyA P w K mg base CX0 (k + 2) f_l_take fd_l_take ["_law_pen_here", "_law_many"] am (spTakeB p)) (g_l_take : mg "_law_take" = some (.ref f_l_take)) (k_l_take : PySem.W.keepIn K (.ref f_l_take) = true) (b_l_take : Binds K fd_l_take ["_law_pen_here", "_law_many"] []) (G_l_turn : VFn anyA P w K mg base CX0 (k + 2) f_l_turn fd_l_turn ["_law_pen_here", "_law_many"] am (spTurn p)) (g_l_turn : mg "_law_turn" = some (.ref f_l_turn)) (k_l_turn : PySem.W.keepIn K (.ref f_l_turn) = true) (b_l_turn : Binds K fd_l_turn ["_law_pen_here", "_law_many"] []) (G_l_part : VFn anyA P w K mg base CX0 (k + 2) f_l_part fd_l_part ["_law_house_here", "_law_numbers"] am spPart) (g_l_part : mg "_law_part" = some (.ref f_l_part)) (k_l_part : PySem.W.keepIn K (.ref f_l_part) = true) (b_l_part : Binds K fd_l_part ["_law_house_here", "_law_numbers"] []) (G_l_shares : VFn anyA P w K mg base CX0 (k + 2) f_l_shares fd_l_shares ["_law_house_here", "_law_part_here"] am spLShares) (g_l_shares : mg "_law_shares" = some (.ref f_l_shares)) (k_l_shares : PySem.W.keepIn K (.ref f_l_shares) = true) (b_l_shares : Binds K fd_l_shares ["_law_house_here", "_law_part_here"] [])
    (mz : ∀ x ∈ bn, mg x = none) : VFnR gd P w K mg base CX0 (k + 3) f fd ["_law_pen_here", "_law_house_here", "_law_room"] am (spSetR35 p) := by
  refine vfn_ofR F sc_l_set (fun ds n Q h => ?_) ⟨fun F0 H0 => _, fun cdv A out s H E F0 H0 hcd hgd hr =>
    (xrss_cons (xr_lift (xs_setLcRows (i := 4) (iv := 3) (own := [("_law_number", 3)]) rfl sc_l_set.nd rfl rfl (sw_true rfl rfl rfl (by decide +kernel)) (fun H0 => (vi_list (ve_var (pv 1)))) (blkOk_by (own := [("_law_number", 3)]) (N := ["_law_pen_here", "_law_house_here", "_law_room", "_law_number", "_law_rows", "_law_turn_here", "_law_j", "_law_part_here", "_law_again", "_law_begin", "_law_row", "_law_more", "_law_thing", "_law_order", "_law_found", "_law_spots", "_law_there"]) (sc := defScope s_l_set) (by decide +kernel)) (fun _ _ _ _ _ => (pg_name (i := 3) sc_l_set.nd rfl (.inl rfl))) (fun H0 _ _ _ _ _ => (vn_lst va_nil))))
      (xrss_cons (xr_lift (xs_fz (i := 4) (xs_for PassesOwn.never rfl (fun H0 => (vi_range1 (by rfl) (mz "range" (by decide)) (vb_cons (ve_call G_l_take trivial (hr.mono (by omega)) (by rfl) g_l_take k_l_take b_l_take pass0 (va_cons (ve_var (pv 0)) (va_cons ve_int va_nil))) vb_nil))) (fun H0 => (vg_name (pg_name (i := 5) sc_l_set.nd rfl (.inl rfl))))
        (xss_cons (xs_liftH fun H0 => (vs_set (i := 7) sc_l_set.nd rfl (.inl rfl) (ve_call G_l_part trivial (hr.mono (by omega)) (by rfl) g_l_part k_l_part b_l_part pass0 (va_cons (ve_var (pv 1)) (va_cons (ve_new (vn_lc (own := [("_law_j", 6)]) rfl sc_l_set.nd (vi_range1 (by rfl) (mz "range" (by decide)) (vb_cons (ve_call G_l_take trivial (hr.mono (by omega)) (by rfl) g_l_take k_l_take b_l_take pass0 (va_cons (ve_var (pv 0)) (va_cons ve_int va_nil))) vb_nil)) (blkOk_by (own := [("_law_j", 6)]) (N := ["_law_pen_here", "_law_house_here", "_law_room", "_law_number", "_law_rows", "_law_turn_here", "_law_j", "_law_part_here", "_law_again", "_law_begin", "_law_row", "_law_more", "_law_thing", "_law_order", "_law_found", "_law_spots", "_law_there"]) (sc := defScope s_l_set) (by decide +kernel)) (tg_name (by simp)) (fun _ _ _ _ _ => (pg_name (i := 6) sc_l_set.nd rfl (.inl rfl))) (fun _ _ _ _ _ _ _ => vts_nil) (fun _ _ _ _ _ _ _ => (ve_call G_l_take trivial (hr.mono (by omega)) (by rfl) g_l_take k_l_take b_l_take pass0 (va_cons (ve_var (pv 0)) (va_cons (ve_cbR call_len_seq lft_len (by rfl) (mz "len" (by decide)) PySem.boot_len (vb_rd (pv 1) vb_nil)) va_nil)))))) va_nil)))))
        (xss_one (xs_for PassesOwn.never rfl (fun H0 => (vi_range1 (by rfl) (mz "range" (by decide)) (vb_cons (ve_op op_add lft_I0 ve_int (ve_call G_l_take trivial (hr.mono (by omega)) (by rfl) g_l_take k_l_take b_l_take pass0 (va_cons (ve_var (pv 0)) (va_cons ve_int va_nil)))) vb_nil))) (fun H0 => (vg_name (pg_name (i := 8) sc_l_set.nd rfl (.inl rfl))))
          (xss_one (xs_if (fun H0 => (vt_cmp op_le lft_B0 (ve_op op_add lft_I0 (ve_cbR call_len_seq lft_len (by rfl) (mz "len" (by decide)) PySem.boot_len (vb_ob (ve_ixO (pv 4) ve_int (fun _ _ => rfl)) vb_nil)) (ve_op op_fdiv lft_I (ve_cbR call_len_seq lft_len (by rfl) (mz "len" (by decide)) PySem.boot_len (vb_rd (pv 1) vb_nil)) (ve_cbR call_len_seq lft_len (by rfl) (mz "len" (by decide)) PySem.boot_len (vb_rd (pv 7) vb_nil)))) (ve_var (pv 2)) (nomark _)))
            (xss_cons (xs_liftH fun H0 => (vs_set (i := 9) sc_l_set.nd rfl (.inr rfl) (ve_cbR call_len_seq lft_len (by rfl) (mz "len" (by decide)) PySem.boot_len (vb_ob (ve_ixO (pv 4) ve_int (fun _ _ => rfl)) vb_nil))))
            (xss_one (xs_for PassesOwn.never rfl (fun H0 => (vi_zip (by rfl) (mz "zip" (by decide)) (va_cons (ve_var (pv 4)) (va_cons (ve_call G_l_shares trivial (hr.mono (by omega)) (by rfl) g_l_shares k_l_shares b_l_shares pass0 (va_cons (ve_var (pv 1)) (va_cons (ve_var (pv 7)) va_nil))) va_nil)))) (fun H0 => (vg_tup (m := 2) rfl (vgs_cons (vg_name (pg_name (i := 10) sc_l_set.nd rfl (.inl rfl))) (vgs_cons (vg_name (pg_name (i := 11) sc_l_set.nd rfl (.inl rfl))) vgs_nil))))
              (xss_one (xs_rm PySem.F.plainAttrs_list PySem.F.slot_list_extend PySem.F.type_list_extend mt_extend lft_extend (fun H0 => (ve_var (pv 10))) (fun H0 => (va_cons (ve_new (vn_lc (own := [("_law_thing", 12)]) rfl sc_l_set.nd (vi_list (ve_var (pv 11))) (blkOk_by (own := [("_law_thing", 12)]) (N := ["_law_pen_here", "_law_house_here", "_law_room", "_law_number", "_law_rows", "_law_turn_here", "_law_j", "_law_part_here", "_law_again", "_law_begin", "_law_row", "_law_more", "_law_thing", "_law_order", "_law_found", "_law_spots", "_law_there"]) (sc := defScope s_l_set) (by decide +kernel)) (tg_name (by simp)) (fun _ _ _ _ _ => (pg_name (i := 12) sc_l_set.nd rfl (.inl rfl))) (fun _ _ _ _ _ _ _ => vts_nil) (fun _ _ _ _ _ _ _ => (ve_op op_add lft_I0 (ve_var (pv 9)) (ve_var (pv 12)))))) va_nil)))))))
            xss_nil))))))))
      (xrss_cons (xr_lift (xs_rowsF (j := 4) (xs_lift fun H0 => (vs_set (i := 13) sc_l_set.nd rfl (.inl rfl) (ve_call G_l_turn trivial (hr.mono (by omega)) (by rfl) g_l_turn k_l_turn b_l_turn pass0 (va_cons (ve_var (pv 0)) (va_cons (ve_cbR call_len_seq lft_len (by rfl) (mz "len" (by decide)) PySem.boot_len (vb_cons (ve_ixO (pv 4) ve_int (fun _ _ => rfl)) vb_nil)) va_nil)))))))
      (xrss_cons (xr_lift (xs_lift fun H0 => (vs_setN (i := 14) sc_l_set.nd rfl (.inl rfl) (vn_lst va_nil))))
      (xrss_cons (xr_lift (xs_for PassesOwn.never rfl (fun H0 => (vi_list (ve_var (pv 4)))) (fun H0 => (vg_name (pg_name (i := 10) sc_l_set.nd rfl (.inl rfl))))
        (xss_cons (xs_lift fun H0 => (vs_setLc (i := 15) (own := [("_law_thing", 12)]) rfl sc_l_set.nd rfl rfl (sw_true rfl rfl rfl (by decide +kernel)) (vi_list (ve_var (pv 10))) (blkOk_by (own := [("_law_thing", 12)]) (N := ["_law_pen_here", "_law_house_here", "_law_room", "_law_number", "_law_rows", "_law_turn_here", "_law_j", "_law_part_here", "_law_again", "_law_begin", "_law_row", "_law_more", "_law_thing", "_law_order", "_law_found", "_law_spots", "_law_there"]) (sc := defScope s_l_set) (by decide +kernel)) (tg_name (by simp)) (fun _ _ _ _ _ => (pg_name (i := 12) sc_l_set.nd rfl (.inl rfl))) (fun _ _ _ _ _ _ _ => vts_nil) (fun _ _ _ _ _ _ _ => ve_int)))
        (xss_cons (xs_lift fun H0 => (vs_for PassesOwn.never rfl (vi_enum (by rfl) (mz "enumerate" (by decide)) (va_cons (ve_var (pv 10)) va_nil)) (vg_tup (m := 2) rfl (vgs_cons (vg_name (pg_name (i := 12) sc_l_set.nd rfl (.inl rfl))) (vgs_cons (vg_name (pg_name (i := 16) sc_l_set.nd rfl (.inl rfl))) vgs_nil)))
          (vss_one (vs_setIx (pv 15) (ve_ix ix_tup lft_ixT (ve_var (pv 13)) (ve_var (pv 12)) (fun _ _ => rfl)) (ve_ix ix_tup lft_ixT (ve_var (pv 13)) (ve_var (pv 16)) (fun _ _ => rfl))))))
        (xss_one (xs_appV (i := 14) (j := 15) (pv 14) (pv 15)))))))
      (xrss_one (xr_ret (pv 14)))))))), fun F0 H0 ds t Q h => ?_⟩
  · obtain ⟨n, m, room, rfl, _⟩ := h
    rfl
  · obtain ⟨n, m, room, rfl, hH, hn, hroom, q⟩ := h
    have hp := hH.pos
    have hlen : ((List.range n).map fun a => rowD n (m a)).length = n := by rw [List.length_map, List.length_range]
    obtain ⟨hs, ehs⟩ : ∃ hs, hs = (List.range n).map fun a => rowD n (m a) := ⟨_, rfl⟩
    have eho : houD n m = .lst hs := by rw [ehs]; rfl
    have hhl : hs.length = n := by rw [ehs]; exact hlen
    rw [eho]
    refine ⟨_, rfl, _, rfl, noOw1 (s := .no) rfl no_ow, by rw [hhl]; omega, List.mem_cons_self, rowI 0 (fun _ _ => 0), fun i x hx R hR => ⟨Nat.zero_le _, hR⟩, ?_⟩
    rw [hhl]
    intro A mo
    refine ⟨_, rfl, ?_⟩
    refine ⟨_, rfl, 6, rfl, by decide, by decide, fun r hr6 => ⟨_, rfl, ⟨by omega, by omega⟩, ?_⟩⟩
    refine ⟨fun j H1 env t2 => t2 = t ∧ ∃ (N : Nat) (a : Nat → Nat → Nat) (s5 s7 s8 s9 s10 s11 : Sl), H1 = mat H0 n A (rowI N a) ∧ env = [.fz (.obj p), .fz (.lst hs), .fz (nD room), .no, .fz (.lst (objD n A)), s5, .no, s7, s8, s9, s10, s11, .no, .no, .no, .no, .no] ∧ Act n m N a ∧ N ≤ room, ⟨rfl, 0, _, .no, .no, .no, .no, .no, .no, rfl, rfl, act_none, Nat.zero_le _⟩, fun j x H1 env t2 hx hP => ?_, fun H1 env t2 hP => ?_⟩
    · obtain ⟨rfl, N, a, s5, s7, s8, s9, s10, s11, rfl, rfl, hA, hN⟩ := hP
      refine ⟨_, rfl, _, rfl, 3, rfl, by decide, by decide, fun r3 hr3 => ⟨_, rfl, ⟨by omega, by omega⟩, ?_⟩⟩
      refine lc_any (i := 6) (fun j acc => ∃ gs, acc = nsD gs ∧ gs.length = j ∧ ∀ g ∈ gs, g < n) (.head _) (noOw1 (s := .no) rfl no_ow) (by rw [rngD_len]; omega) ⟨[], rfl, rfl, fun g hg => absurd hg List.not_mem_nil⟩ (fun j x acc hx hP R hR => ?_) (fun acc hP => ?_)
      · obtain ⟨gs, rfl, hgl, hg⟩ := hP
        refine ⟨_, rfl, ⟨_, .inl rfl⟩, _, .inl rfl, _, .inl rfl, rfl, n, by rw [hhl]; rfl, hp, by omega, fun y hy => hR _ ⟨gs ++ [y], by rw [← nsD_app], by rw [List.length_append, hgl]; rfl, fun g h => ?_⟩⟩
        rcases List.mem_append.mp h with h | h
        · exact hg g h
        · rw [List.mem_singleton.mp h]; exact hy
      obtain ⟨gs, rfl, hgl, hg⟩ := hP
      rw [rngD_len] at hgl
      refine ⟨_, rfl, n, m, gs, by rw [eho], hp, hn, by omega, hH.lt, hg, fun J hJ => ?_⟩
      have sJ : Sub n m J := hJ.sub hH hg
      have hmul := lst_mul hH sJ
      have hJ0 : 0 < J.length := List.length_pos_of_mem sJ.ze
      obtain ⟨NL, eNL⟩ : ∃ NL, NL = (lst m J n).length := ⟨_, rfl⟩
      rw [← eNL] at hmul
      have hdiv : ((hs.length : Nat) : Int) / (((nsD J).length : Nat) : Int) = ((NL : Nat) : Int) := by
        rw [hhl, nsD_len, ← hmul]
        push_cast
        exact Int.mul_ediv_cancel _ (by omega)
      refine ⟨_, rfl, 2, rfl, by decide, by decide, fun r2 hr2 => ⟨_, _, rfl, rfl, _, rfl, ⟨by omega, by omega⟩, ?_⟩⟩
      refine ⟨fun j2 H1 env t3 => t3 = t2 ∧ ∃ (N : Nat) (a : Nat → Nat → Nat) (s8 s9 s10 s11 : Sl), H1 = mat H0 n A (rowI N a) ∧ env = [.fz (.obj p), .fz (.lst hs), .fz (nD room), .no, .fz (.lst (objD n A)), .fz x, .no, .fz (.tup (nsD J)), s8, s9, s10, s11, .no, .no, .no, .no, .no] ∧ Act n m N a ∧ N ≤ room, ⟨rfl, N, a, s8, s9, s10, s11, rfl, rfl, hA, hN⟩, fun j2 x2 H1 env t3 hx2 hP => ?_, fun H1 env t3 hP => ?_⟩
      · obtain ⟨rfl, N, a, s8, s9, s10, s11, rfl, rfl, hA, hN⟩ := hP
        refine ⟨⟨_, .inl rfl⟩, _, _, _, .inl rfl, rfl, objD_at hp, 0, rowI N a 0, A 0, matAt mo hp, rfl, _, .inl rfl, rfl, ⟨_, .inl rfl⟩, _, .inl rfl, _, .inl rfl, rfl, ⟨_, .inl rfl⟩, _, .inl rfl, _, .inr rfl, rfl, _, _, rfl, rfl, by rw [nsD_len]; have := few_of_nodup sJ.nd sJ.lt; exact ⟨by omega, by omega⟩, _, _, rfl, rfl, _, rfl, _, _, rfl, rfl, _, rfl, iteB (fun e => ?_) (fun e => ?_)⟩
        · have e := of_decide_eq_true e
          rw [hdiv, List.length_map, rowI_len] at e
          have hN2 : N + NL ≤ room := by omega
          have act2 : Act n m (N + NL) (besM N a (shMv n m J)) := by rw [eNL]; exact act_bes hA (act_sh hH sJ)
          refine ⟨⟨_, .inl rfl⟩, _, _, _, .inl rfl, rfl, objD_at hp, 0, rowI N a 0, A 0, matAt mo hp, rfl, _, .inl rfl, rfl, ?_⟩
          refine ⟨_, rfl, _, rfl, _, rfl, n, m, J, by rw [eho], hH, hn, sJ, ?_⟩
          refine ⟨_, _, .inr rfl, fun g H1 env t4 => t4 = t3 ∧ ∃ (s10 s11 : Sl), H1 = mat H0 n A (fun j => if j < g then rowI (N + NL) (besM N a (shMv n m J)) j else rowI N a j) ∧ env = [.fz (.obj p), .fz (.lst hs), .fz (nD room), .no, .fz (.lst (objD n A)), .fz x, .no, .fz (.tup (nsD J)), .fz x2, .fz (nD N), s10, s11, .no, .no, .no, .no, .no], ⟨rfl, _, _, mat_eq mo.inj (fun i hi => (if_neg (Nat.not_lt_zero i)).symm), by rw [List.length_map, rowI_len]; rfl⟩, fun g d H1 env t4 hx hP => ?_, fun H1 env t4 hP => ?_⟩
          · obtain ⟨rfl, s10, s11, rfl, rfl⟩ := hP
            obtain ⟨u1, u2, hu1, hu2, rfl⟩ := zipD_get hx
            unfold objD at hu1
            rw [List.getElem?_map] at hu1 hu2
            obtain ⟨g1, hg1, rfl⟩ := Option.map_eq_some_iff.mp hu1
            have hg : g < n := by have := (List.getElem?_eq_some_iff.mp hg1).1; rwa [List.length_range] at this
            rw [List.getElem?_range hg] at hg1
            cases hg1
            obtain ⟨g2, hg2, rfl⟩ := Option.map_eq_some_iff.mp hu2
            rw [List.getElem?_range hg] at hg2
            cases hg2
            rw [← eNL]
            have hrow : (fun j => if j < g then rowI (N + NL) (besM N a (shMv n m J)) j else rowI N a j) g = rowI N a g := if_neg (Nat.lt_irrefl g)
            have hM : MatAt ⟨am, F0, mat H0 n A (fun j => if j < g then rowI (N + NL) (besM N a (shMv n m J)) j else rowI N a j)⟩ g (rowI N a g) (A g) := ⟨⟨H0, n, A, fun j => if j < g then rowI (N + NL) (besM N a (shMv n m J)) j else rowI N a j, rfl, mo, hg, hrow, rfl⟩⟩
            refine ⟨_, rfl, rfl, _, _, rfl, _, _, rfl, rfl, ?_⟩
            refine ⟨_, rfl, ⟨g, rowI N a g, A g, hM, rfl⟩, _, rfl, _, rfl, ?_⟩
            refine lc_map (i := 12) (fun x => nD (N + shMv n m J x g)) (.head _) (noOw1 (s := .no) rfl no_ow) (by rw [nsD_len, List.length_map, List.length_range]; omega) (fun j d hx R hR => ?_) ?_
            · unfold nsD at hx
              rw [List.getElem?_map, List.getElem?_map] at hx
              obtain ⟨y1, hy1, rfl⟩ := Option.map_eq_some_iff.mp hx
              obtain ⟨y2, hy2, rfl⟩ := Option.map_eq_some_iff.mp hy1
              have hj : j < NL := by have := (List.getElem?_eq_some_iff.mp hy2).1; rwa [List.length_range] at this
              rw [List.getElem?_range hj] at hy2
              cases hy2
              exact ⟨_, rfl, _, rfl, _, _, rfl, rfl, hR⟩
            · rw [nsD_len, List.length_map, List.length_range]
              refine ⟨_, rfl, H0, n, A, _, g, rfl, mo, rfl, hg, _, rfl, ?_, rowI (N + NL) (besM N a (shMv n m J)) g, ?_, rfl, _, _, ?_, rfl⟩
              · show (List.map Dt.int _).length + _ ≤ 5000
                rw [List.length_map, if_neg (Nat.lt_irrefl g), rowI_len, List.length_map, List.length_range]
                omega
              · show List.map Dt.int _ ++ _ = _
                rw [if_neg (Nat.lt_irrefl g), rowI_bes, List.map_append, List.map_map (l := List.range NL)]
                rfl
              · refine mat_eq mo.inj fun i hi => ?_
                show (if i = g then _ else if i < g then _ else _) = if i < g + 1 then _ else _
                by_cases z : i = g
                · subst z
                  rw [if_pos rfl, if_pos (Nat.lt_succ_self i)]
                · rw [if_neg z]
                  by_cases w : i < g
                  · rw [if_pos w, if_pos (by omega)]
                  · rw [if_neg w, if_neg (by omega)]
          · obtain ⟨rfl, s10, s11, rfl, rfl⟩ := hP
            have eL : (zipD (objD n A) ((List.range n).map fun g => rowD (lst m J n).length fun x => shMv n m J x g)).length = n := by
              rw [zipD_len]
              unfold objD
              rw [List.length_map, List.length_map, List.length_range, Nat.min_self]
            rw [eL]
            exact ⟨rfl, N + NL, besM N a (shMv n m J), _, _, _, _, mat_eq mo.inj (fun i hi => if_pos hi), rfl, act2, hN2⟩
        · exact ⟨rfl, N, a, _, _, _, _, rfl, rfl, hA, hN⟩
      · obtain ⟨rfl, N, a, s8, s9, s10, s11, rfl, rfl, hA, hN⟩ := hP
        exact ⟨rfl, N, a, _, _, _, _, _, _, rfl, rfl, hA, hN⟩
    · obtain ⟨rfl, N, a, s5, s7, s8, s9, s10, s11, rfl, rfl, hA, hN⟩ := hP
      have eR : (List.range n).map (fun i => Dt.lst ((rowI N a i).map Dt.int)) = (List.range n).map fun g => rowD N fun x => a x g := List.map_congr_left fun i _ => by rw [rowI_D]; rfl
      refine ⟨H0, n, A, rowI N a, rfl, mo, rfl, ?_⟩
      rw [eR]
      refine ⟨_, rfl, ⟨_, .inl rfl⟩, _, _, _, .inl rfl, rfl, set_at hp, _, .inl rfl, rfl, N, by rw [nsD_len, List.length_map, List.length_range]; rfl, by omega, fun o ho => ?_⟩
      refine ⟨Nat.zero_le _, ?_⟩
      have e0 : H0 = mat H0 0 (fun _ => 0) (rowI N (anM o a)) := mat_zero.symm
      refine ⟨_, rfl, _, rfl, fun g H1 env t3 => t3 = t2 ∧ ∃ (A2 : Nat → Addr) (s10 s12 s16 : Sl), (∀ k, s12 ≠ .ow k) ∧ H1 = mat H0 g A2 (rowI N (anM o a)) ∧ MatOk am F0 H0 g A2 ∧ env = [.fz (.obj p), .fz (.lst hs), .fz (nD room), .no, .fz (.lst ((List.range n).map fun g => rowD N fun x => a x g)), s5, .no, s7, s8, s9, s10, s11, s12, .fz (.tup (nsD o)), .ow (.lst (objD g A2)), .no, s16], ⟨rfl, fun _ => 0, _, .no, .no, no_ow, e0, ⟨fun i j hi => absurd hi (Nat.not_lt_zero i), fun i hi => absurd hi (Nat.not_lt_zero i), fun i hi => absurd hi (Nat.not_lt_zero i), fun i hi => absurd hi (Nat.not_lt_zero i)⟩, rfl⟩, fun g x H1 env t3 hx hP => ?_, fun H1 env t3 hP => ?_⟩
      · obtain ⟨rfl, A2, s10, s12, s16, h12, rfl, mo2, rfl⟩ := hP
        rw [List.getElem?_map] at hx
        obtain ⟨g0, hg0, rfl⟩ := Option.map_eq_some_iff.mp hx
        have hg : g < n := by have := (List.getElem?_eq_some_iff.mp hg0).1; rwa [List.length_range] at this
        rw [List.getElem?_range hg] at hg0
        cases hg0
        refine ⟨_, rfl, _, rfl, lc_map (i := 12) (fun _ => nD 0) (.head _) (noOw1 rfl h12) (by rw [nsD_len, List.length_map, List.length_range]; omega) (fun j x hx R hR => hR) ?_⟩
        rw [nsD_len, List.length_map, List.length_range, show (List.range N).map (fun _ => nD 0) = nsD (plN N o (fun x => a x g) 0) by rw [plN_zero]; unfold nsD; rw [List.map_map]; rfl]
        refine ⟨_, rfl, _, rfl, fun x env t4 => t4 = t3 ∧ ∃ (s12 s16 : Sl), (∀ k, s12 ≠ .ow k) ∧ env = [.fz (.obj p), .fz (.lst hs), .fz (nD room), .no, .fz (.lst ((List.range n).map fun g => rowD N fun x => a x g)), s5, .no, s7, s8, s9, .fz (rowD N fun x => a x g), s11, s12, .fz (.tup (nsD o)), .ow (.lst (objD g A2)), .ow (.lst (nsD (plN N o (fun x => a x g) x))), s16], ⟨rfl, s12, s16, h12, rfl⟩, fun x d env t4 hx hP => ?_, fun env t4 hP => ?_⟩
        · obtain ⟨rfl, s12, s16, _, rfl⟩ := hP
          obtain ⟨y, hy, rfl⟩ := enD_get hx
          unfold nsD at hy
          rw [List.getElem?_map, List.getElem?_map] at hy
          obtain ⟨y1, hy1, rfl⟩ := Option.map_eq_some_iff.mp hy
          obtain ⟨y2, hy2, rfl⟩ := Option.map_eq_some_iff.mp hy1
          have hxN : x < N := by have := (List.getElem?_eq_some_iff.mp hy2).1; rwa [List.length_range] at this
          rw [List.getElem?_range hxN] at hy2
          cases hy2
          have hax := hA.lt x g hxN hg
          refine ⟨_, rfl, rfl, _, _, rfl, _, _, rfl, rfl, ?_⟩
          refine ⟨_, rfl, _, rfl, _, _, _, rfl, rfl, nsD_tA (by rw [ho.len]; exact hax), ⟨_, rfl⟩, _, rfl, _, rfl, _, _, _, rfl, rfl, nsD_tA (by rw [ho.len]; exact hxN), _, tA o x, rfl, rfl, by rw [nsD_len, plN_len]; exact ho.at_lt hxN, rfl, .fz (nD x), .fz (nD (a x g)), (fun k z => by cases z), ?_⟩
          rw [← plN_set ho (fun x => a x g) hxN, show nsD ((plN N o (fun x => a x g) x).set (tA o x) (tA o (a x g))) = (nsD (plN N o (fun x => a x g) x)).set (tA o x) (nD (tA o (a x g))) by unfold nsD; rw [List.map_set]]
          rfl
        · obtain ⟨rfl, s12, s16, h12, rfl⟩ := hP
          rw [enD_len, nsD_len, List.length_map, List.length_range, plN_all ho]
          refine ⟨rowI N (anM o a) g, H0, g, A2, rowI N (anM o a), by decide, by rw [rowI_D]; rfl, rfl, mo2, rfl, by omega, fun A3 mo3 => ⟨rfl, A3, _, s12, s16, h12, mat_eq mo3.inj fun j hj => ?_, mo3, rfl⟩⟩
          show (if j = g then _ else _) = _
          by_cases z : j = g
          · rw [if_pos z, z]
          · rw [if_neg z]
      · obtain ⟨rfl, A2, s10, s12, s16, h12, rfl, mo2, rfl⟩ := hP
        rw [List.length_map, List.length_range] at mo2 ⊢
        exact ⟨n, A2, _, rfl, mo2, rfl, q N (anM o a) (act_an hA ho) hN⟩
end
end K35
namespace K35
open PySem PySem.Spec PyProof.Rows L2 HM VL HG
abbrev s_holder : Stmt := topS 2
theorem sc_holder : FnScope ["rows", "thing", "number", "row"] ["rows", "thing"] (defScope s_holder) := ⟨rfl, rfl, rfl, by decide +kernel, rfl, by decide +kernel, by decide +kernel⟩
section
variable {P : Program} {w : World} {K : PySem.W.Frag} {mg : Str → Option Value} {base : Heap} {am : Am} {gd : Around → Prop} {k : Nat}
theorem ok_holder {f cc Pt : Addr} {fd : FuncData} (F : Fun K "holder" "holder" s_holder f fd) (hco : fd.code = .ref cc) (TB : GxR.TabB base mg cc Pt) (TI : TabIn am Pt) (mz : ∀ x ∈ bn, mg x = none) : VFn gd P w K mg base CX0 (k + 13) f fd ["rows", "thing"] am spHld := by
  refine vfn_of F sc_holder (fun ds n Q E h => ?_) ⟨_, fun cdv A out s H E F0 H0 hcd hgd hr =>
    (vss_one (vs_ret (ve_tupGe (k := 6) (own := [("number", 2), ("row", 3)]) TI rfl sc_holder.nd (hr.mono (by omega)) (by rfl) (mz "tuple" (by decide)) TB (hcd.symm.trans hco) ⟨rfl, by decide, rfl⟩ (vi_enum (by rfl) (mz "enumerate" (by decide)) (va_cons (ve_var (pv 0)) va_nil)) (blkOk_by (own := [("number", 2), ("row", 3)]) (N := ["rows", "thing", "number", "row"]) (sc := defScope s_holder) (by decide +kernel)) (tg_two (by simp) (by simp)) (fun _ _ _ _ _ _ _ => pg_tup rfl (pgs_cons (pg_name (i := 2) sc_holder.nd rfl (.inl rfl)) (pgs_cons (pg_name (i := 3) sc_holder.nd rfl (.inl rfl)) pgs_nil))) (fun _ _ _ _ _ _ _ hr => vts_one (vt_cmp op_eq lft_eq (ve_ixO (pv 3) (ve_var (pv 1)) (fun _ _ => rfl)) (ve_var (pv 1)) (nomark _))) (fun _ _ _ _ _ _ _ hr => (ve_var (pv 2)))))), fun ds t Q E h => ?_⟩
  · obtain ⟨n, m, N, a, x, rfl, _⟩ := h
    rfl
  · obtain ⟨n, m, N, a, x, rfl, hH, hn, hA, hx, q⟩ := h
    refine ⟨_, rfl, _, rfl, lc_filter2 (i := 2) (i2 := 3) (fun g => decide (a x g = x)) nD (.head _) (.tail _ (.head _)) (noOw2 (s := .no) (s2 := .no) rfl rfl no_ow no_ow) (by rw [enD_len, setD_len]; omega) (fun g d hd => ?_) ?_⟩
    · obtain ⟨y, hy, rfl⟩ := enD_get hd
      obtain ⟨hg, rfl⟩ := rows_get hy
      refine ⟨_, _, rfl, fun R hR => ?_, fun _ R hR => ⟨_, rfl, hR⟩⟩
      refine ⟨⟨_, .inl rfl⟩, _, rfl, _, _, _, .inl rfl, rfl, row_at hx, _, rfl, .inl ⟨_, _, rfl, rfl, _, rfl, ?_⟩⟩
      rw [show decide (((a x g : Nat) : Int) = ((x : Nat) : Int)) = decide (a x g = x) from decide_eq_decide.mpr (by omega)]
      exact hR
    · rw [enD_len, setD_len]
      exact ⟨_, rfl, q⟩
end
end K35
namespace VL
open PySem PySem.Spec PyProof.Rows L2 HM
def onM (N : Nat) (a : Nat → Nat → Nat) : Nat → Nat → Nat := fun x g => if x = N then N else a x g
section
variable {n : Nat} {m : Nat → Nat → Nat} {N : Nat} {a : Nat → Nat → Nat}
theorem onM_lt {x g : Nat} (h : x < N) : onM N a x g = a x g := if_neg (by omega)
theorem onM_at {g : Nat} : onM N a N g = N := if_pos rfl
theorem act_on (h : Act n m N a) : Act n m (N + 1) (onM N a) := by
  refine ⟨fun x g hx hg => ?_, fun x hx => ?_, fun x g k hx hg hk => ?_⟩
  · by_cases z : x = N
    · rw [z, onM_at]; omega
    · rw [onM_lt (by omega)]
      have := h.lt x g (by omega) hg
      omega
  · by_cases z : x = N
    · rw [z, onM_at]
    · rw [onM_lt (by omega)]
      exact h.ze x (by omega)
  · by_cases z : x = N
    · rw [z, onM_at, onM_at, onM_at]
    · have hx' : x < N := by omega
      rw [onM_lt hx', onM_lt (h.lt x g hx' hg), onM_lt hx', h.mu x g k hx' hg hk]
theorem rowI_on (g : Nat) : rowI (N + 1) (onM N a) g = rowI N a g ++ [(N : Int)] := by
  unfold rowI
  rw [List.range_succ, List.map_append]
  congr 1
  · exact List.map_congr_left fun x hx => by rw [onM_lt (List.mem_range.mp hx)]
  · show [((onM N a N g : Nat) : Int)] = [(N : Int)]
    rw [onM_at]
theorem fsts_on : fsts n (N + 1) (onM N a) = fsts n N a ++ [N] := by
  unfold fsts
  rw [List.range_succ, List.filter_append]
  congr 1
  · refine List.filter_congr fun x hx => ?_
    have hx := List.mem_range.mp hx
    rw [Bool.eq_iff_iff, fst1_iff, fst1_iff]
    exact ⟨fun z g hg => by have := z g hg; rwa [onM_lt hx] at this, fun z g hg => by rw [onM_lt hx]; exact z g hg⟩
  · rw [List.filter_cons, if_pos (fst1_iff.mpr fun g _ => by rw [onM_at]; exact Nat.le_refl _)]
    rfl
theorem orb_on (h : Act n m N a) {z : Nat} (hz : z < N) : orb n (N + 1) (onM N a) z = orb n N a z := by
  unfold orb
  rw [List.range_succ, List.filter_append]
  have e : (List.filter (fun y => (List.range n).any fun g => decide (onM N a z g = y)) [N]) = [] := by
    rw [List.filter_cons, if_neg]
    · rfl
    · rw [List.any_eq_true]
      rintro ⟨g, hg, e⟩
      have e := of_decide_eq_true e
      rw [onM_lt hz] at e
      have := h.lt z g hz (List.mem_range.mp hg)
      omega
  rw [e, List.append_nil]
  refine List.filter_congr fun y hy => ?_
  simp only [onM_lt hz]
theorem orb_new (hn : 0 < n) : orb n (N + 1) (onM N a) N = [N] := by
  unfold orb
  rw [List.range_succ, List.filter_append]
  have e : (List.filter (fun y => (List.range n).any fun g => decide (onM N a N g = y)) (List.range N)) = [] := by
    rw [List.filter_eq_nil_iff]
    intro y hy
    rw [List.any_eq_true]
    rintro ⟨g, hg, e⟩
    have e := of_decide_eq_true e
    rw [onM_at] at e
    have := List.mem_range.mp hy
    omega
  rw [e, List.nil_append, List.filter_cons, if_pos]
  · rfl
  · rw [List.any_eq_true]
    exact ⟨0, List.mem_range.mpr hn, by rw [onM_at]; exact decide_eq_true rfl⟩
theorem pcs_on (hn : 0 < n) (h : Act n m N a) : pcs n (N + 1) (onM N a) = pcs n N a ++ [[N]] := by
  unfold pcs
  rw [fsts_on, List.map_append]
  congr 1
  · exact List.map_congr_left fun z hz => orb_on h (fsts_mem.mp hz).1
  · show [orb n (N + 1) (onM N a) N] = _
    rw [orb_new hn]
theorem hld_new : hld n (onM N a) N = List.range n := by
  unfold hld
  rw [List.filter_eq_self]
  intro g _
  rw [onM_at]
  exact decide_eq_true rfl
theorem sm_pcs (h : Act n m N a) (hN : N ≤ 60) : Sm 4 2 25442 (.lst (tlD (pcs n N a))) :=
  (Sm.lst (k := 1) (c := 422) (l := 60) (fun d hd => by
    obtain ⟨K, hK, rfl⟩ := List.mem_map.mp hd
    unfold pcs at hK
    obtain ⟨z, hz, rfl⟩ := List.mem_map.mp hK
    refine sm_ns (c := 60) (fun x hx => ?_) ?_
    · have := (orb_mem.mp hx).1
      show x < 10000
      omega
    · have := few_of_nodup ((orb_up (n := n) (N := N) (a := a) z).imp fun h => Nat.ne_of_lt h) fun x hx => (orb_mem.mp hx).1
      omega) (by
    rw [tlD_len]
    unfold pcs
    rw [List.length_map]
    exact Nat.le_trans (List.length_filter_le _ _) (by rw [List.length_range]; exact hN)))
end
end VL
namespace K35
open PySem PySem.Spec PyProof.Rows L2 HM VL HG
abbrev s_law : Stmt := topS 20
theorem sc_law : FnScope ["_law_script", "_law_pen_here", "_law_house_here", "_law_turn_here", "_law_rows", "_law_kept", "_law_due", "_law_again", "_law_found", "_law_piece", "_law_thing", "_law_number", "_law_some", "_law_many", "_law_row"] ["_law_script"] (defScope s_law) := ⟨rfl, rfl, rfl, by decide +kernel, rfl, by decide +kernel, by decide +kernel⟩
section
variable {P : Program} {w : World} {K : PySem.W.Frag} {mg : Str → Option Value} {base : Heap} {k : Nat}
theorem ok_law {f f_l_pen f_l_house f_l_set f_l_pieces f_pieces f_holder : Addr} {fd fd_l_pen fd_l_house fd_l_set fd_l_pieces fd_pieces fd_holder : FuncData} {Ps : List Addr} (F : Fun K "law" "law" s_law f fd)
    (GP : PFn anyA P w K mg base CX0 (k + 16) f_l_pen fd_l_pen ["_law_script"] (spPenB K)) (gP : mg "_law_pen" = some (.ref f_l_pen)) (kP : PySem.W.keepIn K (.ref f_l_pen) = true) (bP : Binds K fd_l_pen ["_law_script"] [])
    (G_l_house : ∀ {am p}, PenB K am p → VFn anyA P w K mg base CX0 (k + 16) f_l_house fd_l_house ["_law_pen_here"] am (spHouse p)) (g_l_house : mg "_law_house" = some (.ref f_l_house)) (k_l_house : PySem.W.keepIn K (.ref f_l_house) = true) (b_l_house : Binds K fd_l_house ["_law_pen_here"] []) (GR_l_set : ∀ {am p}, PenB K am p → VFnR anyA P w K mg base CX0 (k + 16) f_l_set fd_l_set ["_law_pen_here", "_law_house_here", "_law_room"] am (spSetR35 p)) (g_l_set : mg "_law_set" = some (.ref f_l_set)) (k_l_set : PySem.W.keepIn K (.ref f_l_set) = true) (b_l_set : Binds K fd_l_set ["_law_pen_here", "_law_house_here", "_law_room"] []) (GR_l_pieces : ∀ {am}, VFnR anyA P w K mg base CX0 (k + 16) f_l_pieces fd_l_pieces ["_law_rows"] am spLPcsR) (g_l_pieces : mg "_law_pieces" = some (.ref f_l_pieces)) (k_l_pieces : PySem.W.keepIn K (.ref f_l_pieces) = true) (b_l_pieces : Binds K fd_l_pieces ["_law_rows"] []) (G_pieces : ∀ {am}, VFn anyA P w K mg base CX0 (k + 16) f_pieces fd_pieces ["rows"] am spPcs) (g_pieces : mg "pieces" = some (.ref f_pieces)) (k_pieces : PySem.W.keepIn K (.ref f_pieces) = true) (b_pieces : Binds K fd_pieces ["rows"] []) (GR_pieces : ∀ {am}, VFnR anyA P w K mg base CX0 (k + 16) f_pieces fd_pieces ["rows"] am spPcsR) (G_holder : ∀ {am}, (∀ P ∈ Ps, TabIn am P) → VFn anyA P w K mg base CX0 (k + 16) f_holder fd_holder ["rows", "thing"] am spHld) (g_holder : mg "holder" = some (.ref f_holder)) (k_holder : PySem.W.keepIn K (.ref f_holder) = true) (b_holder : Binds K fd_holder ["rows", "thing"] [])
    (mz : ∀ x ∈ bn, mg x = none) : PFn noRepr P w K mg base CX0 (k + 17) f fd ["_law_script"] (spLawT K Ps) := by
  refine pfn_of F sc_law (fun vs H Q E h => ?_) (fun cdv A outer s H vs Q E hcd hgd hr h => ?_)
  · obtain ⟨a, ns, rfl, _⟩ := h
    rfl
  · obtain ⟨a, ns, rfl, hS, hlen, hT, q⟩ := h
    refine ⟨_, pss_cons (ps_set (i := 1) sc_law.nd rfl (.inl rfl) (pe_callP GP trivial hr (by rfl) gP kP bP pass0 (pa_cons (pv 0) pa_nil))) (pss_penTBX (K := K) (Ps := Ps) fun am p PI TI F0 H0 => have PlA := PI.pl; have GR_l_set := GR_l_set PI; have GR_l_pieces := GR_l_pieces (am := am); have GR_pieces := GR_pieces (am := am);
      (xss_drop (xss_cons (xs_liftH fun H0 => (vs_set (i := 2) sc_law.nd rfl (.inl rfl) (ve_call (G_l_house PI) trivial (hr.mono (by omega)) (by rfl) g_l_house k_l_house b_l_house pass0 (va_cons (ve_var (pv 1)) va_nil))))
        (xss_cons (xs_for PassesOwn.never rfl (fun H0 => (vi_range1 (by rfl) (mz "range" (by decide)) (vb_cons ve_int vb_nil))) (fun H0 => (vg_name (pg_name (i := 3) sc_law.nd rfl (.inl rfl))))
          (xss_cons (xs_setR (i := 4) sc_law.nd rfl (.inr rfl) (pe_callRb GR_l_set trivial (hr.mono (by omega)) (by rfl) g_l_set k_l_set b_l_set pass0 (fun H0 => (vb_cons (ve_var (pv 1)) (vb_cons (ve_var (pv 2)) (vb_cons ve_int vb_nil))))))
          (xss_cons (xs_liftH fun H0 => (vs_set (i := 5) sc_law.nd rfl (.inl rfl) (ve_frzR (i := 4) (fun F0 H0 => (ve_cbR (call_reprD (by exact hgd) hr) lft_reprS (by rfl) (mz "repr" (by decide)) (by decide +kernel) (vb_rd (pv 4) vb_nil))))))
          (xss_cons (xs_setR (i := 6) sc_law.nd rfl (.inl rfl) (pe_callRb GR_l_pieces trivial (hr.mono (by omega)) (by rfl) g_l_pieces k_l_pieces b_l_pieces pass0 (fun H0 => (vb_rows (pv 4) vb_nil))))
          (xss_cons (xs_fz (i := 6) (xs_rowsF (j := 6) (xs_for PassesOwn.never rfl (fun H0 => (vi_range1 (by rfl) (mz "range" (by decide)) (vb_cons ve_int vb_nil))) (fun H0 => (vg_name (pg_name (i := 7) sc_law.nd rfl (.inl rfl))))
            (xss_cons (xs_less (xs_setR (i := 8) sc_law.nd rfl (.inl rfl) (pe_callRb GR_pieces trivial (hr.mono (by omega)) (by rfl) g_pieces k_pieces b_pieces pass0 (fun H0 => (vb_rows (pv 4) vb_nil)))))
            (xss_cons (xs_if (fun H0 => (vt_frzR (i := 8) (fun F0 H0 => (vt_cmp op_ne lft_neS (ve_cbR (call_reprD (by exact hgd) hr) lft_reprS (by rfl) (mz "repr" (by decide)) (by decide +kernel) (vb_rd (pv 8) vb_nil)) (ve_cbR (call_reprD (by exact hgd) hr) lft_reprS (by rfl) (mz "repr" (by decide)) (by decide +kernel) (vb_rd (pv 6) vb_nil)) (nomark _)))))
              (xss_one (xs_liftH fun H0 => (vs_ret ve_bl)))
              xss_nil)
            (xss_cons (xs_lockX (i := 8) (fun d xs => (xs_for PassesOwn.never rfl (fun H0 => (vi_listX (i := 8) (pv 8))) (fun H0 => (vg_name (pg_name (i := 9) sc_law.nd rfl (.inl rfl))))
              (xss_one (xs_rm PySem.F.plainAttrs_list PySem.F.slot_list_append PySem.F.type_list_append mt_append lft_append (fun H0 => (ve_var (pv 9))) (fun H0 => (va_cons ve_int va_nil)))))))
            (xss_one (xs_appR (i := 8) (pv 8) (fun H0 => (vn_lst va_nil))))))))))
          (xss_cons (xs_less (xs_forH PassesOwn.never rfl (fun H0 => (vi_range1 (by rfl) (mz "range" (by decide)) (vb_cons (ve_cbR call_len_seq lft_len (by rfl) (mz "len" (by decide)) PySem.boot_len (vb_ob (ve_ixO (pv 4) ve_int (fun _ _ => rfl)) vb_nil)) vb_nil))) (fun H0 => (vg_name (pg_name (i := 10) sc_law.nd rfl (.inr rfl))))
            (xss_cons (xs_liftH fun H0 => (vs_set (i := 12) sc_law.nd rfl (.inl rfl) (ve_frzR (i := 4) (fun F0 H0 => (ve_tyTR call_tuple_of lft_tupleOf (by rfl) (mz "tuple" (by decide)) (by decide +kernel) (vb_cons (ve_new (vn_lc (own := [("_law_number", 11)]) rfl sc_law.nd (vi_range1 (by rfl) (mz "range" (by decide)) (vb_cons (ve_cbR call_len_seq lft_len (by rfl) (mz "len" (by decide)) PySem.boot_len (vb_rd (pv 4) vb_nil)) vb_nil)) (blkOk_by (own := [("_law_number", 11)]) (N := ["_law_script", "_law_pen_here", "_law_house_here", "_law_turn_here", "_law_rows", "_law_kept", "_law_due", "_law_again", "_law_found", "_law_piece", "_law_thing", "_law_number", "_law_some", "_law_many", "_law_row"]) (sc := defScope s_law) (by decide +kernel)) (tg_name (by simp)) (fun _ _ _ _ _ => (pg_name (i := 11) sc_law.nd rfl (.inl rfl))) (fun _ _ _ _ _ _ _ => vts_one (vt_cmp op_eq lft_eq (ve_ix ix_list lft_ixL (ve_ixO (pv 4) (ve_var (pv 11)) (fun _ _ => rfl)) (ve_var (pv 10)) (fun _ _ => rfl)) (ve_var (pv 10)) (nomark _))) (fun _ _ _ _ _ _ _ => (ve_var (pv 11))))) vb_nil))))))
            (xss_one (xs_if (fun H0 => (vt_frzR (i := 4) (fun F0 H0 => (vt_cmp op_ne lft_neS (ve_cbR (call_reprD (by exact hgd) hr) lft_reprS (by rfl) (mz "repr" (by decide)) (by decide +kernel) (vb_cons (ve_call (G_holder TI) trivial (hr.mono (by omega)) (by rfl) g_holder k_holder b_holder pass0 (va_cons (ve_var (pv 4)) (va_cons (ve_var (pv 10)) va_nil))) vb_nil)) (ve_cbR (call_reprD (by exact hgd) hr) lft_reprS (by rfl) (mz "repr" (by decide)) (by decide +kernel) (vb_rd (pv 12) vb_nil)) (nomark _)))))
              (xss_one (xs_liftH fun H0 => (vs_ret ve_bl)))
              xss_nil)))))
          (xss_cons (xs_if (fun H0 => (vt_frzR (i := 4) (fun F0 H0 => (vt_cmp op_ne lft_neS (ve_cbR (call_reprD (by exact hgd) hr) lft_reprS (by rfl) (mz "repr" (by decide)) (by decide +kernel) (vb_rd (pv 4) vb_nil)) (ve_var (pv 5)) (nomark _)))))
            (xss_one (xs_liftH fun H0 => (vs_ret ve_bl)))
            xss_nil)
          (xss_cons (xs_liftH fun H0 => (vs_set (i := 13) sc_law.nd rfl (.inl rfl) (ve_frzR (i := 4) (fun F0 H0 => (ve_cbR call_len_seq lft_len (by rfl) (mz "len" (by decide)) PySem.boot_len (vb_cons (ve_ixO (pv 4) ve_int (fun _ _ => rfl)) vb_nil))))))
          (xss_cons (xs_lockX (i := 4) (fun d xs => (xs_for PassesOwn.never rfl (fun H0 => (vi_listX (i := 4) (pv 4))) (fun H0 => (vg_name (pg_name (i := 14) sc_law.nd rfl (.inl rfl))))
            (xss_one (xs_rm PySem.F.plainAttrs_list PySem.F.slot_list_append PySem.F.type_list_append mt_append lft_append (fun H0 => (ve_var (pv 14))) (fun H0 => (va_cons (ve_var (pv 13)) va_nil)))))))
          (xss_cons (xs_if (fun H0 => (vt_or (vt_frzR (i := 4) (fun F0 H0 => (vt_cmp op_ne lft_neS (ve_cbR (call_reprD (by exact hgd) hr) lft_reprS (by rfl) (mz "repr" (by decide)) (by decide +kernel) (vb_cons (ve_call G_pieces trivial (hr.mono (by omega)) (by rfl) g_pieces k_pieces b_pieces pass0 (va_cons (ve_var (pv 4)) va_nil)) vb_nil)) (ve_cbR (call_reprD (by exact hgd) hr) lft_reprS (by rfl) (mz "repr" (by decide)) (by decide +kernel) (vb_cons (ve_new (vn_op op_cat lft_cat (ve_var (pv 6)) (ve_new (vn_lst (va_cons (ve_new (vn_lst (va_cons (ve_var (pv 13)) va_nil))) va_nil))))) vb_nil)) (nomark _)))) (vt_or1 (vt_frzR (i := 4) (fun F0 H0 => (vt_cmp op_ne lft_neS (ve_cbR (call_reprD (by exact hgd) hr) lft_reprS (by rfl) (mz "repr" (by decide)) (by decide +kernel) (vb_cons (ve_call (G_holder TI) trivial (hr.mono (by omega)) (by rfl) g_holder k_holder b_holder pass0 (va_cons (ve_var (pv 4)) (va_cons (ve_var (pv 13)) va_nil))) vb_nil)) (ve_cbR (call_reprD (by exact hgd) hr) lft_reprS (by rfl) (mz "repr" (by decide)) (by decide +kernel) (vb_cons (ve_tupRg rfl (by rfl) (mz "tuple" (by decide)) (vrg_1 (by rfl) (mz "range" (by decide)) (ve_cbR call_len_seq lft_len (by rfl) (mz "len" (by decide)) PySem.boot_len (vb_rd (pv 4) vb_nil)))) vb_nil)) (nomark _)))))).pt)
            (xss_one (xs_liftH fun H0 => (vs_ret ve_bl)))
            xss_nil)
          (xss_cons (xs_lockX (i := 4) (fun d xs => (xs_for PassesOwn.never rfl (fun H0 => (vi_listX (i := 4) (pv 4))) (fun H0 => (vg_name (pg_name (i := 14) sc_law.nd rfl (.inl rfl))))
            (xss_one (xs_rm0 PySem.F.plainAttrs_list PySem.F.slot_list_pop PySem.F.type_list_pop mt_pop lft_pop (fun H0 => (ve_var (pv 14))))))))
          (xss_one (xs_if (fun H0 => (vt_or (vt_frzR (i := 4) (fun F0 H0 => (vt_cmp op_ne lft_neS (ve_cbR (call_reprD (by exact hgd) hr) lft_reprS (by rfl) (mz "repr" (by decide)) (by decide +kernel) (vb_cons (ve_call G_pieces trivial (hr.mono (by omega)) (by rfl) g_pieces k_pieces b_pieces pass0 (va_cons (ve_var (pv 4)) va_nil)) vb_nil)) (ve_cbR (call_reprD (by exact hgd) hr) lft_reprS (by rfl) (mz "repr" (by decide)) (by decide +kernel) (vb_rd (pv 6) vb_nil)) (nomark _)))) (vt_or1 (vt_frzR (i := 4) (fun F0 H0 => (vt_cmp op_ne lft_neS (ve_cbR (call_reprD (by exact hgd) hr) lft_reprS (by rfl) (mz "repr" (by decide)) (by decide +kernel) (vb_rd (pv 4) vb_nil)) (ve_var (pv 5)) (nomark _)))))).pt)
            (xss_one (xs_liftH fun H0 => (vs_ret ve_bl)))
            xss_nil)))))))))))))
        (xss_one (xs_liftH fun H0 => (vs_ret (ve_cmpR (op_eqD hr.units) lft_eqD (ve_call G_pieces trivial (hr.mono (by omega)) (by rfl) g_pieces k_pieces b_pieces pass0 (va_cons (ve_new (vn_lc (own := [("_law_number", 11)]) rfl sc_law.nd (vi_list (ve_var (pv 2))) (blkOk_by (own := [("_law_number", 11)]) (N := ["_law_script", "_law_pen_here", "_law_house_here", "_law_turn_here", "_law_rows", "_law_kept", "_law_due", "_law_again", "_law_found", "_law_piece", "_law_thing", "_law_number", "_law_some", "_law_many", "_law_row"]) (sc := defScope s_law) (by decide +kernel)) (tg_name (by simp)) (fun _ _ _ _ _ => (pg_name (i := 11) sc_law.nd rfl (.inl rfl))) (fun _ _ _ _ _ _ _ => vts_nil) (fun _ _ _ _ _ _ _ => (ve_new (vn_lst va_nil))))) va_nil)) (vr_of (ve_new (vn_lst va_nil))) (nomark _))))))))), ?_⟩
    refine ⟨_, rfl, a, ns, rfl, hS, hlen, fun p b H' u hp hb ne h1 h2 => pen_startTBX rfl hlen (fun P hP => tabG_up u (hT P hP)) h1 h2 q (fun am F0 H0 => ?_)⟩
    refine ⟨_, rfl, rfl, fun n m hH hn => ?_⟩
    have hp0 := hH.pos
    have hlh : ((List.range n).map fun a => rowD n (m a)).length = n := by rw [List.length_map, List.length_range]
    refine ⟨3, rfl, ⟨by decide, by decide⟩, fun i H1 env t' => t' = 0 ∧ Up H0 H1 ∧ ∃ (s3 s4 s5 s6 s7 s8 s9 s10 s12 s13 s14 : Sl), env = [.no, .fz (.obj p), .fz (houD n m), s3, s4, s5, s6, s7, s8, s9, s10, .no, s12, s13, s14], ⟨rfl, Up.refl _, .no, .no, .no, .no, .no, .no, .no, .no, .no, .no, .no, rfl⟩, fun i d H1 env t' hx hP => ?_, fun H1 env t' hP => ?_⟩
    · obtain ⟨rfl, hU, s3, s4, s5, s6, s7, s8, s9, s10, s12, s13, s14, rfl⟩ := hP
      obtain ⟨rfl, hi4⟩ := rngD_get0 hx
      refine ⟨H0, hU, _, rfl, _, rfl, n, m, 40, rfl, hH, hn, by decide, fun N a hA hN A mo => ?_⟩
      have rS : Dt.lst (rowsDt n (rowI N a)) = setD n N a := rowsDt_set n N a
      have hst : rpS (setD n N a) := (sm_set hn hA (by omega)).rp (by decide) (by decide) (by decide) (by decide)
      obtain ⟨S, hS⟩ : ∃ S, S = mat H0 n A (rowI N a) := ⟨_, rfl⟩
      refine ⟨H0, n, A, rowI N a, rfl, mo, rfl, ?_⟩
      rw [rS]
      refine ⟨⟨_, .inl rfl⟩, _, .inl rfl, _, rfl, hst, rfl, rfl, rfl, ?_⟩
      refine ⟨mat H0 n A (rowI N a), Up.refl _, ⟨_, rfl⟩, _, _, _, _, rfl, mo, rfl, n, m, N, a, by rw [rS], hH, hn, hA, by omega, fun A2 mo2 => ?_⟩
      rw [← hS] at mo2 ⊢
      refine ⟨_, rfl, S, (fsts n N a).length, A2, pcR n N a, rfl, mo2, rfl, ?_⟩
      have eD : Dt.lst ((List.range (fsts n N a).length).map fun i => .lst ((pcR n N a i).map Dt.int)) = .lst (tlD (pcs n N a)) := congrArg Dt.lst (pcR_rows n N a)
      have eD2 : Dt.lst (rowsDt (fsts n N a).length (pcR n N a)) = .lst (tlD (pcs n N a)) := congrArg Dt.lst (pcR_rows n N a)
      rw [eD]
      have hpr : rpS (.lst (tlD (pcs n N a))) := (sm_pcs hA (by omega)).rp (by decide) (by decide) (by decide) (by decide)
      have hfl : (fsts n N a).length ≤ N := Nat.le_trans (List.length_filter_le _ _) (by rw [List.length_range]; exact Nat.le_refl _)
      refine ⟨2, rfl, ⟨by decide, by decide⟩, fun j H1 env t' => t' = 0 ∧ Up S H1 ∧ ∃ (s7 s8 s9 : Sl), env = [.no, .fz (.obj p), .fz (houD n m), .fz (nD i), .ow (.lst (objD n A)), .fz (shD (setD n N a)), .fz (.lst (tlD (pcs n N a))), s7, s8, s9, s10, .no, s12, s13, s14], ⟨rfl, Up.refl _, s7, s8, s9, rfl⟩, fun j d H1 env t' hx hP => ?_, fun H1 env t' hP => ?_⟩
      · obtain ⟨rfl, hU2, s7, s8, s9, rfl⟩ := hP
        obtain ⟨rfl, hj⟩ := rngD_get0 hx
        refine ⟨S, hU2, S, Up.refl _, ⟨_, rfl⟩, H0, n, A, rowI N a, hS, mo, rfl, n, m, N, a, by rw [rS], hH, hn, hA, by omega, fun A3 mo3 => ?_⟩
        refine ⟨S, _, A3, pcR n N a, rfl, mo3, rfl, ?_⟩
        rw [eD2]
        refine ⟨⟨_, .inl rfl⟩, _, .inl rfl, _, rfl, hpr, rfl, ⟨_, .inl rfl⟩, _, .inl rfl, _, rfl, hpr, rfl, dNe_sh ⟨_, rfl, rfl, iteB (fun e => by cases e) (fun _ => ?_)⟩⟩
        refine ⟨S, _, A3, pcR n N a, rfl, mo3, rfl, fun d3 mo3' => ?_⟩
        refine ⟨rfl, _, _, rfl, fun g H1 env t' => t' = 0 ∧ H1 = mat S (fsts n N a).length A3 (fun x => if x < g then pcR n N a x ++ [99] else pcR n N a x) ∧ ∃ (s9 : Sl), env = [.no, .fz (.obj p), .fz (houD n m), .fz (nD i), .ow (.lst (objD n A)), .fz (shD (setD n N a)), .fz (.lst (tlD (pcs n N a))), .fz (nD j), .fz (.obj d3), s9, s10, .no, s12, s13, s14], ⟨rfl, mat_eq mo3.inj (fun i hi => (if_neg (Nat.not_lt_zero i)).symm), s9, rfl⟩, fun g d H1 env t' hx hP => ?_, fun H1 env t' hP => ?_⟩
        · obtain ⟨rfl, rfl, s9, rfl⟩ := hP
          unfold objD at hx
          rw [List.getElem?_map] at hx
          obtain ⟨g1, hg1, rfl⟩ := Option.map_eq_some_iff.mp hx
          have hg : g < (fsts n N a).length := by have := (List.getElem?_eq_some_iff.mp hg1).1; rwa [List.length_range] at this
          rw [List.getElem?_range hg] at hg1
          cases hg1
          have hol : (pcR n N a g).length ≤ N := by
            unfold pcR orb
            rw [List.length_map]
            exact Nat.le_trans (List.length_filter_le _ _) (by rw [List.length_range]; exact Nat.le_refl _)
          refine ⟨_, rfl, ⟨g, _, A3 g, matAt mo3' hg, rfl⟩, S, _, A3, _, g, rfl, mo3', rfl, hg, _, rfl, ?_, pcR n N a g ++ [99], ?_, rfl, ?_, .fz (.obj (A3 g)), rfl⟩
          · rw [if_neg (Nat.lt_irrefl g), List.length_map]
            omega
          · rw [if_neg (Nat.lt_irrefl g), List.map_append]
            rfl
          · refine mat_eq mo3.inj fun i hi => ?_
            show (if i = g then _ else if i < g then _ else _) = if i < g + 1 then _ else _
            by_cases z : i = g
            · subst z
              rw [if_pos rfl, if_pos (Nat.lt_succ_self i)]
            · rw [if_neg z]
              by_cases w : i < g
              · rw [if_pos w, if_pos (by omega)]
              · rw [if_neg w, if_neg (by omega)]
        · obtain ⟨rfl, rfl, s9, rfl⟩ := hP
          refine ⟨rfl, ⟨_, rfl⟩, ?_⟩
          exact ⟨⟨_, rfl⟩, Nat.zero_le _, [], S, _, A3, _, rfl, rfl, mo3, rfl, by omega, fun A4 mo4 => ⟨rfl, mo4.up, _, _, s9, rfl⟩⟩
      · obtain ⟨rfl, hU2, s7, s8, s9, rfl⟩ := hP
        have hM0 : MatAt ⟨am, F0, S⟩ 0 (rowI N a 0) (A 0) := by rw [hS]; exact matAt mo hp0
        refine ⟨S, hU2, ⟨_, .inr ⟨_, rfl, rfl⟩⟩, _, _, _, .inr ⟨_, rfl, rfl⟩, rfl, objD_at hp0, 0, rowI N a 0, A 0, hM0, rfl, _, .inl rfl, rfl, _, rfl, ⟨by omega, by rw [List.length_map, rowI_len]; omega⟩, ?_⟩
        rw [List.length_map, rowI_len]
        refine ⟨fun x H1 env t' => t' = 0 ∧ H1 = mat H0 n A (rowI N a) ∧ ∃ (s10 s12 : Sl), env = [.no, .fz (.obj p), .fz (houD n m), .fz (nD i), .ow (.lst (objD n A)), .fz (shD (setD n N a)), .fz (.lst (tlD (pcs n N a))), s7, s8, s9, s10, .no, s12, s13, s14], ⟨rfl, hS, s10, s12, rfl⟩, fun x d H1 env t' hx hP => ?_, fun H1 env t' hP => ?_⟩
        · obtain ⟨rfl, rfl, s10, s12, rfl⟩ := hP
          obtain ⟨rfl, hx2⟩ := rngD_get0 hx
          have hx : x < N := by have : x < ((N : Nat) : Int).toNat := hx2; omega
          have hsl : ((List.range n).map fun g => rowD N fun x => a x g).length = n := by rw [List.length_map, List.length_range]
          refine ⟨H0, n, A, rowI N a, rfl, mo, rfl, ?_⟩
          rw [rS]
          refine ⟨⟨_, .inl rfl⟩, _, .inl rfl, _, .inl rfl, rfl, _, rfl, ⟨by omega, by rw [hsl]; omega⟩, lc_filter1 (i := 11) (fun g => decide (a x g = x)) nD (.head _) (noOw1 (s := .no) rfl no_ow) (by rw [hsl, rngD_len]; omega) (fun g d hd => ?_) ?_⟩
          · rw [hsl] at hd
            obtain ⟨rfl, hg⟩ := rngD_get0 hd
            have hg : g < n := by have : g < ((n : Nat) : Int).toNat := hg; omega
            refine ⟨fun R hR => ?_, fun _ R hR => ⟨_, rfl, hR⟩⟩
            refine ⟨⟨_, .inl rfl⟩, _, rfl, _, _, _, .inl rfl, rfl, set_at hg, _, rfl, _, _, _, rfl, rfl, row_at hx, _, rfl, .inl ⟨_, _, rfl, rfl, _, rfl, ?_⟩⟩
            rw [show decide (((a x g : Nat) : Int) = ((x : Nat) : Int)) = decide (a x g = x) from decide_eq_decide.mpr (by omega)]
            exact hR
          · rw [hsl, rngD_len, Int.toNat_natCast]
            have eh : ((List.range n).filter fun g => decide (a x g = x)).map nD = nsD (hld n a x) := rfl
            rw [eh]
            refine ⟨_, rfl, _, rfl, flats_ns _, rfl, flats_ns _, ?_⟩
            have hrt : rpS (.tup (nsD (hld n a x))) := (sm_nt (e := 4) (c := 60) (fun g hg => by
              have := List.mem_range.mp (List.mem_filter.mp hg).1
              show g < 10000
              omega) (Nat.le_trans (List.length_filter_le _ _) (by rw [List.length_range]; exact hn))).rp (by decide) (by decide) (by decide) (by decide)
            refine ⟨H0, n, A, rowI N a, rfl, mo, rfl, ?_⟩
            rw [rS]
            exact ⟨_, rfl, _, rfl, n, m, N, a, x, rfl, hH, hn, hA, hx, _, rfl, hrt, rfl, ⟨_, .inl rfl⟩, _, .inl rfl, _, rfl, hrt, rfl, dNe_sh ⟨_, rfl, rfl, iteB (fun e => by cases e) (fun _ => ⟨rfl, rfl, _, _, rfl⟩)⟩⟩
        · obtain ⟨rfl, rfl, s10, s12, rfl⟩ := hP
          refine ⟨H0, n, A, rowI N a, rfl, mo, rfl, ?_⟩
          rw [rS]
          refine ⟨⟨_, .inl rfl⟩, _, .inl rfl, _, rfl, hst, rfl, _, rfl, dNe_sh ⟨_, rfl, rfl, iteB (fun e => by cases e) (fun _ => ?_)⟩⟩
          refine ⟨H0, n, A, rowI N a, rfl, mo, rfl, ?_⟩
          rw [rS]
          refine ⟨⟨_, .inl rfl⟩, _, _, _, .inl rfl, rfl, set_at hp0, _, .inl rfl, rfl, rfl, rfl, ?_⟩
          rw [nsD_len, List.length_map, List.length_range]
          refine ⟨H0, n, A, rowI N a, rfl, mo, rfl, fun d4 mo4 => ?_⟩
          refine ⟨rfl, _, _, rfl, fun g H1 env t' => t' = 0 ∧ H1 = mat H0 n A (fun x => if x < g then rowI (N + 1) (onM N a) x else rowI N a x) ∧ ∃ (s14 : Sl), env = [.no, .fz (.obj p), .fz (houD n m), .fz (nD i), .fz (.obj d4), .fz (shD (setD n N a)), .fz (.lst (tlD (pcs n N a))), s7, s8, s9, s10, .no, s12, .fz (nD N), s14], ⟨rfl, mat_eq mo.inj (fun i hi => (if_neg (Nat.not_lt_zero i)).symm), s14, rfl⟩, fun g d H1 env t' hx hP => ?_, fun H1 env t' hP => ?_⟩
          · obtain ⟨rfl, rfl, s14, rfl⟩ := hP
            unfold objD at hx
            rw [List.getElem?_map] at hx
            obtain ⟨g1, hg1, rfl⟩ := Option.map_eq_some_iff.mp hx
            have hg : g < n := by have := (List.getElem?_eq_some_iff.mp hg1).1; rwa [List.length_range] at this
            rw [List.getElem?_range hg] at hg1
            cases hg1
            refine ⟨_, rfl, ⟨g, _, A g, matAt mo4 hg, rfl⟩, _, rfl, H0, n, A, _, g, rfl, mo4, rfl, hg, _, rfl, ?_, rowI (N + 1) (onM N a) g, ?_, rfl, ?_, .fz (.obj (A g)), rfl⟩
            · rw [if_neg (Nat.lt_irrefl g), List.length_map, rowI_len]
              omega
            · rw [if_neg (Nat.lt_irrefl g), rowI_on, List.map_append]
              rfl
            · refine mat_eq mo.inj fun i hi => ?_
              show (if i = g then _ else if i < g then _ else _) = if i < g + 1 then _ else _
              by_cases z : i = g
              · subst z
                rw [if_pos rfl, if_pos (Nat.lt_succ_self i)]
              · rw [if_neg z]
                by_cases w : i < g
                · rw [if_pos w, if_pos (by omega)]
                · rw [if_neg w, if_neg (by omega)]
          · obtain ⟨rfl, rfl, s14, rfl⟩ := hP
            have hol : (objD n A).length = n := by unfold objD; rw [List.length_map, List.length_range]
            have eM : mat H0 n A (fun x => if x < (objD n A).length then rowI (N + 1) (onM N a) x else rowI N a x) = mat H0 n A (rowI (N + 1) (onM N a)) := mat_eq mo.inj fun i hi => if_pos (by rw [hol]; exact hi)
            rw [eM]
            refine ⟨rfl, ⟨_, rfl⟩, ?_⟩
            have rS1 : Dt.lst (rowsDt n (rowI (N + 1) (onM N a))) = setD n (N + 1) (onM N a) := rowsDt_set n (N + 1) (onM N a)
            have hA1 := act_on hA
            have hp1 : rpS (.lst (tlD (pcs n (N + 1) (onM N a)))) := (sm_pcs hA1 (by omega)).rp (by decide) (by decide) (by decide) (by decide)
            refine ⟨H0, n, A, rowI (N + 1) (onM N a), rfl, mo, rfl, ?_⟩
            rw [rS1]
            refine ⟨_, rfl, n, m, N + 1, onM N a, rfl, hH, hn, hA1, by omega, _, rfl, hp1, ?_⟩
            have eC : tlD (pcs n N a) ++ [.lst [nD N]] = tlD (pcs n (N + 1) (onM N a)) := by
              rw [pcs_on hp0 hA]
              unfold tlD
              rw [List.map_append]
              rfl
            have hpl : (tlD (pcs n N a)).length ≤ N := by rw [tlD_len]; unfold pcs; rw [List.length_map]; exact hfl
            refine ⟨rfl, _, rfl, _, rfl, (by show 1 ≤ 5000; decide), _, rfl, (by show 1 ≤ 5000; decide), _, rfl, _, _, rfl, rfl, (by show _ + 1 ≤ 5000; omega), ?_⟩
            rw [eC]
            have hr1 : rpS (setD n (N + 1) (onM N a)) := (sm_set hn hA1 (by omega)).rp (by decide) (by decide) (by decide) (by decide)
            have hrg : rngD 0 (((n : Nat) : Int) - 0).toNat = nsD (List.range n) := by
              rw [Int.sub_zero, Int.toNat_natCast]
              unfold rngD nsD
              exact List.map_congr_left fun i _ => by show Dt.int (0 + (i : Int)) = Dt.int (i : Int); rw [Int.zero_add]
            have hrt : rpS (.tup (nsD (List.range n))) := (sm_nt (e := 4) (c := 60) (fun g hg => by
              have := List.mem_range.mp hg
              show g < 10000
              omega) (by rw [List.length_range]; exact hn)).rp (by decide) (by decide) (by decide) (by decide)
            have hsl1 : ((List.range n).map fun g => rowD (N + 1) fun x => onM N a x g).length = n := by rw [List.length_map, List.length_range]
            refine ⟨_, rfl, _, rfl, hp1, rfl, dNe_sh ⟨_, rfl, rfl, iteB (fun e => by cases e) (fun _ => ?_)⟩⟩
            refine ⟨H0, n, A, rowI (N + 1) (onM N a), rfl, mo, rfl, ?_⟩
            rw [rS1]
            refine ⟨_, rfl, _, rfl, n, m, N + 1, onM N a, N, rfl, hH, hn, hA1, by omega, _, rfl, by rw [hld_new]; exact hrt, rfl, ?_⟩
            rw [hld_new]
            refine ⟨⟨_, .inl rfl⟩, _, .inl rfl, _, .inl rfl, rfl, ?_⟩
            rw [hsl1]
            refine ⟨_, rfl, ⟨by omega, by omega, by omega, by omega⟩, ?_⟩
            rw [hrg]
            refine ⟨_, rfl, hrt, rfl, dNe_sh ⟨_, rfl, rfl, iteB (fun e => by cases e) (fun _ => ?_)⟩⟩
            refine ⟨H0, n, A, rowI (N + 1) (onM N a), rfl, mo, rfl, fun d5 mo5 => ?_⟩
            refine ⟨rfl, _, _, rfl, fun g H1 env t' => t' = 0 ∧ H1 = mat H0 n A (fun x => if x < g then rowI N a x else rowI (N + 1) (onM N a) x) ∧ ∃ (s14 : Sl), env = [.no, .fz (.obj p), .fz (houD n m), .fz (nD i), .fz (.obj d5), .fz (shD (setD n N a)), .fz (.lst (tlD (pcs n N a))), s7, s8, s9, s10, .no, s12, .fz (nD N), s14], ⟨rfl, mat_eq mo.inj (fun i hi => (if_neg (Nat.not_lt_zero i)).symm), s14, rfl⟩, fun g d H1 env t' hx hP => ?_, fun H1 env t' hP => ?_⟩
            · obtain ⟨rfl, rfl, s14, rfl⟩ := hP
              unfold objD at hx
              rw [List.getElem?_map] at hx
              obtain ⟨g1, hg1, rfl⟩ := Option.map_eq_some_iff.mp hx
              have hg : g < n := by have := (List.getElem?_eq_some_iff.mp hg1).1; rwa [List.length_range] at this
              rw [List.getElem?_range hg] at hg1
              cases hg1
              refine ⟨_, rfl, ⟨g, _, A g, matAt mo5 hg, rfl⟩, H0, n, A, _, g, rfl, mo5, rfl, hg, nD N, rfl, ?_, rowI N a g, ?_, rfl, ?_, .fz (.obj (A g)), rfl⟩
              · rw [if_neg (Nat.lt_irrefl g), rowI_on, List.map_append, List.length_append]
                show (_ ++ [nD N])[_ + 1 - 1]? = _
                rw [Nat.add_sub_cancel, List.getElem?_append_right (Nat.le_refl _), Nat.sub_self]
                rfl
              · rw [if_neg (Nat.lt_irrefl g), rowI_on, List.map_append]
                exact List.dropLast_concat
              · refine mat_eq mo.inj fun i hi => ?_
                show (if i = g then _ else if i < g then _ else _) = if i < g + 1 then _ else _
                by_cases z : i = g
                · subst z
                  rw [if_pos rfl, if_pos (Nat.lt_succ_self i)]
                · rw [if_neg z]
                  by_cases w : i < g
                  · rw [if_pos w, if_pos (by omega)]
                  · rw [if_neg w, if_neg (by omega)]
            · obtain ⟨rfl, rfl, s14, rfl⟩ := hP
              have eM2 : mat H0 n A (fun x => if x < (objD n A).length then rowI N a x else rowI (N + 1) (onM N a) x) = mat H0 n A (rowI N a) := mat_eq mo.inj fun i hi => if_pos (by rw [hol]; exact hi)
              rw [eM2]
              refine ⟨rfl, ⟨_, rfl⟩, ?_⟩
              refine ⟨H0, n, A, rowI N a, rfl, mo, rfl, ?_⟩
              rw [rS]
              refine ⟨_, rfl, n, m, N, a, rfl, hH, hn, hA, by omega, _, rfl, hpr, rfl, ⟨_, .inl rfl⟩, _, .inl rfl, _, rfl, hpr, rfl, dNe_sh ⟨_, rfl, rfl, iteB (fun e => by cases e) (fun _ => ?_)⟩⟩
              refine ⟨H0, n, A, rowI N a, rfl, mo, rfl, ?_⟩
              rw [rS]
              exact ⟨⟨_, .inl rfl⟩, _, .inl rfl, _, rfl, hst, rfl, _, rfl, dNe_sh ⟨_, rfl, rfl, iteB (fun e => by cases e) (fun _ => ⟨rfl, mo.up, _, _, _, _, _, _, _, _, _, _, _, rfl⟩)⟩⟩
    · obtain ⟨rfl, hU, s3, s4, s5, s6, s7, s8, s9, s10, s12, s13, s14, rfl⟩ := hP
      refine ⟨_, rfl, _, rfl, lc_map (i := 11) (fun _ => .lst []) (.head _) (noOw1 (s := .no) rfl no_ow) (by rw [hlh]; omega) (fun j x hx R hR => ⟨Nat.zero_le _, _, rfl, hR⟩) ?_⟩
      refine ⟨_, rfl, n, m, 0, fun _ _ => 0, ?_, hH, hn, act_none, by omega, Nat.zero_le _, _, rfl, ?_⟩
      · rw [hlh]
        rfl
      · have e0 : tlD (pcs n 0 fun _ _ => 0) = [] := rfl
        rw [e0]
        refine dEqD_pl rfl rfl (by decide) (by decide) fun b hb => ?_
        rw [hb.mpr rfl]
        exact ⟨rfl, hU, rfl⟩
end
end K35
namespace K35
open PySem PySem.Spec PyProof.Rows L2 HM VL
theorem all_mk {l : PySem.W.OpenLaw} {w : World} {K : PySem.W.Frag} {h : Heap} {mg : Str → Option Value} {fa f1 f2 f4 f5 f6 f7 f8 f9 f10 f11 f12 f13 f14 f15 f16 f17 f18 f19 f20 c2 Pt2 : Addr}
    {oc1 kV1 dc1 pm1 ct1 oc2 kV2 dc2 pm2 ct2 oc4 kV4 dc4 pm4 ct4 oc5 kV5 dc5 pm5 ct5 oc6 kV6 dc6 pm6 ct6 oc7 kV7 dc7 pm7 ct7 oc8 kV8 dc8 pm8 ct8 oc9 kV9 dc9 pm9 ct9 oc10 kV10 dc10 pm10 ct10 oc11 kV11 dc11 pm11 ct11 oc12 kV12 dc12 pm12 ct12 oc13 kV13 dc13 pm13 ct13 oc14 kV14 dc14 pm14 ct14 oc15 kV15 dc15 pm15 ct15 oc16 kV16 dc16 pm16 ct16 oc17 kV17 dc17 pm17 ct17 oc18 kV18 dc18 pm18 ct18 oc19 kV19 dc19 pm19 ct19 oc20 kV20 dc20 pm20 ct20 cd1 cd4 cd5 cd6 cd7 cd8 cd9 cd10 cd11 cd12 cd13 cd14 cd15 cd16 cd17 cd18 cd19 cd20 e2 : Value}
    {od1 an1 od2 an2 od4 an4 od5 an5 od6 an6 od7 an7 od8 an8 od9 an9 od10 an10 od11 an11 od12 an12 od13 an13 od14 an14 od15 an15 od16 an16 od17 an17 od18 an18 od19 an19 od20 an20 dd2 : Option Addr} {sl1 sl2 sl4 sl5 sl6 sl7 sl8 sl9 sl10 sl11 sl12 sl13 sl14 sl15 sl16 sl17 sl18 sl19 sl20 sc2 : Array (Option Value)} {vs2 : Array Value}
    (X : K.In h) (G : h.Ns mainGlobals mg) (hfa : mg "law" = some (.ref fa)) (tabs : ∀ g ∈ (["holder"] : List Str), ∃ c Pt, TabOf mg h g c Pt)
    (D1 : DefAt K "pieces" s_pieces f1 oc1 od1 kV1 dc1 pm1 an1 cd1 ct1 sl1)
    (D2 : DefAt K "holder" s_holder f2 oc2 od2 kV2 dc2 pm2 an2 (.ref c2) ct2 sl2)
    (D4 : DefAt K "_law_pen" s_l_pen f4 oc4 od4 kV4 dc4 pm4 an4 cd4 ct4 sl4)
    (D5 : DefAt K "_law_take" s_l_take f5 oc5 od5 kV5 dc5 pm5 an5 cd5 ct5 sl5)
    (D6 : DefAt K "_law_closed" s_l_closed f6 oc6 od6 kV6 dc6 pm6 an6 cd6 ct6 sl6)
    (D7 : DefAt K "_law_turn" s_l_turn f7 oc7 od7 kV7 dc7 pm7 an7 cd7 ct7 sl7)
    (D8 : DefAt K "_law_drawn_group" s_l_drawn_group f8 oc8 od8 kV8 dc8 pm8 an8 cd8 ct8 sl8)
    (D9 : DefAt K "_law_great_group" s_l_great_group f9 oc9 od9 kV9 dc9 pm9 an9 cd9 ct9 sl9)
    (D10 : DefAt K "_law_house_by" s_l_house_by f10 oc10 od10 kV10 dc10 pm10 an10 cd10 ct10 sl10)
    (D11 : DefAt K "_law_rounds" s_l_rounds f11 oc11 od11 kV11 dc11 pm11 an11 cd11 ct11 sl11)
    (D12 : DefAt K "_law_eight" s_l_eight f12 oc12 od12 kV12 dc12 pm12 an12 cd12 ct12 sl12)
    (D13 : DefAt K "_law_both" s_l_both f13 oc13 od13 kV13 dc13 pm13 an13 cd13 ct13 sl13)
    (D14 : DefAt K "_law_anew" s_l_anew f14 oc14 od14 kV14 dc14 pm14 an14 cd14 ct14 sl14)
    (D15 : DefAt K "_law_house" s_l_house f15 oc15 od15 kV15 dc15 pm15 an15 cd15 ct15 sl15)
    (D16 : DefAt K "_law_part" s_l_part f16 oc16 od16 kV16 dc16 pm16 an16 cd16 ct16 sl16)
    (D17 : DefAt K "_law_shares" s_l_shares f17 oc17 od17 kV17 dc17 pm17 an17 cd17 ct17 sl17)
    (D18 : DefAt K "_law_set" s_l_set f18 oc18 od18 kV18 dc18 pm18 an18 cd18 ct18 sl18)
    (D19 : DefAt K "_law_pieces" s_l_pieces f19 oc19 od19 kV19 dc19 pm19 an19 cd19 ct19 sl19)
    (D20 : DefAt K "law" s_law f20 oc20 od20 kV20 dc20 pm20 an20 cd20 ct20 sl20)
    (T2 : TbAt K c2 Pt2 e2 dd2 vs2 sc2)
    (mz : ∀ x ∈ bn, PySem.W.nsIn K mainGlobals x = some none) :
    ∃ (fd : FuncData) (cs : List (Addr × Addr)) (sp : Sp), (∀ p ∈ cs, h.get? p.2 = some tabObj) ∧ (∀ p ∈ cs, K.lookup p.2 = none) ∧ (∀ p ∈ cs, PySem.W.CodeHd h p.1 p.2) ∧ (∀ (s : Shared) (u : Value), BindsTo s fd ⟨[u], []⟩ [("_law_script", u)]) ∧
      (∀ (H : Hp) (a : Addr) (ns : List Int), ns.length ≤ 63 → (∀ z ∈ ns, Builtin.Int.intBits z ≤ 1048576) → (∀ p ∈ cs, H p.2 = some (.tbl #[])) → Scr K H a ns → sp [.ref a] H (fun v _ => v = .bl true) fun _ _ _ => False) ∧
      ∀ base : Heap, K.In base → base.Ns mainGlobals mg → (∀ p ∈ cs, GxR.TabB base mg p.1 p.2) → PFn noRepr l.prog w K mg base CX0 17 fa fd ["_law_script"] sp := by
  have e := hfa.symm.trans (PySem.W.mg_of X G D20.a)
  cases e
  have tb2 := tab_got X G tabs (by decide) D2 T2
  have mn : ∀ x ∈ bn, mg x = none := fun x hx => PySem.W.mg_none_of X G (mz x hx)
  have g := fun {x : Str} {u : Value} (z : PySem.W.nsIn K mainGlobals x = some (some u)) => PySem.W.mg_of X G z
  have b1 := D1.fn.binds (ps := ["rows"]) fun _ _ _ _ _ _ us hl => match us, hl with | [_], _ => rfl
  have b2 := D2.fn.binds (ps := ["rows", "thing"]) fun _ _ _ _ _ _ us hl => match us, hl with | [_, _], _ => rfl
  have b4 := D4.fn.binds (ps := ["_law_script"]) fun _ _ _ _ _ _ us hl => match us, hl with | [_], _ => rfl
  have b5 := D5.fn.binds (ps := ["_law_pen_here", "_law_many"]) fun _ _ _ _ _ _ us hl => match us, hl with | [_, _], _ => rfl
  have b6 := D6.fn.binds (ps := ["_law_many", "_law_turns", "_law_most"]) fun _ _ _ _ _ _ us hl => match us, hl with | [_, _, _], _ => rfl
  have b7 := D7.fn.binds (ps := ["_law_pen_here", "_law_many"]) fun _ _ _ _ _ _ us hl => match us, hl with | [_, _], _ => rfl
  have b8 := D8.fn.binds (ps := ["_law_pen_here"]) fun _ _ _ _ _ _ us hl => match us, hl with | [_], _ => rfl
  have b9 := D9.fn.binds (ps := ["_law_which"]) fun _ _ _ _ _ _ us hl => match us, hl with | [_], _ => rfl
  have b10 := D10.fn.binds (ps := ["_law_group"]) fun _ _ _ _ _ _ us hl => match us, hl with | [_], _ => rfl
  have b11 := D11.fn.binds (ps := ["_law_pen_here"]) fun _ _ _ _ _ _ us hl => match us, hl with | [_], _ => rfl
  have b12 := D12.fn.binds (ps := []) fun _ _ _ _ _ _ us hl => match us, hl with | [], _ => rfl
  have b13 := D13.fn.binds (ps := ["_law_one", "_law_other"]) fun _ _ _ _ _ _ us hl => match us, hl with | [_, _], _ => rfl
  have b14 := D14.fn.binds (ps := ["_law_pen_here", "_law_house_here"]) fun _ _ _ _ _ _ us hl => match us, hl with | [_, _], _ => rfl
  have b15 := D15.fn.binds (ps := ["_law_pen_here"]) fun _ _ _ _ _ _ us hl => match us, hl with | [_], _ => rfl
  have b16 := D16.fn.binds (ps := ["_law_house_here", "_law_numbers"]) fun _ _ _ _ _ _ us hl => match us, hl with | [_, _], _ => rfl
  have b17 := D17.fn.binds (ps := ["_law_house_here", "_law_part_here"]) fun _ _ _ _ _ _ us hl => match us, hl with | [_, _], _ => rfl
  have b18 := D18.fn.binds (ps := ["_law_pen_here", "_law_house_here", "_law_room"]) fun _ _ _ _ _ _ us hl => match us, hl with | [_, _, _], _ => rfl
  have b19 := D19.fn.binds (ps := ["_law_rows"]) fun _ _ _ _ _ _ us hl => match us, hl with | [_], _ => rfl
  refine ⟨PySem.W.fnOf "law" "law" (defArgs s_law) (defBody s_law) (defScope s_law) .none kV20 dc20 pm20 an20 cd20 ct20, [(c2, Pt2)], (spLawT K [Pt2]), fun p hp => ?_, fun p hp => ?_, fun p hp => ?_, fun s u => .of_eq rfl, fun H a ns hl _ hH hS => ?_, fun base _ _ hB => ?_⟩
  · simp only [List.mem_cons, List.not_mem_nil, or_false] at hp
    rcases hp with rfl
    · exact tb2.1
  · simp only [List.mem_cons, List.not_mem_nil, or_false] at hp
    rcases hp with rfl
    · exact T2.n
  · simp only [List.mem_cons, List.not_mem_nil, or_false] at hp
    rcases hp with rfl
    · exact tb2.2
  · refine ⟨a, ns, rfl, hS, hl, fun P hP => ?_, fun _ => rfl⟩
    simp only [List.mem_cons, List.not_mem_nil, or_false] at hP
    have e := hP
    · rw [e]; exact ⟨#[], hH (c2, Pt2) (by simp), trivial⟩
  · have TB2 := hB (c2, Pt2) (by simp)
    exact ok_law (k := 0) (Ps := [Pt2]) D20.fn (ok_penB (k := 15) D4.fn mn) (g D4.a) D4.k b4 (fun PI => (ok_houseB (k := 11) D15.fn (ok_takeB (k := 14) PI D5.fn mn) (g D5.a) D5.k b5 (ok_houseby (k := 14) D10.fn mn) (g D10.a) D10.k b10 (ok_drawn (k := 12) D8.fn (ok_takeB (k := 13) PI D5.fn mn) (g D5.a) D5.k b5 (ok_turnB (k := 12) D7.fn (ok_takeB (k := 12) PI D5.fn mn) (g D5.a) D5.k b5 mn) (g D7.a) D7.k b7 (ok_closedB (k := 12) D6.fn mn) (g D6.a) D6.k b6 mn) (g D8.a) D8.k b8 (ok_rounds (k := 13) D11.fn (ok_takeB (k := 13) PI D5.fn mn) (g D5.a) D5.k b5 mn) (g D11.a) D11.k b11 (ok_anew (k := 12) D14.fn (ok_turnB (k := 12) D7.fn (ok_takeB (k := 12) PI D5.fn mn) (g D5.a) D5.k b5 mn) (g D7.a) D7.k b7 mn) (g D14.a) D14.k b14 (ok_both (k := 14) D13.fn mn) (g D13.a) D13.k b13 (ok_eight (k := 14) D12.fn mn) (g D12.a) D12.k b12 (ok_closedB (k := 13) D6.fn mn) (g D6.a) D6.k b6 (ok_great (k := 12) D9.fn (ok_closedB (k := 12) D6.fn mn) (g D6.a) D6.k b6 mn) (g D9.a) D9.k b9 mn)) (g D15.a) D15.k b15 (fun PI => (ok_set35 (k := 13) D18.fn (ok_takeB (k := 14) PI D5.fn mn) (g D5.a) D5.k b5 (ok_turnB (k := 13) D7.fn (ok_takeB (k := 13) PI D5.fn mn) (g D5.a) D5.k b5 mn) (g D7.a) D7.k b7 (ok_partB (k := 14) D16.fn mn) (g D16.a) D16.k b16 (ok_lshares (k := 14) D17.fn mn) (g D17.a) D17.k b17 mn)) (g D18.a) D18.k b18 (ok_lpiecesR (k := 15) D19.fn mn) (g D19.a) D19.k b19 (ok_pieces (k := 15) D1.fn mn) (g D1.a) D1.k b1 (ok_piecesR (k := 15) D1.fn mn) (fun TI => (ok_holder (k := 3) D2.fn rfl TB2 (TI _ (by simp)) mn)) (g D2.a) D2.k b2 mn
end K35
open PySem PySem.W PyProof.Rows
set_option maxHeartbeats 0 in
theorem PySem.Challenge.cw_heldmarks_k35_pieces_and_holders_holds : PySem.Challenge.rw_heldmarks_k35_pieces_and_holders.Holds := by
  w_on; o_law; k_head; (case hw => w_witness2)
  k_fill
  refine HM.walk_G (l := PySem.Challenge.rw_heldmarks_k35_pieces_and_holders) (n := 63) (k := 17) (x := "_law_script") ["holder"] rfl (by decide) rfl ⟨rfl, by decide, by decide⟩ (by decide +kernel) (fun w h Y => PySem.W.kIn_of Y) ?F
  case F =>
    intro w mg fa h Y KX G hmg tabs
    refine' K35.all_mk KX G hmg tabs ⟨?a1, ?l1, ?c1, ?k1⟩ ⟨?a2, ?l2, ?c2, ?k2⟩ ⟨?a4, ?l4, ?c4, ?k4⟩ ⟨?a5, ?l5, ?c5, ?k5⟩ ⟨?a6, ?l6, ?c6, ?k6⟩ ⟨?a7, ?l7, ?c7, ?k7⟩ ⟨?a8, ?l8, ?c8, ?k8⟩ ⟨?a9, ?l9, ?c9, ?k9⟩ ⟨?a10, ?l10, ?c10, ?k10⟩ ⟨?a11, ?l11, ?c11, ?k11⟩ ⟨?a12, ?l12, ?c12, ?k12⟩ ⟨?a13, ?l13, ?c13, ?k13⟩ ⟨?a14, ?l14, ?c14, ?k14⟩ ⟨?a15, ?l15, ?c15, ?k15⟩ ⟨?a16, ?l16, ?c16, ?k16⟩ ⟨?a17, ?l17, ?c17, ?k17⟩ ⟨?a18, ?l18, ?c18, ?k18⟩ ⟨?a19, ?l19, ?c19, ?k19⟩ ⟨?a20, ?l20, ?c20, ?k20⟩ ⟨?tl2, ?tp2, ?tn2⟩ ?mz
    (case a1 => k_is); (case l1 => k_is); (case c1 => k_is); (case k1 => k_is)
    (case a2 => k_is); (case l2 => k_is); (case c2 => k_is); (case k2 => k_is)
    (case a4 => k_is); (case l4 => k_is); (case c4 => k_is); (case k4 => k_is)
    (case a5 => k_is); (case l5 => k_is); (case c5 => k_is); (case k5 => k_is)
    (case a6 => k_is); (case l6 => k_is); (case c6 => k_is); (case k6 => k_is)
    (case a7 => k_is); (case l7 => k_is); (case c7 => k_is); (case k7 => k_is)
    (case a8 => k_is); (case l8 => k_is); (case c8 => k_is); (case k8 => k_is)
    (case a9 => k_is); (case l9 => k_is); (case c9 => k_is); (case k9 => k_is)
    (case a10 => k_is); (case l10 => k_is); (case c10 => k_is); (case k10 => k_is)
    (case a11 => k_is); (case l11 => k_is); (case c11 => k_is); (case k11 => k_is)
    (case a12 => k_is); (case l12 => k_is); (case c12 => k_is); (case k12 => k_is)
    (case a13 => k_is); (case l13 => k_is); (case c13 => k_is); (case k13 => k_is)
    (case a14 => k_is); (case l14 => k_is); (case c14 => k_is); (case k14 => k_is)
    (case a15 => k_is); (case l15 => k_is); (case c15 => k_is); (case k15 => k_is)
    (case a16 => k_is); (case l16 => k_is); (case c16 => k_is); (case k16 => k_is)
    (case a17 => k_is); (case l17 => k_is); (case c17 => k_is); (case k17 => k_is)
    (case a18 => k_is); (case l18 => k_is); (case c18 => k_is); (case k18 => k_is)
    (case a19 => k_is); (case l19 => k_is); (case c19 => k_is); (case k19 => k_is)
    (case a20 => k_is); (case l20 => k_is); (case c20 => k_is); (case k20 => k_is)
    (case tl2 => k_is); (case tp2 => rfl); (case tn2 => first | rfl | decide | with_unfolding_all rfl)
    (case mz =>
      intro x hx
      repeat (rcases List.mem_cons.mp hx with rfl | hx; · k_is)
      cases hx)
