import PyProof.Rows.All
import Wide.All
import OpenK.AllK
import Wide.FinOn
import HandS.ForMost
import HandS.IsInst
import HandS.Wide
import HandS.Conv
import HandS.AnyAll
import HandS.EndTab
import HandS.Flow
import HandS.SetFor
import HandS.Zip
import PyProof.TupleOfGen
import HandS.ExcInit
import HandS.ExcIs
import HandS.ExcField
import HandS.ExcOwn
import HandS.ExcValue
import HandS.FStr
import KE.KExcSuper
import KE.KSuper
import KE.KExcIs
import HandS.TupAny
import HandS.Style
import KE.KDictZip
import KE.GoesEnum
import KE.GoesMore
import HandS.Walk
import HandS.More
import HandS.FStrTup
import PyProof.Rows.ReprOcc
import HandS.TupSets
import HandS.SetIn
import KE.GoesSet
import HandS.Strs
import HandS.TupLen
import KE.KDictWalk
import HandS.GenList
import HandS.SortInts
import KE.KDictList
import HandS.SetKeys
import PySem.Challenge.RW_heldmarks_k15_shares_told
set_option Elab.async false
set_option linter.all false
set_option maxRecDepth 100000
set_option maxHeartbeats 8000000
namespace HM
open PySem PySem.Spec PyProof.Rows L2

/-! ### plain calls: expressions that keep every object -/
abbrev Grows (h h' : Heap) : Prop := ∀ b o, h.get? b = some o → h'.get? b = some o
theorem kp_refl (s : Shared) : Keeps s s := ⟨s.heap, s.toks, rfl, fun _ _ e => e⟩
theorem kp_tok (s : Shared) (k : Nat) : Keeps s { s with toks := k } := ⟨s.heap, k, rfl, fun _ _ e => e⟩
theorem kp_trans {a b c : Shared} (x : Keeps a b) (y : Keeps b c) : Keeps a c := by
  obtain ⟨h1, t1, rfl, k1⟩ := x
  obtain ⟨h2, t2, rfl, k2⟩ := y
  exact ⟨h2, t2, rfl, fun q o e => k2 q o (k1 q o e)⟩
theorem kp_grows {a b : Shared} (x : Keeps a b) : Grows a.heap b.heap := by
  obtain ⟨h1, t1, rfl, k1⟩ := x
  exact k1
def Firm (S : Heap → Prop) : Prop := ∀ h h', S h → Grows h h' → S h'
theorem mod_up {K : PySem.W.Frag} {mg : Str → Option Value} {h h' : Heap} (m : L2.Mod K mg h) (k : Grows h h') : L2.Mod K mg h' :=
  ⟨m.kin.keeps k, m.glob.keeps k, let ⟨mb, h1, h2⟩ := m.blt; ⟨mb, h1.keeps k, h2⟩, m.nolimit.keeps k⟩

/-- e gives a value with R wherever S holds of the heap; all objects are kept -/
def RX (prog : Program) (w : World) (A : Around) (env : Env) (S : Heap → Prop) (e : Expr) (R : Value → Prop) : Prop :=
  ∀ (E : Value → Shared → Prop) (s : Shared), S s.heap → wpAny (model prog w) A (eval e env) (fun y s' => R y ∧ Keeps s s') E s
section
variable {prog : Program} {w : World} {A : Around} {env : Env} {S : Heap → Prop} {R R' : Value → Prop}
theorem rx_mono {e : Expr} (h : RX prog w A env S e R) (k : ∀ y, R y → R' y) : RX prog w A env S e R' := fun E s hs => thn (h E s hs) fun y s' q => ⟨k y q.1, q.2⟩
theorem rx_local {x : Str} {pos : Pos} {v : Value} (hk : env.scope.kind = .function) (hl : env.kindOf x = some .local) (hS : ∀ h, S h → ∃ m, h.Ns env.locals m ∧ m x = some v) (hd : (x == ("__debug__" : Str)) = false := by decide) :
    RX prog w A env S (.Name x pos) (fun y => y = v) := fun E s hs => by
  obtain ⟨m, hn, hv⟩ := hS _ hs
  exact wpAny_Name (wpAny_loadName_local hk hl hn hv ⟨rfl, kp_refl s⟩) hd
theorem rx_free {x : Str} {pos : Pos} {v : Value} {c : Addr} (hk : env.scope.kind = .function) (hl : env.kindOf x = some .free) (hc : env.cells.lookup x = some c) (hS : ∀ h, S h → h.IsCell c (some v))
    (hd : (x == ("__debug__" : Str)) = false := by decide) (hcd : (x == ("__classdict__" : Str)) = false := by decide) :
    RX prog w A env S (.Name x pos) (fun y => y = v) := fun E s hs =>
  wpAny_Name (wpAny_loadName_free hk hl hc (hS _ hs) ⟨rfl, kp_refl s⟩ hcd) hd
theorem rx_glob {K : PySem.W.Frag} {mg : Str → Option Value} {x : Str} {pos : Pos} {v : Value} (hk : env.scope.kind = .function) (hl : env.kindOf x = some .globalImplicit) (hgl : env.globals = mainGlobals) (hS : ∀ h, S h → L2.Mod K mg h)
    (hv : mg x = some v) (hd : (x == ("__debug__" : Str)) = false := by decide) : RX prog w A env S (.Name x pos) (fun y => y = v) := fun E s hs =>
  Calls.Name_function_global hk hl (Calls.loadGlobal_global (by rw [hgl]; exact (hS _ hs).glob) hv ⟨rfl, kp_refl s⟩) hd
theorem rx_blt {K : PySem.W.Frag} {mg : Str → Option Value} {x : Str} {pos : Pos} {v : Value} (hk : env.scope.kind = .function) (hl : env.kindOf x = some .globalImplicit) (hgl : env.globals = mainGlobals) (hbl : env.builtins = builtinsNs) (hS : ∀ h, S h → L2.Mod K mg h)
    (hm : mg x = none) (hv : bootBuiltins x = some v) (hn : x ≠ "__name__" := by decide) (hd : (x == ("__debug__" : Str)) = false := by decide) : RX prog w A env S (.Name x pos) (fun y => y = v) := fun E s hs => by
  obtain ⟨mb, h1, h2⟩ := (hS _ hs).blt
  exact Calls.Name_function_global hk hl (Calls.loadGlobal_builtin (by rw [hgl]; exact (hS _ hs).glob) hm (by rw [hbl]; exact h1) ((h2 x hn).trans hv) ⟨rfl, kp_refl s⟩) hd
theorem rx_int {i : Int} {j : Nat} {pos : Pos} : RX prog w A env S (.Constant (.int i) j pos) (fun y => ∃ t, y = .int i t) := fun E s hs => wpAny_Constant_int ⟨⟨_, rfl⟩, kp_tok s _⟩
theorem rx_one {op : BoolOp} {a : Expr} {pos : Pos} (h : RX prog w A env S a R) : RX prog w A env S (.BoolOp op [a] pos) R := fun E s hs => BoolOp_one (h E s hs)
theorem rx_and {a b : Expr} {rest : List Expr} {pos : Pos} {x y : Bool} (fm : Firm S) (ha : RX prog w A env S a (fun v => v = .bool x)) (hb : x = true → RX prog w A env S (.BoolOp .And (b :: rest) pos) (fun v => v = .bool y)) :
    RX prog w A env S (.BoolOp .And (a :: b :: rest) pos) (fun v => v = .bool (x && y)) := fun E s hs => by
  refine BoolOp_and (thn (ha E s hs) fun v s1 q => ?_)
  obtain ⟨rfl, k1⟩ := q
  refine wpAny_truthy_bool ?_
  cases x with
  | false => exact ⟨rfl, k1⟩
  | true => exact thn (hb rfl E s1 (fm _ _ hs (kp_grows k1))) fun v s2 q => ⟨q.1, kp_trans k1 q.2⟩
theorem rx_not {a : Expr} {pos : Pos} {x : Bool} (ha : RX prog w A env S a (fun v => v = .bool x)) : RX prog w A env S (.UnaryOp .Not a pos) (fun v => v = .bool (!x)) := fun E s hs => by
  refine UnaryOp_ (thn (ha E s hs) fun v s1 q => ?_)
  obtain ⟨rfl, k1⟩ := q
  exact not_of (wpAny_truthy_bool ⟨rfl, k1⟩)
/-- a <= b < c of ints -/
theorem rx_between {a b c : Expr} {pos : Pos} {i j k : Int} (fm : Firm S) (ha : RX prog w A env S a (fun v => ∃ t, v = .int i t)) (hb : RX prog w A env S b (fun v => ∃ t, v = .int j t)) (hc : RX prog w A env S c (fun v => ∃ t, v = .int k t))
    (hm : lastMarks [.LtE, .Lt] [b, c] = false := by with_unfolding_all rfl) : RX prog w A env S (.Compare a [.LtE, .Lt] [b, c] pos) (fun v => v = .bool (decide (i ≤ j) && decide (j < k))) := fun E s hs => by
  refine Compare_chain (thn (ha E s hs) fun v s1 q => chain_link (thn (hb E s1 (fm _ _ hs (kp_grows q.2))) fun u s2 q2 => ?_)) hm
  obtain ⟨⟨t, rfl⟩, k1⟩ := q
  obtain ⟨⟨t2, rfl⟩, k2⟩ := q2
  refine PyProof.Rows.le_int ?_
  refine wpAny_truthy_bool ?_
  by_cases hij : i ≤ j
  · rw [decide_eq_true hij]
    have hs2 := fm _ _ (fm _ _ hs (kp_grows k1)) (kp_grows k2)
    refine chain_last (thn (hc E s2 hs2) fun z s3 q3 => ?_)
    obtain ⟨⟨t3, rfl⟩, k3⟩ := q3
    exact PyProof.Rows.lt_int ⟨rfl, kp_trans k1 (kp_trans k2 k3)⟩
  · rw [decide_eq_false hij]
    exact ⟨rfl, kp_trans k1 k2⟩
/-- f(a, b), f a built-in -/
theorem rx_callB2 {x : Str} {p pos : Pos} {a b : Expr} {id : String} {Ra Rb : Value → Prop} (fm : Firm S) (hf : RX prog w A env S (.Name x p) (fun v => v = .builtin id)) (ha : RX prog w A env S a Ra) (hb : RX prog w A env S b Rb)
    (hc : ∀ (E : Value → Shared → Prop) (s : Shared) (u v : Value), S s.heap → Ra u → Rb v → wpAny (model prog w) A (call (.builtin id) [u, v]) (fun y s' => R y ∧ Keeps s s') E s)
    (he : starEach [a, b] env = (false, eval a env) :: starEach [b] env := by rfl) (he2 : starEach [b] env = (false, eval b env) :: starEach [] env := by rfl) (hpl : (backTo pos (starEach [b] env)).any (·.1) = false := by rfl) :
    RX prog w A env S (.Call (.Name x p) [a, b] [] pos) R := fun E s hs => by
  refine wpAny_Call_Name_kw (thn (hf E s hs) fun fv s0 q0 => ?_)
  obtain ⟨rfl, k0⟩ := q0
  refine PyProof.Rows.callWith_builtin1 ?_ he hpl
  rw [he]
  show wpAny _ _ (spliced ((false, eval a env) :: backTo pos (starEach [b] env))) _ _ s0
  have hs0 := fm _ _ hs (kp_grows k0)
  refine Calls.spliced_cons (thn (ha E s0 hs0) fun u s1 q1 => ?_)
  rw [he2]
  show wpAny _ _ (spliced ((false, eval b env) :: backTo pos (starEach [] env))) _ _ s1
  have hs1 := fm _ _ hs0 (kp_grows q1.2)
  refine Calls.spliced_cons (thn (hb E s1 hs1) fun v s2 q2 => ?_)
  refine Calls.spliced_nil ?_
  have hs2 := fm _ _ hs1 (kp_grows q2.2)
  exact thn (hc E s2 u v hs2 q1.1 q2.1) fun y s3 q3 => ⟨q3.1, kp_trans k0 (kp_trans q1.2 (kp_trans q2.2 q3.2))⟩
/-- f(a), f(a, b), f a def of the text -/
theorem rx_callD1 {K : PySem.W.Frag} {x : Str} {p pos : Pos} {a : Expr} {f : Addr} {Ra : Value → Prop} (fm : Firm S) (hK : ∀ h, S h → K.In h) (hkp : PySem.W.keepIn K (.ref f) = true) (hf : RX prog w A env S (.Name x p) (fun v => v = .ref f)) (ha : RX prog w A env S a Ra)
    (hc : ∀ (E : Value → Shared → Prop) (s : Shared) (u : Value), S s.heap → Ra u → wpAny (model prog w) A (call (.ref f) [u]) (fun y s' => R y ∧ Keeps s s') E s)
    (he : starEach [a] env = (false, eval a env) :: starEach [] env := by rfl) (hpl : (backTo pos (starEach [] env)).any (·.1) = false := by rfl) :
    RX prog w A env S (.Call (.Name x p) [a] [] pos) R := fun E s hs => by
  refine wpAny_Call_Name_kw (thn (hf E s hs) fun fv s0 q0 => ?_)
  obtain ⟨rfl, k0⟩ := q0
  have hs0 := fm _ _ hs (kp_grows k0)
  refine PySem.W.callWith_K (h₀ := s0.heap) (hK _ hs0) hkp ?_ he hpl
  rw [he]
  show wpAny _ _ (spliced ((false, eval a env) :: backTo pos (starEach [] env))) _ _ s0
  refine Calls.spliced_cons (thn (ha E s0 hs0) fun u s1 q1 => ?_)
  have hs1 := fm _ _ hs0 (kp_grows q1.2)
  refine Calls.spliced_nil ⟨hK _ hs1, ?_⟩
  exact thn (hc E s1 u hs1 q1.1) fun y s3 q3 => ⟨q3.1, kp_trans k0 (kp_trans q1.2 q3.2)⟩
theorem rx_callD2 {K : PySem.W.Frag} {x : Str} {p pos : Pos} {a b : Expr} {f : Addr} {Ra Rb : Value → Prop} (fm : Firm S) (hK : ∀ h, S h → K.In h) (hkp : PySem.W.keepIn K (.ref f) = true) (hf : RX prog w A env S (.Name x p) (fun v => v = .ref f)) (ha : RX prog w A env S a Ra) (hb : RX prog w A env S b Rb)
    (hc : ∀ (E : Value → Shared → Prop) (s : Shared) (u v : Value), S s.heap → Ra u → Rb v → wpAny (model prog w) A (call (.ref f) [u, v]) (fun y s' => R y ∧ Keeps s s') E s)
    (he : starEach [a, b] env = (false, eval a env) :: starEach [b] env := by rfl) (he2 : starEach [b] env = (false, eval b env) :: starEach [] env := by rfl) (hpl : (backTo pos (starEach [b] env)).any (·.1) = false := by rfl) :
    RX prog w A env S (.Call (.Name x p) [a, b] [] pos) R := fun E s hs => by
  refine wpAny_Call_Name_kw (thn (hf E s hs) fun fv s0 q0 => ?_)
  obtain ⟨rfl, k0⟩ := q0
  have hs0 := fm _ _ hs (kp_grows k0)
  refine PySem.W.callWith_K (h₀ := s0.heap) (hK _ hs0) hkp ?_ he hpl
  rw [he]
  show wpAny _ _ (spliced ((false, eval a env) :: backTo pos (starEach [b] env))) _ _ s0
  refine Calls.spliced_cons (thn (ha E s0 hs0) fun u s1 q1 => ?_)
  rw [he2]
  show wpAny _ _ (spliced ((false, eval b env) :: backTo pos (starEach [] env))) _ _ s1
  have hs1 := fm _ _ hs0 (kp_grows q1.2)
  refine Calls.spliced_cons (thn (hb E s1 hs1) fun v s2 q2 => ?_)
  have hs2 := fm _ _ hs1 (kp_grows q2.2)
  refine Calls.spliced_nil ⟨hK _ hs2, ?_⟩
  exact thn (hc E s2 u v hs2 q1.1 q2.1) fun y s3 q3 => ⟨q3.1, kp_trans k0 (kp_trans q1.2 (kp_trans q2.2 q3.2))⟩
end

/-! ### kinds of raw values -/
inductive RTy (h : Heap) : Value → String → Prop
  | non : RTy h .none "NoneType"
  | bl (b : Bool) : RTy h (.bool b) "bool"
  | int (i : Int) (t : Tok) : RTy h (.int i t) "int"
  | str (x : Str) (t : Tok) : RTy h (.str x t) "str"
  | lst {a : Addr} {o : Obj} (e : h.get? a = some o) (c : o.cls = .type "list") : RTy h (.ref a) "list"
  | tup {a : Addr} {o : Obj} (e : h.get? a = some o) (c : o.cls = .type "tuple") : RTy h (.ref a) "tuple"
  | dct {a : Addr} {o : Obj} (e : h.get? a = some o) (c : o.cls = .type "dict") : RTy h (.ref a) "dict"
theorem RTy.up {h h' : Heap} {u : Value} {T : String} (r : RTy h u T) (k : Grows h h') : RTy h' u T := by
  cases r with
  | non => exact .non
  | bl b => exact .bl b
  | int i t => exact .int i t
  | str x t => exact .str x t
  | lst e c => exact .lst (k _ _ e) c
  | tup e c => exact .tup (k _ _ e) c
  | dct e c => exact .dct (k _ _ e) c
theorem RTy.kit {K : PySem.W.Frag} {h : Heap} {u : Value} {T : String} (r : RTy h u T) : ∃ Pz : Heap → Prop, PySem.W.KitX K u (.type T) Pz ∧ Pz h ∧ u ≠ .builtin "__main__.__loader__#opaque" := by
  cases r with
  | non => exact ⟨_, PySem.W.kitx_none, True.intro, fun z => nomatch z⟩
  | bl b => exact ⟨_, PySem.W.kitx_bool, True.intro, fun z => nomatch z⟩
  | int i t => exact ⟨_, PySem.W.kitx_int, True.intro, fun z => nomatch z⟩
  | str x t => exact ⟨_, PySem.W.kitx_str, True.intro, fun z => nomatch z⟩
  | lst e c => exact ⟨_, PySem.W.kitx_list, ⟨_, e, c⟩, fun z => nomatch z⟩
  | tup e c => exact ⟨_, PySem.W.kitx_tuple, ⟨_, e, c⟩, fun z => nomatch z⟩
  | dct e c => exact ⟨_, PySem.W.kitx_dict, ⟨_, e, c⟩, fun z => nomatch z⟩
/-- isinstance(x, C) -/
theorem raw_isi {prog : Program} {w : World} {A : Around} {E : Value → Shared → Prop} {s : Shared} {K : PySem.W.Frag} {u : Value} {T C : String} {b : Bool} (hK : K.In s.heap) (r : RTy s.heap u T) (hb : kitB T C = some b) :
    wpAny (model prog w) A (call (.builtin "isinstance") [u, .type C]) (fun y s' => y = .bool b ∧ Keeps s s') E s := by
  obtain ⟨Pz, Z, p, hx⟩ := r.kit (K := K)
  exact PySem.W.kia_one Z hK p (kit_ty hb) hx fun tk => ⟨rfl, kp_tok s tk⟩
end HM
namespace HM
open PySem PySem.Spec PyProof.Rows L2
/-- an int that is no truth -/
def isW : Value → Bool
  | .int _ _ => true
  | _ => false
def isNum (n : Int) : Value → Bool
  | .int i _ => decide (0 ≤ i) && decide (i < n)
  | _ => false
/-- within a def that was called at h0, its names at L -/
def FrS (K : PySem.W.Frag) (mg : Str → Option Value) (h0 : Heap) (L : Addr) (bs : List (Str × Value)) : Heap → Prop := fun h => L2.Mod K mg h ∧ Grows h0 h ∧ h.Ns L (fun y => bs.reverse.lookup y)
theorem frs_firm {K : PySem.W.Frag} {mg : Str → Option Value} {h0 : Heap} {L : Addr} {bs : List (Str × Value)} : Firm (FrS K mg h0 L bs) := fun h h' hs k => ⟨mod_up hs.1 k, fun b o e => k _ _ (hs.2.1 b o e), hs.2.2.keeps k⟩
/-- what a def with one return does, at the level of the heap -/
theorem raw_def {P : Program} {w : World} {K : PySem.W.Frag} {mg : Str → Option Value} {x qual : Str} {st : Stmt} {f : Addr} {fd : FuncData} {A : Around} {E : Value → Shared → Prop} {s : Shared} {us : List Value} {ps : List Str} {e : Expr} {pos : Pos} {R : Value → Prop}
    (F : Fun K x qual st f fd) (M : L2.Mod K mg s.heap) (hroom : A.depth < recursionLimit) (hb : defBody st = [.Return (some e) pos])
    (hbind : ∀ (kV doc pm : Value) (an : Option Addr) (cdv ct : Value), bindArgs (PySem.W.fnOf x qual (defArgs st) (defBody st) (defScope st) .none kV doc pm an cdv ct) ⟨us, []⟩ = pure (ps.zip us))
    (hcell : ∀ y ∈ (defScope st).names, y.2 ≠ .cell) (hloc : ∀ y ∈ ps, (defScope st).names.lookup y = some .local) (hco : (defScope st).isCoroutine = false) (hgen : (defScope st).isGenerator = false) (hk : (defScope st).kind = .function)
    (h : ∀ (env : Env) (L : Addr), env.scope = defScope st → env.globals = mainGlobals → env.builtins = builtinsNs → env.locals = L → RX P w (A.deeper env) env (FrS K mg s.heap L (ps.zip us)) e R) :
    wpAny (model P w) A (call (.ref f) us) (fun y s' => R y ∧ Keeps s s') E s := by
  obtain ⟨oc, od, kV, doc, pm, an, cdv, ct, osl, rfl, lk, hcd⟩ := F.ex
  have hb2 : (PySem.W.fnOf x qual (defArgs st) (defBody st) (defScope st) .none kV doc pm an cdv ct).body = .stmts [.Return (some e) pos] := by rw [← hb]
  refine wpAny_call (codeAny_call_straight hroom (M.kin _ _ lk) rfl M.nolimit (PySem.W.codeRec_of M.kin hcd) hb2 (hbind _ _ _ _ _ _) hcell (fun y hy => hloc _ (List.of_mem_zip hy).1) (fun s1 I => ?_) hco hgen hk)
  obtain ⟨h1, tk, rfl, k1⟩ := I.done
  refine wpAny_execs_cons (wpAny_Return_some ?_)
  refine thn (h _ s.heap.objs.size rfl rfl rfl rfl _ _ ⟨mod_up M k1, k1, I.ns⟩) fun y s2 q => ?_
  exact ⟨q.1, kp_trans ⟨h1, tk, rfl, k1⟩ q.2⟩
/-- a parameter within such a def -/
theorem rx_par {P : Program} {w : World} {A : Around} {env : Env} {K : PySem.W.Frag} {mg : Str → Option Value} {h0 : Heap} {L : Addr} {bs : List (Str × Value)} {x : Str} {p : Pos} {v : Value} {st : Stmt} (e1 : env.scope = defScope st) (e4 : env.locals = L)
    (hk : (defScope st).kind = .function) (hl : (defScope st).names.lookup x = some .local) (hv : bs.reverse.lookup x = some v) (hd : (x == ("__debug__" : Str)) = false := by decide) : RX P w A env (FrS K mg h0 L bs) (.Name x p) (fun y => y = v) :=
  rx_local (by rw [e1]; exact hk) (by show env.scope.names.lookup _ = _; rw [e1]; exact hl) (fun h hs => ⟨_, by rw [e4]; exact hs.2.2, hv⟩) hd
theorem rx_bn {P : Program} {w : World} {A : Around} {env : Env} {K : PySem.W.Frag} {mg : Str → Option Value} {h0 : Heap} {L : Addr} {bs : List (Str × Value)} {x : Str} {p : Pos} {v : Value} {st : Stmt} (e1 : env.scope = defScope st) (e2 : env.globals = mainGlobals) (e3 : env.builtins = builtinsNs)
    (hk : (defScope st).kind = .function) (hl : (defScope st).names.lookup x = some .globalImplicit) (hm : mg x = none) (hv : bootBuiltins x = some v) (hn : x ≠ "__name__" := by decide) (hd : (x == ("__debug__" : Str)) = false := by decide) : RX P w A env (FrS K mg h0 L bs) (.Name x p) (fun y => y = v) :=
  rx_blt (by rw [e1]; exact hk) (by show env.scope.names.lookup _ = _; rw [e1]; exact hl) e2 e3 (fun h hs => hs.1) hm hv hn hd
theorem rx_gn {P : Program} {w : World} {A : Around} {env : Env} {K : PySem.W.Frag} {mg : Str → Option Value} {h0 : Heap} {L : Addr} {bs : List (Str × Value)} {x : Str} {p : Pos} {v : Value} {st : Stmt} (e1 : env.scope = defScope st) (e2 : env.globals = mainGlobals)
    (hk : (defScope st).kind = .function) (hl : (defScope st).names.lookup x = some .globalImplicit) (hm : mg x = some v) (hd : (x == ("__debug__" : Str)) = false := by decide) : RX P w A env (FrS K mg h0 L bs) (.Name x p) (fun y => y = v) :=
  rx_glob (by rw [e1]; exact hk) (by show env.scope.names.lookup _ = _; rw [e1]; exact hl) e2 (fun h hs => hs.1) hm hd
end HM
namespace HM
open PySem PySem.Spec PyProof.Rows L2
/-- kept but for what stands at P -/
def GrowsBut (P : Addr) (h h' : Heap) : Prop := ∀ b o, b ≠ P → h.get? b = some o → h'.get? b = some o
section
variable {X : Cx} {pins : List (Addr × Obj)} {σ : L2.St} {H : Hp} {s : Shared}
/-- the walk of xv begins in s1: a new object o -/
structure Beg (X : Cx) (P : Addr) (s1 : Shared) (xv : Value) (its : List Value) (o : Obj) (fp : List Addr) (St : Nat → Heap → Prop) : Prop where
  beg : ∀ (E : Value → Shared → Prop) (Q : Value → Shared → Prop), Q (.ref s1.heap.objs.size) { s1 with heap := s1.heap.push o } → wpAny (model X.prog X.w) X.A (pyIter xv) Q E s1
  walk : ∀ A' : Around, A'.handled = none → Walks X.prog X.w A' s1.heap.objs.size fp [s1.heap.objs.size] its.length (fun i v => its[i]? = some v) St
  st0 : ∀ h3 : Heap, GrowsBut P (s1.heap.push o) h3 → St 0 h3
  fpl : ∀ b ∈ fp, b ≤ s1.heap.objs.size
/-- the generator g, n items with F, ready to be walked -/
def ReadyG (X : Cx) (pins : List (Addr × Obj)) (σ : L2.St) (H1 : Hp) (P : Addr) (n : Nat) (F : Nat → Value → Prop) (g : Addr) (s5 : Shared) : Prop :=
  ∃ (fp wr : List Addr) (G : Array GenState → Array GenState → Prop) (Fv : Nat → Value → Prop) (St : Nat → Shared → Prop),
    WalksS X.prog X.w X.A.in4 g fp wr G n Fv St ∧ St 0 s5 ∧ (∀ b ∈ fp, b < s5.heap.objs.size) ∧ g ∈ fp ∧ (∀ i s9, St i s9 → s9.TypeIs (.ref g) "generator") ∧ (∀ j v, Fv j v → j < n ∧ F j v) ∧
    ∀ s', Moved wr G s5 s' → ∃ H2, GxR.Tabbed P H1 H2 ∧ Inv X pins σ H2 s'
/-- what the element is to do -/
def EltG (X : Cx) (P : Addr) (s1 : Shared) (scope : Scope) (x : Str) (elt : Expr) (its : List Value) (F : Nat → Value → Prop) : Prop :=
  ∀ (A' : Around) (cenv : Env) (i : Nat) (v : Value), A'.handled = none → A'.depth ≤ X.A.depth + 1 → A'.units ≤ X.A.units + 8 → cenv.scope = scope → cenv.globals = mainGlobals → cenv.builtins = builtinsNs →
    cenv.cells = cloFrom X.env.cells scope.names [] → its[i]? = some v → RX X.prog X.w A' cenv (fun h => GrowsBut P s1.heap h ∧ ∃ m, h.Ns cenv.locals m ∧ m x = some v) elt (F i)
theorem gen_any {c P : Addr} {elt iter : Expr} {x : Str} {px gpos : Pos} {scope : Scope} {te : TE} {k : Nat} {Q' : Value → Shared → Prop} {Rr : V → Hp → Prop}
    (hr : Room k X.A) (TB : GxR.TabB X.base X.mg c P) (hcode : X.env.code = .ref c) (Sc : GxR.GenS X.env scope x) (hi : PE X iter te) (hs : ∀ v, genFold iter X.env v = pure v) (I : Inv X pins σ H s)
    (h : te σ H fun v H1 => GxR.TabG H1 P ∧ Rr v H1)
    (hu : ∀ (v : V) (H1 : Hp) (s1 : Shared) (xv : Value), Inv X pins σ H1 s1 → RelV v xv → GxR.TabG H1 P → Rr v H1 → ∃ (its : List Value) (o : Obj) (fp : List Addr) (St : Nat → Heap → Prop) (F : Nat → Value → Prop),
      Beg X P s1 xv its o fp St ∧ EltG X P s1 scope x elt its F ∧ ∀ g s5, ReadyG X pins σ H1 P its.length F g s5 → Q' (.ref g) s5) :
    wpAny (model X.prog X.w) X.A (eval (.GeneratorExp elt [⟨.Name x px, iter, [], 0⟩] scope gpos) X.env) Q' X.xe s := by
  refine wpAny_GeneratorExp_walksQD hr.hd Sc.co (closure_ok Sc.free) Sc.cell Sc.dot Sc.loc Sc.kind (by have := hr.dp; omega) ?_ hs
  refine thn (hi.run pins s σ H _ I h) fun xv s1 hx1 => ?_
  obtain ⟨v, H1, I1, r1, tg, q1⟩ := hx1
  obtain ⟨its, o, fp, St, F, B, hel, hQ⟩ := hu v H1 s1 xv I1 r1 tg q1
  obtain ⟨ps, hP, ht⟩ := tg
  refine B.beg _ _ ?_
  have hPs : s1.heap.get? P = some { cls := .none, data := .fields ps } := I1.hok P _ hP
  have hPlt : P < s1.heap.objs.size := Heap.lt_size hPs
  have up : Grows s1.heap (s1.heap.push o) := fun b u e => Heap.get?_push_of_some _ e
  have hP2 := up _ _ hPs
  have cd : PySem.W.CodeHd (s1.heap.push o) c P := TB.code.keeps fun b u e => up _ _ (I1.bk b u e)
  have lim2 : (s1.heap.push o).NoLimit := I1.nolimit.push o
  have sz2 : (s1.heap.push o).objs.size = s1.heap.objs.size + 1 := Heap.size_push ..
  have hclt : cStatics < s1.heap.objs.size := let ⟨_, hns, _⟩ := I1.nolimit; hns.lt
  have hcP : cStatics ≠ P := fun e => by
    obtain ⟨_, ⟨o', es, ep, ho, hd, _⟩, _⟩ := I1.nolimit
    rw [e, hPs] at ho
    cases ho
    cases hd
  refine ⟨lim2, ?_⟩
  -- whatever code object the generator gets
  have key : ∀ (code : Value) (h3 : Heap) (tk : Nat) (more : Array Value), Heap.ExtBut P (s1.heap.push o) h3 → (s1.heap.push o).objs.size ≤ h3.objs.size → h3.get? P = some { cls := .none, data := .fields (ps ++ more) } → TriplesOk (ps ++ more).toList →
      wpAny (model X.prog X.w) X.A (builtinsFor X.env.globals X.env.builtins) (fun bi s₄ =>
        ∃ Ia fp wr n₀ Pf St₀ pz F, Value.ref s1.heap.objs.size = .ref Ia ∧ (∀ A' : Around, A'.handled = none → Walks X.prog X.w A' Ia fp wr n₀ Pf St₀) ∧ St₀ 0 s₄.heap ∧ (∀ b ∈ fp, b < s₄.heap.objs.size) ∧ s₄.heap.NoLimit ∧ cStatics ∉ wr ∧
          (∀ href : Heap, (∀ b o, s₄.heap.get? b = some o → href.get? b = some o) →
            QuietGenD X.prog X.w (genEnv scope (cloFrom X.env.cells scope.names []) s₄.heap.objs.size code bi X.env) x [] elt (List.range s₄.heap.objs.size) wr Pf pz F href (X.A.depth + 1) (X.A.units + 8)) ∧
          (∀ a h₅ tk gs, gs.bare = true → s₄.heap.objs.size < a → h₅.objs.size = a + 1 → (∀ b o, s₄.heap.get? b = some o → h₅.get? b = some o) →
            WalksS X.prog X.w X.A.in4 a (a :: s₄.heap.objs.size :: List.range s₄.heap.objs.size) (s₄.heap.objs.size :: wr) (GenOnlyQ s₄.gens.size) (passing pz n₀ 0).length
              (fun j y => ∃ i, (passing pz n₀ 0)[j]? = some i ∧ F i y) (GenAt X.prog X.w X.A.in4 a s₄.gens.size s₄.heap.objs.size (List.range s₄.heap.objs.size) wr pz n₀ F) →
            GenAt X.prog X.w X.A.in4 a s₄.gens.size s₄.heap.objs.size (List.range s₄.heap.objs.size) wr pz n₀ F 0 { s₄ with gens := s₄.gens.push gs, toks := tk, heap := h₅ } →
            Q' (.ref a) { s₄ with gens := s₄.gens.push gs, toks := tk, heap := h₅ })) X.xe { s1 with heap := h3, toks := tk } := by
    intro code h3 tk more hx hsz hP3 ht3
    obtain ⟨bm, ob, e1, e2, e3, e4, e5, e6, e7, e8⟩ := TB.bm
    have keep3 : GrowsBut P s1.heap h3 := fun b u hb e => hx b u hb (up _ _ e)
    refine wpAny_builtinsFor (m := X.mg) (by rw [I1.ok.glob]; exact ((I1.mod.glob.keeps I1.bk).push o).extBut hx TB.gP) e1 e2 (keep3 _ _ e4 (I1.bk _ _ e5)) e6 e7 e8 ?_
    refine ⟨s1.heap.objs.size, fp, [s1.heap.objs.size], its.length, fun i v => its[i]? = some v, St, fun _ => true, F, rfl, B.walk, B.st0 h3 fun b u hb e => hx b u hb e, fun b hb => ?_, lim2.extBut hx hcP, fun z => ?_, fun href hhref => ?_, fun g h5 tk5 gs hgb hag hsz5 hk5 W5 hgat => ?_⟩
    · exact Nat.lt_of_le_of_lt (B.fpl b hb) (by show s1.heap.objs.size < h3.objs.size; omega)
    · exact Nat.ne_of_lt hclt (List.mem_singleton.mp z)
    · refine ⟨fun A' E' i v s₂ m₂ hA _ _ hPv hn hm hk => ?_, fun A' E' i v s₂ m₂ hA hdp hun hPv _ hn hm hk => ?_⟩
      · simp only [List.forIn_nil]
        exact wpAny_pure ⟨rfl, kp_refl _⟩
      · refine hel A' (genEnv scope (cloFrom X.env.cells scope.names []) h3.objs.size code builtinsNs X.env) i v hA hdp hun rfl I1.ok.glob rfl rfl hPv E' s₂ ⟨fun b u hb e => ?_, m₂, hn, hm⟩
        have hl := Heap.lt_size e
        exact hk b (List.mem_range.mpr (Nat.lt_of_lt_of_le hl (by show s1.heap.objs.size ≤ h3.objs.size; omega))) (fun z => Nat.ne_of_lt hl (List.mem_singleton.mp z)) u (hhref b u (keep3 b u hb e))
    · simp only [GxR.passing_true, List.length_range] at W5
      refine hQ g _ ⟨_, _, _, _, _, W5, hgat, fun b hb => ?_, List.mem_cons_self, fun i s9 h9 => h9.1.typeIs, fun j y hy => ?_, fun s' hm => ?_⟩
      · have f1 : h5.objs.size = g + 1 := hsz5
        have f2 : h3.objs.size < g := hag
        show b < h5.objs.size
        rw [f1]
        rcases List.mem_cons.mp hb with z | z
        · rw [z]
          exact Nat.lt_succ_self g
        · rcases List.mem_cons.mp z with z | z
          · rw [z]
            exact Nat.lt_succ_of_lt f2
          · exact Nat.lt_succ_of_lt (Nat.lt_trans (List.mem_range.mp z) f2)
      · obtain ⟨i, hij, hy⟩ := hy
        obtain ⟨hj, ej⟩ := List.getElem?_eq_some_iff.mp hij
        rw [List.getElem_range] at ej
        subst ej
        rw [List.length_range] at hj
        exact ⟨hj, hy⟩
      · have nwr : ∀ b u, s1.heap.get? b = some u → b ∉ h3.objs.size :: [s1.heap.objs.size] := fun b u e hb => by
          have hl := Heap.lt_size e
          rcases List.mem_cons.mp hb with z | z
          · rw [z] at hl
            exact Nat.lt_irrefl _ (Nat.lt_of_lt_of_le hl (by show s1.heap.objs.size ≤ h3.objs.size; omega))
          · rw [List.mem_singleton.mp z] at hl
            exact Nat.lt_irrefl _ hl
        have J := GxR.inv_tab (more := more) (h' := s'.heap) (g' := s'.gens) (d' := s'.drawn) (t' := s'.toks) I1 hP (fun b u hb e => hm.heap b u (nwr b u e) (hk5 b u (keep3 b u hb e)))
          (hm.heap P _ (nwr P _ hPs) (hk5 P _ hP3)) (AllBare.movedS (I1.bare.push hgb) hm)
        rw [GxR.sh_eta s1 s' hm.os] at J
        exact ⟨upd H1 P (.tbl (ps ++ more)), ⟨⟨ps ++ more, upd_same, ht3⟩, fun b hb => upd_ne hb⟩, J⟩
  cases hf : codeAmong gpos ps.toList with
  | some cv =>
    refine wpAny_genexprCode_hit hcode (cd.code hP2 ht) hf ?_
    have e0 : ps ++ (#[] : Array Value) = ps := by simp
    exact key cv (s1.heap.push o) s1.toks #[] (Heap.ExtBut.refl _ _) (Nat.le_refl _) (by rw [e0]; exact hP2) (by rw [e0]; exact ht)
  | none =>
    refine wpAny_genexprCodeX hcode (cd.code hP2 ht) (cd.tab hP2) hf fun c' h' tk hx hge hlt hco' _ htab' _ => ?_
    obtain ⟨o1, vs, f1, tf, fl, tgv, inF, tx, tt, op, _, _, _, _, _, _, _, _, _, htr, _⟩ := hco'
    exact key _ h' tk _ hx (Nat.le_trans hge (Nat.le_of_lt hlt)) htab'.2 htr
/-- a list or a tuple begins to be walked -/
theorem beg_list {P a : Addr} {xs : List V} {H1 : Hp} {s1 : Shared} (I1 : Inv X pins σ H1 s1) (tg : GxR.TabG H1 P) (h : SqL X.K H1 a xs) : ∃ (its : List Value) (o : Obj) (fp : List Addr) (St : Nat → Heap → Prop), Vals xs its ∧ Beg X P s1 (.ref a) its o fp St := by
  obtain ⟨its, rv, hl, hz⟩ := I1.list h
  have hIL := hl.isList
  obtain ⟨ps, hP, _⟩ := tg
  have hPs : s1.heap.get? P = some { cls := .none, data := .fields ps } := I1.hok P _ hP
  have hlt : a < s1.heap.objs.size := by
    obtain ⟨_, e, _⟩ := _root_.id hIL
    exact Heap.lt_size e
  have haP : a ≠ P := fun z => by
    obtain ⟨_, e, _, _, hd⟩ := _root_.id hIL
    rw [z, hPs] at e
    cases e
    cases hd
  have hPlt := Heap.lt_size hPs
  refine ⟨its, { cls := .type "list_iterator", data := .fields #[.ref a, .int 0 0] }, [s1.heap.objs.size, a], (fun i h => h.IsListIter s1.heap.objs.size a i ∧ h.IsList a its.toArray), rv, ⟨fun E Q q => wpAny_pyIter_list hIL q, fun A' hA => ?_, fun h3 g => ⟨?_, ?_⟩, fun b hb => ?_⟩⟩
  · have W := Walks.list (prog := X.prog) (w := X.w) hA s1.heap.objs.size a (Nat.ne_of_lt hlt) its.toArray
    have e : its.toArray.size = its.length := by simp
    have e2 : (fun (i : Nat) (v : Value) => its.toArray[i]? = some v) = fun i v => its[i]? = some v := by
      funext i v
      simp
    rw [e, e2] at W
    exact W
  · exact ⟨_, g _ _ (Nat.ne_of_gt hPlt) (Heap.get?_push_size _ rfl), rfl, rfl⟩
  · obtain ⟨ob, e, r⟩ := _root_.id hIL
    exact ⟨ob, g _ _ haP (Heap.get?_push_of_some _ e), r⟩
  · rcases List.mem_cons.mp hb with z | z
    · exact Nat.le_of_eq z
    · rw [List.mem_singleton.mp z]
      exact Nat.le_of_lt hlt
theorem beg_tup {P a : Addr} {xs : List V} {H1 : Hp} {s1 : Shared} (I1 : Inv X pins σ H1 s1) (tg : GxR.TabG H1 P) (h : SqT X.K H1 a xs) : ∃ (its : List Value) (o : Obj) (fp : List Addr) (St : Nat → Heap → Prop), Vals xs its ∧ Beg X P s1 (.ref a) its o fp St := by
  obtain ⟨its, rv, hIL, hz⟩ := I1.tuple h
  obtain ⟨ps, hP, _⟩ := tg
  have hPs : s1.heap.get? P = some { cls := .none, data := .fields ps } := I1.hok P _ hP
  have hlt : a < s1.heap.objs.size := by
    obtain ⟨_, e, _⟩ := _root_.id hIL
    exact Heap.lt_size e
  have haP : a ≠ P := fun z => by
    obtain ⟨_, e, _, _, hd⟩ := _root_.id hIL
    rw [z, hPs] at e
    cases e
    cases hd
  have hPlt := Heap.lt_size hPs
  refine ⟨its, { cls := .type "tuple_iterator", data := .fields #[.ref a, .int 0 0] }, [s1.heap.objs.size, a], (fun i h => h.IsTupleIter s1.heap.objs.size a i ∧ h.IsTuple a its.toArray), rv, ⟨fun E Q q => wpAny_pyIter_tuple hIL q, fun A' hA => ?_, fun h3 g => ⟨?_, ?_⟩, fun b hb => ?_⟩⟩
  · have W := Walks.tuple (prog := X.prog) (w := X.w) hA s1.heap.objs.size a (Nat.ne_of_lt hlt) its.toArray
    have e : its.toArray.size = its.length := by simp
    have e2 : (fun (i : Nat) (v : Value) => its.toArray[i]? = some v) = fun i v => its[i]? = some v := by
      funext i v
      simp
    rw [e, e2] at W
    exact W
  · exact ⟨_, g _ _ (Nat.ne_of_gt hPlt) (Heap.get?_push_size _ rfl), rfl, rfl⟩
  · obtain ⟨ob, e, r⟩ := _root_.id hIL
    exact ⟨ob, g _ _ haP (Heap.get?_push_of_some _ e), r⟩
  · rcases List.mem_cons.mp hb with z | z
    · exact Nat.le_of_eq z
    · rw [List.mem_singleton.mp z]
      exact Nat.le_of_lt hlt
end
end HM
namespace HM
open PySem PySem.Spec PyProof.Rows L2
/-! ### kinds of tracked values -/
inductive VTy (K : PySem.W.Frag) (H : Hp) : V → String → Prop
  | non : VTy K H .non "NoneType"
  | bl (b : Bool) : VTy K H (.bl b) "bool"
  | int (i : Int) : VTy K H (.int i) "int"
  | str (x : Str) : VTy K H (.str x) "str"
  | lst {a : Addr} {xs : List V} (e : SqL K H a xs) : VTy K H (.ref a) "list"
  | tup {a : Addr} {xs : List V} (e : SqT K H a xs) : VTy K H (.ref a) "tuple"
  | dct {a : Addr} {kvs : List (Key × V)} (e : H a = some (.dK kvs)) : VTy K H (.ref a) "dict"
section
variable {X : Cx} {pins : List (Addr × Obj)} {σ : L2.St} {H : Hp} {s : Shared}
theorem VTy.raw {x : V} {u : Value} {T : String} (t : VTy X.K H x T) (I : Inv X pins σ H s) (r : RelV x u) : RTy s.heap u T := by
  cases t with
  | non => cases (show u = Value.none from r); exact .non
  | bl b => cases (show u = Value.bool b from r); exact .bl b
  | int i => obtain ⟨t, rfl⟩ := (show ∃ t, u = Value.int i t from r); exact .int i t
  | str y => obtain ⟨t, rfl⟩ := (show ∃ t, u = Value.str y t from r); exact .str y t
  | @lst a xs e =>
    cases (show u = Value.ref a from r)
    obtain ⟨its, _, ⟨o, n, h1, h2, _⟩, _⟩ := I.list e
    exact .lst h1 h2
  | @tup a xs e =>
    cases (show u = Value.ref a from r)
    obtain ⟨its, _, ⟨o, h1, h2, _⟩, _⟩ := I.tuple e
    exact .tup h1 h2
  | @dct a kvs e =>
    cases (show u = Value.ref a from r)
    obtain ⟨_, _, vs, _, o, es, ep, h1, h2, _⟩ := (show ObjOk X.prog X.w H s.heap a (.dK kvs) from I.hok a _ e)
    exact .dct h1 h2.1
theorem RTy.but {h h' : Heap} {u : Value} {T : String} {P : Addr} {ps : Array Value} (r : RTy h u T) (hP : h.get? P = some { cls := .none, data := .fields ps }) (k : GrowsBut P h h') : RTy h' u T := by
  have ne : ∀ {a : Addr} {o : Obj} {C : String}, h.get? a = some o → o.cls = .type C → a ≠ P := fun {a o C} e c z => by
    rw [z, hP] at e
    cases e
    cases c
  cases r with
  | non => exact .non
  | bl b => exact .bl b
  | int i t => exact .int i t
  | str x t => exact .str x t
  | lst e c => exact .lst (k _ _ (ne e c) e) c
  | tup e c => exact .tup (k _ _ (ne e c) e) c
  | dct e c => exact .dct (k _ _ (ne e c) e) c
/-- the module's ground is kept, for P is none of it -/
theorem mod_but {H1 : Hp} {s1 : Shared} {P : Addr} {h : Heap} (I1 : Inv X pins σ H1 s1) (tg : GxR.TabG H1 P) (k : GrowsBut P s1.heap h) : L2.Mod X.K X.mg h := by
  obtain ⟨ps, hP, _⟩ := tg
  refine mod_up I1.mod fun b o e => k b o (fun z => ?_) (I1.bk b o e)
  have q := (I1.bs b o e).2
  rw [z, hP] at q
  cases q
/-- a name of the def that the generator reads -/
theorem free_cell {H1 : Hp} {s1 : Shared} {P : Addr} {h : Heap} {i : Nat} {y : Str} {v : V} {scope : Scope} (I1 : Inv X pins σ H1 s1) (tg : GxR.TabG H1 P) (k : GrowsBut P s1.heap h) (hN : X.N[i]? = some y) (hσ : σ[i]? = some (some v)) (hk : X.env.kindOf y = some .cell)
    (hcl : ∀ c, X.env.cells.lookup y = some c → (cloFrom X.env.cells scope.names []).lookup y = some c) : ∃ c u, (cloFrom X.env.cells scope.names []).lookup y = some c ∧ RelV v u ∧ h.IsCell c (some u) := by
  obtain ⟨m, _, hl⟩ := I1.loc
  obtain ⟨u, r, l⟩ := hl i y v hN hσ (.inr (.inl hk))
  rcases l with ⟨hk2, _⟩ | ⟨_, c, hc, hcell⟩
  · rw [hk] at hk2
    cases hk2
  · refine ⟨c, u, hcl c hc, r, ?_⟩
    obtain ⟨ps, hP, _⟩ := tg
    have hn := I1.freeC y c hc
    have hne : c ≠ P := fun z => by
      rw [z, hP] at hn
      cases hn
    obtain ⟨o, e, q⟩ := hcell
    exact ⟨o, k c o hne e, q⟩
/-! ### all(..) and tuple(..) of a generator expression -/
def tAllG (P : Addr) (Rr : L2.St → V → Hp → Nat → (Nat → Bool) → Prop) (te : TE) : TE := fun σ H Q => te σ H fun v H1 => GxR.TabG H1 P ∧ ∃ n pb, Rr σ v H1 n pb ∧ ∀ H2, GxR.Tabbed P H1 H2 → Q (.bl ((List.range n).all pb)) H2
theorem pe_allG {c P : Addr} {elt iter : Expr} {x : Str} {px p pos gpos : Pos} {scope : Scope} {te : TE} {k : Nat} {Rr : L2.St → V → Hp → Nat → (Nat → Bool) → Prop}
    (hr : Room k X.A) (hg : Gl X "all") (hm : X.mg "all" = none) (TB : GxR.TabB X.base X.mg c P) (hcode : X.env.code = .ref c) (Sc : GxR.GenS X.env scope x) (hi : PE X iter te) (hs : ∀ v, genFold iter X.env v = pure v)
    (hu : ∀ (pins : List (Addr × Obj)) (σ : L2.St) (v : V) (H1 : Hp) (s1 : Shared) (xv : Value) (n : Nat) (pb : Nat → Bool), Inv X pins σ H1 s1 → RelV v xv → GxR.TabG H1 P → Rr σ v H1 n pb →
      ∃ (its : List Value) (o : Obj) (fp : List Addr) (St : Nat → Heap → Prop), its.length = n ∧ Beg X P s1 xv its o fp St ∧ EltG X P s1 scope x elt its (fun i y => y = .bool (pb i)))
    (he : starEach [.GeneratorExp elt [⟨.Name x px, iter, [], 0⟩] scope gpos] X.env = (false, eval (.GeneratorExp elt [⟨.Name x px, iter, [], 0⟩] scope gpos) X.env) :: starEach [] X.env := by rfl) :
    PE X (.Call (.Name "all" p) [.GeneratorExp elt [⟨.Name x px, iter, [], 0⟩] scope gpos] [] pos) (tAllG P Rr te) := by
  refine ⟨fun pins s σ H Q I h => ?_⟩
  refine wpAny_Call_Name_kw (ld_blt I hg hm (u := .builtin "all") (by decide +kernel) ?_)
  refine PyProof.Rows.callWith_builtin1 ?_ he (by rfl)
  rw [he]
  show wpAny _ _ (spliced ((false, eval (.GeneratorExp elt [⟨.Name x px, iter, [], 0⟩] scope gpos) X.env) :: backTo pos (starEach [] X.env))) _ _ s
  refine Calls.spliced_cons (gen_any (Rr := fun v H1 => ∃ n pb, Rr σ v H1 n pb ∧ ∀ H2, GxR.Tabbed P H1 H2 → Q (.bl ((List.range n).all pb)) H2) hr TB hcode Sc hi hs I h fun v H1 s1 xv I1 r1 tg q1 => ?_)
  obtain ⟨n, pb, q1, q2⟩ := q1
  obtain ⟨its, o, fp, St, hn, B, hel⟩ := hu pins σ v H1 s1 xv n pb I1 r1 tg q1
  refine ⟨its, o, fp, St, _, B, hel, fun g s5 hG => ?_⟩
  obtain ⟨fp5, wr, G, Fv, St5, W, hst, _, _, _, hF, hI⟩ := hG
  refine Calls.spliced_nil ?_
  refine call_all_walkS ((W.in4_1).self 0 _ _ _ hst ⟨g, fp5, wr, G, _, Fv, St5, pb, rfl, W.in4_1, hst, fun j y sj Qj Ej hy hQj => ?_, fun s' hmv => ?_⟩)
  · rw [(hF j y hy).2]
    exact wpAny_truthy_bool hQj
  · obtain ⟨H2, hT, J⟩ := hI s' hmv
    refine ⟨.bl _, H2, J, rfl, ?_⟩
    rw [hn]
    exact q2 H2 hT
/-! ### len(set(t)), t a tuple of ints -/
def Dist (ns : List Int) (c : Nat) : Prop := ∃ L : List Int, L.Nodup ∧ (∀ k, k ∈ L ↔ k ∈ ns) ∧ L.length = c
def tLenSetT (K : PySem.W.Frag) (ta : TE) : TE := fun σ H Q => ta σ H fun x H1 => ∃ (l : Addr) (ns : List Int), x = .ref l ∧ SqT K H1 l (ns.map V.int) ∧ ns.length ≤ 4000 ∧ ∀ c, Dist ns c → Q (.int (c : Nat)) H1
theorem pe_lenSetT {a : Expr} {ta : TE} {p p2 q pos : Pos} (hg : Gl X "len") (hm : X.mg "len" = none) (hg2 : Gl X "set") (hm2 : X.mg "set" = none) (ha : PE X a ta) (hc : X.calm = true := by rfl)
    (na : starEach [a] X.env = (false, eval a X.env) :: starEach [] X.env := by rfl) : PE X (.Call (.Name "len" p) [.Call (.Name "set" p2) [a] [] q] [] pos) (tLenSetT X.K ta) := by
  refine ⟨fun pins s σ H Q I h => ?_⟩
  refine Call_ (ld_blt I hg hm boot_len ?_)
  refine PyProof.Rows.callWith_builtin1 (PyProof.Rows.args_cons ?_ rfl) rfl rfl
  refine Call_ (ld_blt I hg2 hm2 boot_set ?_)
  refine PyProof.Rows.callWith_type1 (PyProof.Rows.args_cons (thn (ha.run pins s σ H _ I h) fun v s1 hx => PyProof.Rows.args_nil ?_) na) na rfl
  obtain ⟨x, H1, I1, r1, l, ns, rfl, hq, hl, q1⟩ := hx
  cases r1
  obtain ⟨its, r, pl, hz⟩ := I1.tuple hq
  refine call_set_tupI (w := X.w) ns (I1.ok.hd hc) pl (by simpa using RZ.intsAre_vals r) (by unfold scanBound; omega) fun h' tk c hS hcn hk => ?_
  have I2 := I1.kept (h' := h') (t' := tk) hk
  refine PyProof.Rows.args_nil ?_
  obtain ⟨o, es, ep, t, ho, hex, hd, _, hnd, hmem, hsb, hf, hn, _⟩ := hS
  have hsz : (es.size : Int) < 2 ^ 63 := by
    have h9 : scanBound ≤ 2 ^ 62 := by decide
    omega
  refine call_len_set ho hex hd hf hsz ⟨.int es.size, H1, I2.tok _, ⟨_, rfl⟩, ?_⟩
  refine q1 es.size ⟨es.toList.map keyOf, hnd, fun k => ?_, by simp⟩
  rw [← hmem k]
  exact decide_eq_true_iff
end
end HM
namespace HM
open PySem PySem.Spec PyProof.Rows L2
/-! ### a def's promise under a condition gd on what runs around it -/
def noRepr (A : Around) : Prop := A.guards = some []
def anyA (_ : Around) : Prop := True
structure PFn (gd : Around → Prop) (P : Program) (w : World) (K : PySem.W.Frag) (mg : Str → Option Value) (base : Heap) (CX : CXT) (k : Nat) (f : Addr) (fd : FuncData) (ps : List Str) (sp : Sp) : Prop where
  len : ∀ vs H Q E, sp vs H Q E → vs.length = ps.length
  go : ∀ (A : Around) (out : List Env) (s : Shared) (H : Hp) (args : Args) (us : List Value) (vs : List V) (Q : VK) (E : XK), gd A → Room k A → Env0 P w K mg base A out s H → BindsTo s fd args (ps.zip us) → Vals vs us → sp vs H Q E →
    codeAny (model P w) A (.call (.ref f) args) (CR CX out P w H s Q E) s
section
variable {P : Program} {w : World} {K : PySem.W.Frag} {mg : Str → Option Value} {base : Heap}
theorem PFn.ok {CX : CXT} {k : Nat} {f : Addr} {fd : FuncData} {ps : List Str} {sp : Sp} (G : PFn anyA P w K mg base CX k f fd ps sp) : FnOk P w K mg base CX k f fd ps sp := ⟨G.len, fun A out s H args us vs Q E => G.go A out s H args us vs Q E trivial⟩
theorem PFn.of_ok {gd : Around → Prop} {CX : CXT} {k : Nat} {f : Addr} {fd : FuncData} {ps : List Str} {sp : Sp} (G : FnOk P w K mg base CX k f fd ps sp) : PFn gd P w K mg base CX k f fd ps sp := ⟨G.len, fun A out s H args us vs Q E _ => G.run A out s H args us vs Q E⟩
/-- by the body; fd.code is the running code object -/
theorem pfn_of {gd : Around → Prop} {x qual : Str} {st : Stmt} {f : Addr} {fd : FuncData} {N ps : List Str} {k : Nat} {sp : Sp} (F : Fun K x qual st f fd) (S : FnScope N ps (defScope st)) (len : ∀ vs H Q E, sp vs H Q E → vs.length = ps.length)
    (body : ∀ (cdv : Value) (A : Around) (out : List Env) (s : Shared) (H : Hp) (vs : List V) (Q : VK) (E : XK), fd.code = cdv → gd A → Room k (A.deeper (envOfC qual (defScope st) s.heap.objs.size f cdv)) → sp vs H Q E →
      ∃ t, PSs (cxOf CX0 P w K mg base N qual (defScope st) f cdv A out s H E).nox (defBody st) t ∧ t { nx := fun _ H' => Q .non H', rt := Q } (start N vs) H) : PFn gd P w K mg base CX0 (k + 1) f fd ps sp := by
  obtain ⟨oc, od, kV, doc, pm, an, cdv, ct, osl, rfl, lk, hcd⟩ := F.ex
  refine ⟨len, fun A out s H args us vs Q E hgd hr e0 hb r hsp => ?_⟩
  have M := mod_up e0.mod (fun b o e => (e0.bs b o e).1 : Grows base s.heap)
  have kinds : ∀ y ∈ ps.zip us, (defScope st).names.lookup y.1 = some .local ∨ ((defScope st).names.lookup y.1 = some .cell ∧ ((cellsFrom (s.heap.objs.size + 1) (defScope st).names []).lookup y.1).isSome = true) := by
    intro y hy
    rcases S.par y.1 (List.of_mem_zip (show (y.1, y.2) ∈ ps.zip us from hy)).1 with q | q
    · exact .inl q
    · exact .inr ⟨q, PySem.W.cellsFrom_some _ _ _ (.inl q)⟩
  refine codeAny_call_function hr.depth (M.kin _ _ lk) rfl S.co S.gen rfl (PySem.W.codeRec_of M.kin hcd) (hb _ _ _ _ ?_)
  refine wpAny_newFunctionEnv_cells S.kind kinds fun env he s1 x => ?_
  subst he
  obtain ⟨t, ht, hq⟩ := body cdv A out s H vs Q E rfl hgd (hr.deeper _) hsp
  refine ⟨M.nolimit.keeps x.toInCall.keep, codeAny_func (wpAny_mono (ht.nox.run [] s1 (start N vs) H _ (inv_start S hr.hd e0 (len _ _ _ _ hsp) r x) hq) (fun fl s' hs => ?_) fun e s' hs => hs)⟩
  cases fl with
  | ret u =>
    obtain ⟨v, σ', H', J, rv, q⟩ := hs
    exact ⟨v, H', J.os, J.bare, J.base, J.hok, rv, q⟩
  | next =>
    obtain ⟨σ', H', J, q⟩ := hs
    exact ⟨.non, H', J.os, J.bare, J.base, J.hok, rfl, q⟩
  | brk =>
    obtain ⟨_, _, _, q⟩ := hs
    exact q.elim
  | cont =>
    obtain ⟨_, _, _, q⟩ := hs
    exact q.elim
end
/-- f(e, ..) by such a promise -/
theorem pe_callP {X : Cx} {gd : Around → Prop} {CX : CXT} {k : Nat} {f : Addr} {fd : FuncData} {ps : List Str} {sp : Sp} {E : XK} {x : Str} {p pos : Pos} {e : Expr} {es : List Expr} {t : TA} (G : PFn gd X.prog X.w X.K X.mg X.base CX k f fd ps sp) (hgd : gd X.A) (hr : Room k X.A) (hg : Gl X x) (hm : X.mg x = some (.ref f))
    (hk : PySem.W.keepIn X.K (.ref f) = true) (hb : Binds X.K fd ps []) (hx : Passes CX X E) (ha : PA X (e :: es) t) (hdb : (x == ("__debug__" : Str)) = false := by decide)
    (he : starEach (e :: es) X.env = (false, eval e X.env) :: starEach es X.env := by rfl) (hpl : (backTo pos (starEach es X.env)).any (·.1) = false := by rfl) : PE X (.Call (.Name x p) (e :: es) [] pos) (tCall sp [] E t) := by
  refine ⟨fun pins s σ H Q I h => ?_⟩
  refine wpAny_Call_Name_kw (ld_glob I hg hm ?_ hdb)
  refine PySem.W.callWith_K (h₀ := X.base) I.ok.mod.kin hk (thn (ha.run pos pins s σ H _ I h) fun us s1 hus => ?_) he hpl
  obtain ⟨vs, H1, I1, r, q⟩ := hus
  refine ⟨I1.kIn, ?_⟩
  rw [List.append_nil] at q
  have hl : us.length = ps.length := by rw [← r.length]; exact G.len _ _ _ _ q
  have hbs := hb s1 us I1.kIn (by rw [List.append_nil]; exact hl)
  rw [List.append_nil] at hbs
  refine wpAny_call (codeAny_mono (G.go X.A X.stack s1 H1 ⟨us, []⟩ us vs Q E hgd hr I1.env0 hbs r q) fun r s' hq => ?_)
  match r, hq with
  | .error e, hq => exact hx pins σ H1 s1 e s' I1 hq
  | .ok (.ret u), hq => exact I1.after hq
  | .ok .next, hq => exact hq.elim
  | .ok .brk, hq => exact hq.elim
  | .ok .cont, hq => exact hq.elim
/-! ### repr -/
theorem reads_ints {P : Program} {w : World} {h : Heap} : ∀ (ps : List (Int × Int)) (vs : List (Key × Value)) (es : List DictEntry), KV (ps.map fun p => ((Sum.inl p.1 : Key), V.int p.2)) vs → Pairs (mixKind P w) es vs →
    ReadsAll h (es.map (·.key)) (ps.map fun p => .int p.1) [] ∧ ReadsAll h (es.map (·.val)) (ps.map fun p => .int p.2) []
  | [], _, _, .nil, .nil => ⟨.nil, .nil⟩
  | p :: ps, _, _, .cons a r, .cons k v t => by
    obtain ⟨h1, h2⟩ := reads_ints ps _ _ r t
    obtain ⟨e1, e2⟩ := a
    obtain ⟨t2, e3⟩ := (show ∃ t, _ = Value.int p.2 t from e2)
    rw [← e1] at k
    obtain ⟨t1, e4⟩ := Value.isInt_shape (show Value.isInt p.1 _ = true from k)
    rw [List.map_cons, List.map_cons, List.map_cons, List.map_cons, e4, v, e3]
    exact ⟨.cons (as := []) (bs := []) (.int _ _) h1, .cons (as := []) (bs := []) (.int _ _) h2⟩
/-- what repr may be asked of -/
inductive RP (K : PySem.W.Frag) (H : Hp) : V → PyData → Prop
  | flat {x : V} {d : PyData} (h : Dp K H x d) (n : d.hasDict = false) : RP K H x d
  | dict {a : Addr} (ps : List (Int × Int)) (h : H a = some (.dK (ps.map fun p => ((Sum.inl p.1 : Key), V.int p.2)))) : RP K H (.ref a) (.dict (ps.map fun p => (.int p.1, .int p.2)))
section
variable {X : Cx} {pins : List (Addr × Obj)} {σ : L2.St} {H : Hp} {s : Shared}
theorem RP.reads {x : V} {u : Value} {d : PyData} (h : RP X.K H x d) (I : Inv X pins σ H s) (r : RelV x u) : ∃ as, Reads s.heap u d as ∧ (d.hasDict = true → sysModules ∉ as) := by
  cases h with
  | flat h n =>
    obtain ⟨as, q⟩ := Dp.reads I d x u h r
    exact ⟨as, q, PyData.noDict_hsm n⟩
  | @dict a ps h =>
    cases (show u = Value.ref a from r)
    obtain ⟨_, hne, vs, hkv, o, es, ep, h1, h2, h3, _, hp, _⟩ := (show ObjOk X.prog X.w H s.heap a (.dK _) from I.hok a _ h)
    obtain ⟨q1, q2⟩ := reads_ints (h := s.heap) ps vs es.toList hkv hp
    refine ⟨_, Reads.dict h1 h2.1 h3 (kvs := ps.map fun p => (.int p.1, .int p.2)) (by rw [List.map_map]; exact q1) (by rw [List.map_map]; exact q2), fun _ hm => ?_⟩
    have z : sysModules = a := by simpa using hm
    rw [z] at hne
    simp at hne
def rRepr (K : PySem.W.Frag) : List V → Hp → VK → Prop := fun xs H Q => ∃ (x : V) (d : PyData), xs = [x] ∧ RP K H x d ∧ d.showable = true ∧ d.depth ≤ 40 ∧ d.shown.length ≤ sizeLine ∧ Q (.str d.shown) H
theorem call_reprD {k : Nat} (hg : X.A.guards = some []) (hr : Room k X.A) : CallR X (.builtin "repr") (rRepr X.K) := by
  intro pins s σ H xs us Q I r h
  obtain ⟨x, d, rfl, hp, hs, hd, hz, q⟩ := h
  cases r with
  | cons r1 r2 =>
    cases r2
    rename_i u
    obtain ⟨as, hrd, hsm⟩ := hp.reads I r1
    have hu := hr.units
    cases hrd with
    | none => exact PySem.P.repr_of_none ⟨.str _, H, I.tok _, ⟨_, rfl⟩, q⟩
    | bool b => exact PySem.P.repr_of_bool ⟨.str _, H, I.tok _, ⟨_, rfl⟩, q⟩
    | int i t => exact PySem.P.repr_of_int (by simpa [PyData.showable] using hs) ⟨.str _, H, I.tok _, ⟨_, rfl⟩, q⟩
    | str y t => exact PySem.P.repr_of_str ⟨.str _, H, I.tok _, ⟨_, rfl⟩, q⟩ hz
    | list h1 h2 h3 h4 => exact repr_of_reads' (Reads.list h1 h2 h3 h4) hs hsm hg (by omega) (fun _ _ e => e) (fun h' u tk hk => ⟨.str _, H, I.kept hk, ⟨_, rfl⟩, q⟩) hz
    | tuple h1 h2 h3 h4 => exact repr_of_reads' (Reads.tuple h1 h2 h3 h4) hs hsm hg (by omega) (fun _ _ e => e) (fun h' u tk hk => ⟨.str _, H, I.kept hk, ⟨_, rfl⟩, q⟩) hz
    | dict h1 h2 h3 h4 h5 => exact repr_of_reads' (Reads.dict h1 h2 h3 h4 h5) hs hsm hg (by omega) (fun _ _ e => e) (fun h' u tk hk => ⟨.str _, H, I.kept hk, ⟨_, rfl⟩, q⟩) hz
/-- str(x), x a list, a tuple -/
theorem call_strD {k : Nat} (hg : X.A.guards = some []) (hr : Room k X.A) : CallR X (.type "str") (fun xs H Q => ∃ (a : Addr) (d : PyData), xs = [.ref a] ∧ RP X.K H (.ref a) d ∧ d.showable = true ∧ d.depth ≤ 40 ∧ d.shown.length ≤ sizeLine ∧ Q (.str d.shown) H) := by
  intro pins s σ H xs us Q I r h
  obtain ⟨a, d, rfl, hp, hs, hd, hz, q⟩ := h
  cases r with
  | cons r1 r2 =>
    cases r2
    cases (show _ = Value.ref a from r1)
    obtain ⟨as, hrd, hsm⟩ := hp.reads I r1
    have hu := hr.units
    exact str_of_reads hrd hs hsm hg (by omega) (fun _ _ e => e) (fun h' u tk hk => ⟨.str _, H, I.kept hk, ⟨_, rfl⟩, q⟩) hz
end
end HM
namespace HM
open PySem PySem.Spec PyProof.Rows L2
/-! ### the end of a law whose defs hold generator expressions and ask repr -/
abbrev tabObj : Obj := { cls := .none, data := .fields #[] }
abbrev scrObj (vs : List Value) : Obj := { cls := .type "list", data := .seq vs.toArray }
/-- the tables ts; the script, where it is none of the written part -/
def H0 (K : PySem.W.Frag) (ts : List Addr) (a : Addr) (vs : List Value) (ns : List Int) : Hp := fun b =>
  if b ∈ ts then some (.tbl #[]) else if b = a ∧ K.lookup a = none then some (.frz (scrObj vs) (.lst (ns.map V.int))) else none
theorem H0_tab {K : PySem.W.Frag} {ts : List Addr} {a b : Addr} {vs : List Value} {ns : List Int} (h : b ∈ ts) : H0 K ts a vs ns b = some (.tbl #[]) := if_pos h
theorem H0_scr {K : PySem.W.Frag} {ts : List Addr} {a : Addr} {vs : List Value} {ns : List Int} (h : a ∉ ts) (k : K.lookup a = none) : H0 K ts a vs ns a = some (.frz (scrObj vs) (.lst (ns.map V.int))) := (if_neg h).trans (if_pos ⟨rfl, k⟩)
theorem H0_cases {K : PySem.W.Frag} {ts : List Addr} {a b : Addr} {vs : List Value} {ns : List Int} {u : HO} (h : H0 K ts a vs ns b = some u) : (b ∈ ts ∧ u = .tbl #[]) ∨ (b = a ∧ K.lookup a = none ∧ u = .frz (scrObj vs) (.lst (ns.map V.int))) := by
  unfold H0 at h
  by_cases h1 : b ∈ ts
  · rw [if_pos h1] at h
    exact .inl ⟨h1, (Option.some.inj h).symm⟩
  · rw [if_neg h1] at h
    by_cases h2 : b = a ∧ K.lookup a = none
    · rw [if_pos h2] at h
      exact .inr ⟨h2.1, h2.2, (Option.some.inj h).symm⟩
    · rw [if_neg h2] at h
      cases h
theorem H0_none {K : PySem.W.Frag} {ts : List Addr} {a b : Addr} {vs : List Value} {ns : List Int} (h1 : b ∉ ts) (h2 : b = a → K.lookup a ≠ none) : H0 K ts a vs ns b = none := by
  unfold H0
  rw [if_neg h1, if_neg fun z => h2 z.1 z.2]
/-- the script: locked, or of the written part -/
def Scr (K : PySem.W.Frag) (H : Hp) (a : Addr) (ns : List Int) : Prop := (∃ ob, H a = some (.frz ob (.lst (ns.map V.int)))) ∨
  ∃ (o : Obj) (its : Array Value) (n : Nat), K.lookup a = some o ∧ o.cls = .type "list" ∧ o.dict = none ∧ o.data = .seq its n ∧ its.size ≤ sizeLine ∧ Vals (ns.map V.int) its.toList
theorem Scr.sq {K : PySem.W.Frag} {H : Hp} {a : Addr} {ns : List Int} (h : Scr K H a ns) : SqL K H a (ns.map V.int) := by
  rcases h with h | h
  · exact .inl (.inr h)
  · exact .inr h
/-- it stays while nothing locked is lost -/
theorem Scr.up {K : PySem.W.Frag} {H H' : Hp} {a : Addr} {ns : List Int} (h : Scr K H a ns) (k : ∀ b ob u, H b = some (.frz ob u) → H' b = some (.frz ob u)) : Scr K H' a ns := by
  rcases h with ⟨ob, h⟩ | h
  · exact .inl ⟨ob, k _ _ _ h⟩
  · exact .inr h
theorem end_go {P : Program} {w : World} {K : PySem.W.Frag} {mg mb : Str → Option Value} {k : Nat} {fa a : Addr} {cs : List (Addr × Addr)} {fd : FuncData} {x : Str} {sp : Sp} {s₁ : Shared} {vs : List Value} {ns : List Int}
    (KX : K.In s₁.heap) (hns : s₁.heap.Ns mainGlobals mg) (hb : s₁.heap.Ns builtinsNs mb) (hbb : ∀ y : Str, y ≠ "__name__" → mb y = bootBuiltins y) (hlim : s₁.heap.NoLimit) (hg : s₁.gens = #[])
    (hT : ∀ p ∈ cs, s₁.heap.get? p.2 = some tabObj) (nT : ∀ p ∈ cs, K.lookup p.2 = none) (hC : ∀ p ∈ cs, PySem.W.CodeHd s₁.heap p.1 p.2)
    (hbm : ∃ (bm : Addr) (ob : Obj), mg "__builtins__" = some (.ref bm) ∧ bm ≠ builtinsNs ∧ s₁.heap.get? bm = some ob ∧ ob.cls = .type "module" ∧ ob.dict = some builtinsNs ∧ ob.data = .plain)
    (ha : s₁.heap.get? a = some (scrObj vs)) (hi : IntsAre vs ns) (hl : ns.length ≤ sizeLine) (hr : Room k callerA)
    (F : ∀ base : Heap, K.In base → base.Ns mainGlobals mg → (∀ p ∈ cs, GxR.TabB base mg p.1 p.2) → PFn noRepr P w K mg base CX0 k fa fd [x] sp) (hbind : ∀ (s : Shared) (u : Value), BindsTo s fd ⟨[u], []⟩ [(x, u)])
    (hsp : ∀ H : Hp, (∀ p ∈ cs, H p.2 = some (.tbl #[])) → Scr K H a ns → sp [.ref a] H (fun v _ => v = .bl true) fun _ _ _ => False) :
    codeAny (model P w) callerA (.call (.ref fa) ⟨[.ref a], []⟩) (fun r s' => r = .ok (.ret (.bool true)) ∧ OldK s₁.heap s'.heap ∧ s'.os = s₁.os ∧ AllBare s'.gens) s₁ := by
  have isT : ∀ b ∈ cs.map (·.2), s₁.heap.get? b = some tabObj := fun b hb => by
    obtain ⟨p, hp, e⟩ := List.mem_map.mp hb
    exact e ▸ hT p hp
  have kT : ∀ b ∈ cs.map (·.2), K.lookup b = none := fun b hb => by
    obtain ⟨p, hp, e⟩ := List.mem_map.mp hb
    exact e ▸ nT p hp
  have inT : ∀ p ∈ cs, p.2 ∈ cs.map (·.2) := fun p hp => List.mem_map.mpr ⟨p, hp, rfl⟩
  have aT : a ∉ cs.map (·.2) := fun z => by
    have q := (isT a z).symm.trans ha
    cases q
  obtain ⟨H, eH⟩ : ∃ H : Hp, H = H0 K (cs.map (·.2)) a vs ns := ⟨_, rfl⟩
  -- what is neither a table nor the script is not tracked
  have free : ∀ (b : Addr) (o : Obj), s₁.heap.get? b = some o → o ≠ tabObj → o ≠ scrObj vs → H b = none := fun b o e n1 n2 => by
    rw [eH]
    refine H0_none (fun z => n1 ?_) fun z => absurd ?_ n2
    · exact Option.some.inj (e.symm.trans (isT b z))
    · rw [z] at e
      exact Option.some.inj (e.symm.trans ha)
  have freeK : ∀ (b : Addr) (o : Obj), K.lookup b = some o → H b = none := fun b o e => by
    rw [eH]
    refine H0_none (fun z => ?_) fun z h => ?_
    · rw [kT b z] at e
      cases e
    · rw [z, h] at e
      cases e
  have hok : HOk P w H s₁.heap := fun b u e => by
    rw [eH] at e
    rcases H0_cases e with ⟨h1, rfl⟩ | ⟨rfl, h2, rfl⟩
    · exact isT b h1
    · exact ⟨ha, by rw [List.length_map]; exact hl, vs, _, vals_ints hi, ha⟩
  have hS : Scr K H a ns := by
    cases hk : K.lookup a with
    | none =>
      rw [eH]
      exact .inl ⟨_, H0_scr aT hk⟩
    | some o =>
      have e := (KX a o hk).symm.trans ha
      cases e
      exact .inr ⟨_, vs.toArray, _, hk, rfl, rfl, rfl, by rw [List.size_toArray, hi.length]; exact hl, by simpa using vals_ints hi⟩
  have nsB : ∀ {b : Addr} {m : Str → Option Value}, s₁.heap.Ns b m → (hidT s₁.heap H).Ns b m := fun {b m} h => by
    obtain ⟨o, es, ep, e, d, r⟩ := h
    refine ⟨o, es, ep, hidT_get e (free b o e (fun z => ?_) fun z => ?_), d, r⟩
    · rw [z] at d
      cases d
    · rw [z] at d
      cases d
  have kB : K.In (hidT s₁.heap H) := fun b o e => hidT_get (KX b o e) (freeK b o e)
  have modB : L2.Mod K mg (hidT s₁.heap H) := ⟨kB, nsB hns, ⟨mb, nsB hb, hbb⟩, let ⟨mc, h1, h2⟩ := hlim; ⟨mc, nsB h1, h2⟩⟩
  have tabB : ∀ p ∈ cs, GxR.TabB (hidT s₁.heap H) mg p.1 p.2 := fun p hp => by
    refine ⟨?_, ?_, fun z => ?_⟩
    · obtain ⟨o, us, file, tf, flags, tg, inF, text, tt, e1, c1, d1, r3, r⟩ := hC p hp
      refine ⟨o, us, file, tf, flags, tg, inF, text, tt, hidT_get e1 (free _ o e1 (fun z => ?_) fun z => ?_), c1, d1, r3, r⟩
      · rw [z] at c1
        cases c1
      · rw [z] at c1
        injection (show Value.type "list" = Value.type "code" from c1) with c2
        exact absurd c2 (by decide)
    · obtain ⟨bm, ob, b1, b2, b3, b4, b5, b6⟩ := hbm
      refine ⟨bm, ob, b1, b2, fun q => ?_, fun q => ?_, hidT_get b3 (free bm ob b3 (fun z => ?_) fun z => ?_), b4, b5, b6⟩
      · obtain ⟨o, es, ep, e, d, _⟩ := hns
        rw [q, e] at b3
        cases b3
        rw [d] at b6
        cases b6
      · rw [q, hT p hp] at b3
        cases b3
        cases b6
      · rw [z] at b6
        cases b6
      · rw [z] at b6
        cases b6
    · obtain ⟨o, es, ep, e, d, _⟩ := hns
      rw [z, hT p hp] at e
      cases e
      cases d
  have e0 : Env0 P w K mg (hidT s₁.heap H) callerA [] s₁ H := ⟨rfl, modB, fun b o e => of_hidT e, Nat.le_of_eq (hidT_size _ _), trivial, fun b hb => absurd (show b ∈ ([] : List Addr) from hb) (by simp), hok, .of_eq hg⟩
  have tH : ∀ p ∈ cs, H p.2 = some (.tbl #[]) := fun p hp => by
    rw [eH]
    exact H0_tab (inT p hp)
  refine codeAny_mono ((F _ kB (nsB hns) tabB).go callerA [] s₁ H ⟨[.ref a], []⟩ [.ref a] [.ref a] _ _ rfl hr e0 (hbind s₁ (.ref a)) (.cons rfl .nil) (hsp H tH hS)) fun r s' h => ?_
  match r, h with
  | .error e, h => exact False.elim h
  | .ok .next, h => exact False.elim h
  | .ok .brk, h => exact False.elim h
  | .ok .cont, h => exact False.elim h
  | .ok (.ret u), h =>
    obtain ⟨v, H', os, bare, un, hok', r', q⟩ := h
    obtain rfl : v = .bl true := q
    obtain rfl : u = Value.bool true := r'
    have same : ∀ b o, b ∉ cs.map (·.2) → s₁.heap.get? b = some o → s'.heap.get? b = some o := fun b o nb e => by
      cases q : H b with
      | none => exact un.keep b o e q (fun z => absurd (show b ∈ ([] : List Addr) from z) (by simp)) (by simp)
      | some u =>
        have q2 := q
        rw [eH] at q2
        rcases H0_cases q2 with ⟨h1, _⟩ | ⟨_, _, rfl⟩
        · exact absurd h1 nb
        · have e1 := (hok b _ q).1
          have e2 := (hok' b _ (un.frzs b _ _ q)).1
          exact e2.trans (e1.symm.trans e)
    have grew : ∀ p ∈ cs, ∃ more : Array Value, s'.heap.get? p.2 = some { cls := .none, data := .fields more } := fun p hp => by
      obtain ⟨more, z⟩ := un.tbls p.2 #[] (tH p hp)
      exact ⟨_, hok' p.2 _ z⟩
    refine ⟨rfl, ⟨fun b o e => ?_, fun b o e => ?_⟩, os, bare⟩
    · by_cases hb : b ∈ cs.map (·.2)
      · obtain ⟨p, hp, rfl⟩ := List.mem_map.mp hb
        obtain ⟨more, hm⟩ := grew p hp
        obtain rfl : o = tabObj := Option.some.inj (e.symm.trans (hT p hp))
        exact .inr (.inl ⟨((hC p hp).tab (hT p hp)).isCodeTable, rfl, #[], more, rfl, by rw [Array.empty_append]; exact hm⟩)
      · exact .inl (same b o hb e)
    · by_cases hb : b ∈ cs.map (·.2)
      · obtain ⟨p, hp, rfl⟩ := List.mem_map.mp hb
        obtain ⟨more, hm⟩ := grew p hp
        exact ⟨_, hm⟩
      · exact ⟨o, same b o hb e⟩
/-- the table of the def called n: its code object's, empty as yet -/
def TabOf (mg : Str → Option Value) (h : Heap) (n : Str) (c Pt : Addr) : Prop := ∃ (f : Addr) (o : Obj) (fd : FuncData), mg n = some (.ref f) ∧ h.get? f = some o ∧ o.data = .func fd ∧ fd.code = .ref c ∧ PySem.W.CodeHd h c Pt ∧ h.get? Pt = some tabObj
theorem walk_G {l : PySem.W.OpenLaw} {n k : Nat} {q : Program} {loose : List Str} {XP : (Str → Option Value) → Heap → Prop} {YP : World → Heap → Prop} {d : DefRec} {K : Params → PySem.W.Frag} {x : Str} (gs : List Str)
    (hn : l.most = some n) (hn2 : n ≤ sizeLine) (hdf : d.params.defaults = []) (hr : Room k callerA) (hrec : ∀ g ∈ gs, ((recsOf q).any fun e => e.name == g) = true) (hY : ∀ (w : World) (h : Heap), YP w h → (K w.params).In h)
    (F : ∀ (w : World) (mg : Str → Option Value) (fa : Addr) (h : Heap), YP w h → (K w.params).In h → h.Ns mainGlobals mg → mg d.name = some (.ref fa) → (∀ g ∈ gs, ∃ c Pt, TabOf mg h g c Pt) →
      ∃ (fd : FuncData) (cs : List (Addr × Addr)) (sp : Sp), (∀ p ∈ cs, h.get? p.2 = some tabObj) ∧ (∀ p ∈ cs, (K w.params).lookup p.2 = none) ∧ (∀ p ∈ cs, PySem.W.CodeHd h p.1 p.2) ∧ (∀ (s : Shared) (u : Value), BindsTo s fd ⟨[u], []⟩ [(x, u)]) ∧
        (∀ (H : Hp) (a : Addr) (ns : List Int), ns.length ≤ n → (∀ z ∈ ns, Builtin.Int.intBits z ≤ 1048576) → (∀ p ∈ cs, H p.2 = some (.tbl #[])) → Scr (K w.params) H a ns → sp [.ref a] H (fun v _ => v = .bl true) fun _ _ _ => False) ∧
        ∀ base : Heap, (K w.params).In base → base.Ns mainGlobals mg → (∀ p ∈ cs, GxR.TabB base mg p.1 p.2) → PFn noRepr l.prog w (K w.params) mg base CX0 k fa fd [x] sp) :
    PySem.W.WalkO q loose XP YP l.row.toRowW d [] (fun f vs => PySem.call f vs) := by
  refine Att.attach_callB hn hdf fun w s₀ s₁ mg mb fa o pm cd doc a vs ns G Y ho hd hcd hmg hobj hints hlen hbits hg => ?_
  have KX := hY w _ Y
  have tabs : ∀ g ∈ gs, ∃ c Pt, TabOf mg s₁.heap g c Pt := fun g hgm => by
    obtain ⟨dL, hm, hn1⟩ := List.any_eq_true.mp (hrec g hgm)
    obtain ⟨f, o', fd', c, Pt, h1, h2, h3, h4, h5, h6⟩ := G.T.tab dL hm
    rw [beq_iff_eq.mp hn1] at h1
    exact ⟨c, Pt, f, o', fd', h1, h2, h3, h4, PySem.W.CodeHd.of h5 h6, h6.2⟩
  obtain ⟨fd, cs, sp, hT, nT, hC, hb, hsp, hF⟩ := F w mg fa _ Y KX G.T.g hmg tabs
  exact end_go KX G.T.g G.T.b G.T.builtins G.T.nolimit hg hT nT hC G.T.bmain hobj hints (Nat.le_trans hlen hn2) hr hF hb fun H hH hS => hsp H a ns hlen hbits hH hS
end HM
namespace HM
open PySem PySem.Spec PyProof.Rows L2
/-- what the written part says of an own refusal with one field -/
structure NoT (P : Program) (st : Stmt) (qual : Str) (K : PySem.W.Frag) (C fI : Addr) : Prop where
  T : OexC K C
  iC : PySem.W.findIn K (.ref C) "__init__" = some (some (.ref fI))
  tI : PySem.W.typeIn K (.ref fI) = some (.type "function")
  fn : ∃ (oc : Value) (od : Option Addr) (kV doc pm : Value) (an : Option Addr) (cda : Addr) (ct : Value) (cc : Addr) (osl : Array (Option Value)) (ccl : Value) (cdd : Option Addr) (vs : Array Value) (ccs : Array (Option Value)) (file : Str) (tf : Tok) (cl : Value) (cld : Option Addr) (csl : Array (Option Value)),
    K.lookup fI = some ⟨oc, od, .func (PySem.W.ksFn "__init__" qual (defArgs st) (defBody st) (defScope st) .none kV doc pm an (.ref cda) ct cc), osl⟩ ∧ PySem.W.codeIn K (.ref cda) qual = true ∧ K.lookup cda = some ⟨ccl, cdd, .fields vs, ccs⟩ ∧ vs[2]? = some (.str file tf) ∧ ((P.main.file : Str) == file) = true ∧
      K.lookup cc = some ⟨cl, cld, .cell (some (.ref C)), csl⟩
  veC : PySem.W.subIn K (.ref C) (.type "ValueError") = some true
  su : PySem.W.nsIn K mainGlobals "super" = some none
  tp : PySem.W.nsIn K cStatics "thirdparty.any" = some none
  si : PySem.W.ks_superIn K C C "__init__" = some (some (.builtin "ValueError.__init__"))
  mr : PySem.W.mroIn K C (.ref C) = some true
  no : PySem.W.findIn K (.ref C) "at" = some none
  tn : (P.main.scope.names.lookup ("super" : Str)).isSome = false
/-- how such an __init__ reads -/
structure InitS (st : Stmt) : Prop where
  bd : ∃ (pre : Str) (j : Nat) (p1 p2 p3 p4 p5 p6 p7 p8 p9 p10 p11 p12 p13 : Pos), pre.length ≤ 100 ∧ defBody st = [.Expr (.Call (.Attribute (.Call (.Name "super" p1) [] [] p2) "__init__" p3) [.JoinedStr [.Constant (.str pre) j p4, .FormattedValue (.Name "at" p5) (-1) none p6] p7] [] p8) p9,
    .Assign [.Attribute (.Name "self" p10) "at" p11] (.Name "at" p12) p13] ∧
    ∀ env : Env, ∃ pl : Sem Bool, eval (.Call (.Attribute (.Call (.Name "super" p1) [] [] p2) "__init__" p3) [.JoinedStr [.Constant (.str pre) j p4, .FormattedValue (.Name "at" p5) (-1) none p6] p7] [] p8) env = (do
      let ov ← attributeBase (.Call (.Name "super" p1) [] [] p2) "__init__" env (eval (.Call (.Name "super" p1) [] [] p2) env)
      standAt p3.atName
      let (f, first) ← holding [ov] (getMethod ov "__init__" pl)
      callWith p8 f first (backTo p8 (starEach [.JoinedStr [.Constant (.str pre) j p4, .FormattedValue (.Name "at" p5) (-1) none p6] p7] env)) [])
  hp : ∃ ar : Arg, ar.arg = "self" ∧ ((defArgs st).posonlyargs ++ (defArgs st).args).head? = some ar
  bi : ∀ (q : Str) (bd : List Stmt) (kV doc pm : Value) (an : Option Addr) (cdv ct : Value) (cc : Addr) (u v : Value), bindArgs (PySem.W.ksFn "__init__" q (defArgs st) bd (defScope st) .none kV doc pm an cdv ct cc) ⟨[u, v], []⟩ = pure [((("self" : Str), u) : Str × Value), ("at", v)]
  k : (defScope st).kind = .function
  co : (defScope st).isCoroutine = false
  ge : (defScope st).isGenerator = false
  ce : ∀ x ∈ (defScope st).names, x.2 ≠ .cell
  ks : (defScope st).names.lookup ("super" : Str) = some .globalImplicit
  kc : (defScope st).names.lookup ("__class__" : Str) = some .free
  kf : (defScope st).names.lookup ("self" : Str) = some .local
  ka : (defScope st).names.lookup ("at" : Str) = some .local
theorem raw_init {P : Program} {w : World} {st : Stmt} {qual : Str} {K : PySem.W.Frag} {mg : Str → Option Value} {C fI e t0 : Addr} {A : Around} {R : Result → Shared → Prop} {h : Heap} {g : Array GenState} {d : Drawn} {t : Nat} {os : OsState} {n : Int} {tk : Tok}
    (N : NoT P st qual K C fI) (S : InitS st) (M : L2.Mod K mg h) (hroom : A.depth < recursionLimit) (he : h.get? e = some (HandSPX.excO C t0)) (hK : K.lookup e = none) (hn : n.natAbs.log2 < 1920) (hz : (toString n : Str).length ≤ 1000)
    (hq : ∀ h' tk' dx t1, (∀ b o, b ≠ e → h.get? b = some o → h'.get? b = some o) → h.get? dx = none → dx ≠ e → h'.get? e = some ({ cls := .ref C, dict := some dx, data := .fields #[.ref t1, .none, .none, .none, .bool false, .none] } : Obj) →
      h'.Ns1 dx (fun y => if y = "at" then some (.int n tk) else none) → R (.ok (.ret .none)) ⟨h', g, d, tk', os⟩) :
    codeAny (model P w) A (.call (.ref fI) ⟨[.ref e, .int n tk], []⟩) R ⟨h, g, d, t, os⟩ := by
  obtain ⟨oc, od, kV, doc, pm, an, cda, ct, cc, osl, ccl, cdd, vs, ccs, file, tf, cl, cld, csl, lI, hcd, lC, hvs, hfl, lc⟩ := N.fn
  obtain ⟨pre, j, p1, p2, p3, p4, p5, p6, p7, p8, p9, p10, p11, p12, p13, hpl, hbd, hev⟩ := S.bd
  obtain ⟨ar, har, hp⟩ := S.hp
  obtain ⟨cnm, cq, cN, cbs, cbm, csn, csub, cab, ccol, cdc, k0, k1, k2, k3, k5, lCC, hbm⟩ := N.T.cls
  have hcl : PySem.W.clsIn K C = some { name := cnm, bases := cbs, mro := .ref C :: cbm, ns := cN, qualname := cq, hasDict := true, slotNames := csn, subclasses := csub, abstract := cab, collection := ccol, hasDel := false } := by unfold PySem.W.clsIn; rw [lCC] <;> rfl
  refine ks_codeAny_call_defAt (binds := [("self", .ref e), ("at", .int n tk)]) hroom (M.kin _ _ lI) rfl M.nolimit (PySem.W.codeRec_of M.kin hcd) rfl (.of_eq (S.bi _ _ _ _ _ _ _ _ _ _ _)) S.ce (fun x hx => ?_) (fun h0 hns k0 => ?_) S.co S.ge S.k
  · rcases List.mem_cons.mp hx with z | hx
    · rw [z]; exact S.kf
    · rw [List.mem_singleton.mp hx]; exact S.ka
  have henv : callEnv (PySem.W.ksFn "__init__" qual (defArgs st) (defBody st) (defScope st) .none kV doc pm an (.ref cda) ct cc) h.objs.size fI = PySem.W.ksEnv qual (defScope st) h.objs.size fI (.ref cda) cc := rfl
  rw [henv, hbd]
  obtain ⟨env, eenv⟩ : ∃ env, env = PySem.W.ksEnv qual (defScope st) h.objs.size fI (.ref cda) cc := ⟨_, rfl⟩
  have g1 : env.scope = defScope st := by rw [eenv]
  have g2 : env.globals = mainGlobals := by rw [eenv]
  have g3 : env.builtins = builtinsNs := by rw [eenv]
  have g4 : env.locals = h.objs.size := by rw [eenv]
  have g5 : env.func = some fI := by rw [eenv]
  have g6 : env.code = .ref cda := by rw [eenv]
  have g7 : env.cells.lookup ("__class__" : Str) = some cc := by rw [eenv]; rfl
  have gk : env.scope.kind = .function := by rw [g1]; exact S.k
  have gL : ∀ {x : Str} {k : NameKind}, (defScope st).names.lookup x = some k → env.kindOf x = some k := fun {x k} q => by show env.scope.names.lookup x = _; rw [g1]; exact q
  rw [← eenv]
  have M0 := mod_up M k0
  have he0 := k0 _ _ he
  have neL : h.objs.size ≠ e := Nat.ne_of_gt (Heap.lt_size he)
  obtain ⟨mb, hmb, hbb⟩ := M0.blt
  obtain ⟨pl, hpv⟩ := hev env
  have hi : interactive env = false := by unfold interactive; rw [gk]; rfl
  refine ks_wpAt_execs_cons (ks_wpAt_Expr_any (ks_wpAt_MethodCall (ks_wpAt_super_base (f := fI) (gL S.ks) (gL S.kc) (by decide) g5 (M0.kin _ _ lI) rfl hp g6 (M0.kin _ _ lC) rfl hvs hfl N.tn ?_) hpv) hi)
  refine PySem.W.ks_loadName_global gk (gL S.ks) (Calls.loadGlobal_builtin (by rw [g2]; exact M0.glob) (PySem.W.mg_none_of M0.kin M0.glob N.su) (by rw [g3]; exact hmb) ((hbb "super" (by decide)).trans (by decide +kernel)) ⟨rfl, ?_⟩)
  refine wpAny_loadName_free gk (gL S.kc) g7 ⟨_, M0.kin _ _ lc, rfl⟩ ?_
  rw [har]
  refine wpAny_loadName_local gk (gL S.kf) (by rw [g4]; exact hns) rfl ?_
  refine ks_wpAny_isType_cls (M0.kin _ _ lCC) rfl ⟨rfl, ?_⟩
  refine ks_wpAny_call_super (M0.kin _ _ lCC) rfl he0 rfl (fun c z => by cases z) (PySem.W.looks_mroIn M0.kin N.mr) fun h1 e1 k1 => ?_
  have M1 := mod_up M0 k1
  have he1 := k1 _ _ he0
  have I1 : PySem.W.InstAt h1 e (HandSPX.excO C t0) C none := ⟨he1, rfl, rfl, trivial⟩
  have hsi := N.si
  unfold PySem.W.ks_superIn at hsi
  rw [hcl] at hsi
  refine PySem.W.kxs_getMethod PySem.W.kxs_ValueError e1 (PySem.W.looks_opaque M1.kin N.tp) (l₀ := .ref C :: cbm) (fun A Q E s k q => wpAny_bind ((PySem.W.looks_clsIn M1.kin hcl) A _ E s k (wpAny_pure q))) rfl M1.kin hsi (I1.type.andThen (PySem.W.looks_subIn M1.kin N.veC)) (PySem.W.ks_ne M1.kin I1 hcl) (by decide) ?_
  -- the text, then the call of the built-in __init__
  refine PySem.W.kxs_callWith (i := "ValueError.__init__") (x := e) rfl (Calls.evalArgs_plain ?_)
  refine Calls.spliced_cons (wpAny_JoinedStr (pos := p7) ?_)
  have k2 : Grows h1 (h1.push (PySem.W.kxs_mw "ValueError.__init__" e)) := fun b o e => Heap.get?_push_of_some _ e
  have hns2 := (hns.keeps k1).keeps k2
  have M2 := mod_up M1 k2
  have he2 := k2 _ _ he1
  have z0 : (Str.empty ++ pre).length ≤ 100 := by rw [strLen_append]; show 0 + pre.length ≤ 100; omega
  have z1 : (Str.empty ++ pre ++ Str.ofString (toString n)).length ≤ sizeLine := by rw [strLen_append, sizeLine_eq]; omega
  refine wpAny_Constant_str ⟨pre, _, rfl, Nat.le_trans z0 (by rw [sizeLine_eq]; decide), ?_⟩
  refine wpAny_FormattedValue_plain (wpAny_Name (wpAny_loadName_local gk (gL S.ka) (by rw [g4]; exact hns2) rfl ?_) (by decide))
  refine wpAny_formatField_int hn ⟨_, _, rfl, z1, z1, ?_⟩
  have hu : (h1.push (PySem.W.kxs_mw "ValueError.__init__" e)).get? h1.objs.size = some (PySem.W.kxs_mw "ValueError.__init__" e) := Heap.get?_push_size _ rfl
  refine Calls.spliced_nil ⟨hu, ?_⟩
  refine wpAny_call (codeAny_of_tree ?_)
  show wpAny _ (A.deeper env).in1 (callAny (.ref h1.objs.size) ⟨[_], []⟩) _ _ _
  simp only [callAny]
  refine wpAny_bind (wpAny_load hu ?_)
  simp only [PySem.W.kxs_mw, show (Value.type "method-wrapper" == Value.type "method" || Value.type "method-wrapper" == Value.type "builtin_function_or_method" || Value.type "method-wrapper" == Value.type "method-wrapper") = true by decide, if_true]
  refine PySem.W.KFB.if_so (by decide) ?_
  refine wpAny_bind (PySem.W.check_bound_init F.excBase_ValueError.toExcCallFacts (M2.kin _ _ lCC) he2 rfl ?_)
  refine wpAny_bind (wpAny_pure (wpAny_pure ?_))
  refine ⟨plainId_quiet F.excBase_ValueError.init.plain _, codeAny_builtin F.excBase_ValueError.initEntry ?_⟩
  refine PySem.W.exc_init_tree (cls := .ref C) (t0 := t0) (dv := none) (c2 := .none) (c3 := .none) (b4 := .bool false) he2 (by show 1 ≤ sizeLine; rw [sizeLine_eq]; decide) fun h3 k3 he3 _ => ?_
  -- self.at = at
  have up : ∀ b o, b ≠ e → h0.get? b = some o → h3.get? b = some o := fun b o hb z => k3 b o hb (k2 _ _ (k1 _ _ z))
  have hns3 : h3.Ns h.objs.size (fun x => [(("self" : Str), Value.ref e), ("at", .int n tk)].reverse.lookup x) := by
    obtain ⟨oL, es, ep, hL, r⟩ := hns
    exact ⟨oL, es, ep, up _ _ neL hL, r⟩
  have K3 : K.In h3 := fun b o z => by
    refine up b o (fun q => ?_) (M0.kin b o z)
    rw [q, hK] at z
    cases z
  refine wpAt_of_wpAny (wpAny_execs_cons (plainObj_wpAny_Assign_Attribute ?_))
  refine wpAny_Name (wpAny_loadName_local gk (gL S.ka) (by rw [g4]; exact hns3) rfl ?_) (by decide)
  refine wpAny_Name (wpAny_loadName_local gk (gL S.kf) (by rw [g4]; exact hns3) rfl ?_) (by decide)
  refine PySem.W.set_plain K3 (ox := { cls := .ref C, dict := none, data := .fields #[.ref _, .none, .none, .none, .bool false, .none] }) (od := none) ⟨he3, rfl, rfl, trivial⟩ N.T.sa ?_
  refine HandSPX.exc_osa K3 he3 hcl (show HandSPX.refsVE (.ref C :: cbm) = true from hbm) rfl N.no (fun h4 tk4 dx k4 dn dne hx hn4 => ?_)
  refine wpAny_execs_nil ?_
  refine hq h4 tk4 dx _ (fun b o hb z => k4 b o hb (up b o hb (k0 _ _ z))) ?_ dne hx hn4
  cases z : h.get? dx with
  | none => rfl
  | some o => exact absurd (Heap.lt_size (up dx o dne (k0 _ _ z))) (Nat.not_lt.mpr dn)
end HM
namespace HM
open PySem PySem.Spec PyProof.Rows L2
/-- what C(n) leaves at a: the refusal, its dict at dx -/
abbrev excD (C dx t1 : Addr) : Obj := { cls := .ref C, dict := some dx, data := .fields #[.ref t1, .none, .none, .none, .bool false, .none] }
section
variable {X : Cx} {pins : List (Addr × Obj)} {σ : L2.St} {H : Hp} {s : Shared} {st : Stmt} {qual : Str} {C fI : Addr} {n : Int} {tk : Tok}
theorem call_mk {k : Nat} {E : Value → Shared → Prop} {Q : Value → Shared → Prop} (N : NoT X.prog st qual X.K C fI) (S : InitS st) (hr : Room (k + 2) X.A) (I : Inv X pins σ H s) (hn : n.natAbs.log2 < 1920) (hz : (toString n : Str).length ≤ 1000)
    (h : ∀ h' tk' a dx t1, Grows s.heap h' → s.heap.get? a = none → s.heap.get? dx = none → dx ≠ a → h'.get? a = some (excD C dx t1) → h'.Ns1 dx (fun y => if y = "at" then some (.int n tk) else none) → Q (.ref a) { s with heap := h', toks := tk' }) :
    wpAny (model X.prog X.w) X.A (call (.ref C) [.int n tk]) Q E s := by
  obtain ⟨nm, q, Na, bs, bm, sn, sub, ab, col, dd, k0, k1, k2, k3, k5, hC, hbm⟩ := N.T.cls
  obtain ⟨hp, g, dr, t, os⟩ := s
  have kk : Grows hp ((hp.push (PySem.W.kdv_tup [.int n tk])).push (HandSPX.excO C hp.objs.size)) := fun b o e => Heap.get?_push_of_some _ (Heap.get?_push_of_some _ e)
  have hget : ((hp.push (PySem.W.kdv_tup [.int n tk])).push (HandSPX.excO C hp.objs.size)).get? (hp.objs.size + 1) = some (HandSPX.excO C hp.objs.size) := by heap_get
  have ha : hp.get? (hp.objs.size + 1) = none := by
    cases e : hp.get? (hp.objs.size + 1) with
    | none => rfl
    | some o => exact absurd (Heap.lt_size e) (Nat.not_lt.mpr (Nat.le_succ _))
  have M := mod_up (mod_up I.mod I.bk) kk
  refine wpAny_call (HandSPX.call_own F.excBase_ValueError (fun Y => HandSPX.refsVE_contains Y bm hbm) (I.kIn _ _ hC) (PySem.W.looks_findIn I.kIn N.iC) (fun self => PySem.W.bind_fn I.kIn self N.tI) (by show 1 ≤ sizeLine; rw [sizeLine_eq]; decide) ?_)
  refine raw_init N S M (hr.make C [.int n tk] []).depth hget ?_ hn hz fun h' tk' dx t1 kh dn dne hx hns => ⟨rfl, ?_⟩
  · cases e : X.K.lookup (hp.objs.size + 1) with
    | none => rfl
    | some o =>
      have z := I.kIn _ _ e
      rw [ha] at z
      cases z
  · refine h h' tk' (hp.objs.size + 1) dx t1 (fun b o e => kh b o (fun z => ?_) (kk b o e)) ha ?_ dne hx hns
    · rw [z] at e
      have e2 : hp.get? (hp.objs.size + 1) = some o := e
      rw [ha] at e2
      cases e2
    · cases e : hp.get? dx with
      | none => rfl
      | some o =>
        have z := kk _ _ e
        rw [dn] at z
        cases z
/-- a refusal that is kept as a value: its class, its dict -/
def ExV (C d a : Addr) : HO := .ext fun h => ∃ (oe : Obj) (vs : Array Value), h.get? a = some oe ∧ Zc (.ref C) (some d) oe ∧ oe.data = .fields vs
theorem exV_ok {P : Program} {w : World} {H : Hp} {h : Heap} {C d a : Addr} {oe : Obj} {vs : Array Value} (e : h.get? a = some oe) (z : Zc (.ref C) (some d) oe) (hd : oe.data = .fields vs) : ObjOk P w H h a (ExV C d a) :=
  ⟨⟨oe, vs, e, z, hd⟩, ⟨oe, e⟩, fun _ _ ⟨o, v, q, r⟩ k => ⟨o, v, k o q, r⟩⟩
theorem exV_at {P : Program} {w : World} {H : Hp} {h : Heap} {C d a : Addr} (hok : HOk P w H h) (e : H a = some (ExV C d a)) : ∃ (oe : Obj) (vs : Array Value), h.get? a = some oe ∧ Zc (.ref C) (some d) oe ∧ oe.data = .fields vs := by
  have x : ObjOk P w H h a (.ext fun h => ∃ (oe : Obj) (vs : Array Value), h.get? a = some oe ∧ Zc (.ref C) (some d) oe ∧ oe.data = .fields vs) := hok a _ e
  exact x.1
theorem xd_ok {P : Program} {w : World} {H : Hp} {h : Heap} {dx : Addr} (hns : h.Ns1 dx (fun y => if y = "at" then some (.int n tk) else none)) : ObjOk P w H h dx (.xd [("at", .int n)]) :=
  ⟨_, hns, fun f => relO_put (f := "at") (y := .int n) (u := .int n tk) (fs := []) (mA := fun _ => none) ⟨tk, rfl⟩ (fun _ => True.intro) f⟩
/-- raise C(n) -/
def tMkN (C : Addr) (te : TE) : L2.St → Hp → XK → Prop := fun σ H Q => te σ H fun v H1 => ∃ n : Int, v = .int n ∧ n.natAbs.log2 < 1920 ∧ (toString n : Str).length ≤ 1000 ∧ ∀ d, H1 d = none → Q (.ref C) (some d) (upd H1 d (.xd [("at", .int n)]))
theorem pmk_n {k : Nat} {x : Str} {e : Expr} {te : TE} {p pos : Pos} (N : NoT X.prog st qual X.K C fI) (S : InitS st) (hr : Room (k + 2) X.A) (hg : Gl X x) (hm : X.mg x = some (.ref C)) (he : PE X e te)
    (hdb : (x == ("__debug__" : Str)) = false := by decide) (hs : starEach [e] X.env = (false, eval e X.env) :: starEach [] X.env := by rfl) : PMk X (.Call (.Name x p) [e] [] pos) (tMkN C te) := by
  intro pins s σ H Q I h
  refine wpAny_Call_Name_kw (ld_glob I hg hm ?_ hdb)
  refine PySem.W.callWith_K (h₀ := X.base) I.ok.mod.kin N.T.kC ?_ hs (by rfl)
  rw [hs]
  show wpAny _ _ (spliced ((false, eval e X.env) :: backTo pos (starEach [] X.env))) _ _ s
  refine Calls.spliced_cons (thn (he.run pins s σ H _ I h) fun u s1 hx => ?_)
  obtain ⟨v, H1, I1, r1, n, rfl, hn, hz, q1⟩ := hx
  obtain ⟨tk, rfl⟩ := r1
  refine Calls.spliced_nil ⟨I1.kIn, ?_⟩
  refine call_mk N S hr I1 hn hz fun h' tk' a dx t1 kh ha hdx hne hx hns => ?_
  obtain ⟨G, g1, g2⟩ := restrict h' fun b => decide (b ≠ a)
  have gk : ∀ b, b ≠ a → G.get? b = h'.get? b := fun b hb => g1 b (decide_eq_true hb)
  have ga : G.get? a = none := g2 a (decide_eq_false fun z => z rfl)
  have hH : H1 dx = none := I1.hok.gone hdx
  have kG : Grows s1.heap G := fun b o e => by
    rw [gk b fun z => ?_]
    · exact kh b o e
    · rw [z, ha] at e
      cases e
  have hnsG : G.Ns1 dx (fun y => if y = "at" then some (.int n tk) else none) := hns.at fun o z => (gk dx hne).trans z
  have J : Inv X pins σ (upd H1 dx (.xd [("at", .int n)])) { s1 with heap := G, toks := tk' } := I1.laidN kG hdx hH (xd_ok hnsG)
  refine ⟨a, _, _, { s1 with heap := G, toks := tk' }, _, .ref C, some dx, rfl, J, fun b o e => ?_, ga, hx, ⟨rfl, rfl⟩, rfl, rfl, ?_, rfl, I1.bare, raises_own N.T.exC N.T.tyC, q1 dx hH⟩
  · have hb : b ≠ a := fun z => by
      have e2 : G.get? b = some o := e
      rw [z, ga] at e2
      cases e2
    exact (gk b hb).symm.trans e
  · rw [upd_ne (Ne.symm hne)]
    exact I1.hok.gone ha
/-- C(n) as a value -/
def tMkV (C : Addr) (te : TE) : TE := fun σ H Q => te σ H fun v H1 => ∃ n : Int, v = .int n ∧ n.natAbs.log2 < 1920 ∧ (toString n : Str).length ≤ 1000 ∧ ∀ d a, H1 d = none → H1 a = none → a ≠ d → Q (.ref a) (upd (upd H1 d (.xd [("at", .int n)])) a (ExV C d a))
theorem pe_mkV {k : Nat} {x : Str} {e : Expr} {te : TE} {p pos : Pos} (N : NoT X.prog st qual X.K C fI) (S : InitS st) (hr : Room (k + 2) X.A) (hg : Gl X x) (hm : X.mg x = some (.ref C)) (he : PE X e te)
    (hdb : (x == ("__debug__" : Str)) = false := by decide) (hs : starEach [e] X.env = (false, eval e X.env) :: starEach [] X.env := by rfl) : PE X (.Call (.Name x p) [e] [] pos) (tMkV C te) := by
  refine ⟨fun pins s σ H Q I h => ?_⟩
  refine wpAny_Call_Name_kw (ld_glob I hg hm ?_ hdb)
  refine PySem.W.callWith_K (h₀ := X.base) I.ok.mod.kin N.T.kC ?_ hs (by rfl)
  rw [hs]
  show wpAny _ _ (spliced ((false, eval e X.env) :: backTo pos (starEach [] X.env))) _ _ s
  refine Calls.spliced_cons (thn (he.run pins s σ H _ I h) fun u s1 hx => ?_)
  obtain ⟨v, H1, I1, r1, n, rfl, hn, hz, q1⟩ := hx
  obtain ⟨tk, rfl⟩ := r1
  refine Calls.spliced_nil ⟨I1.kIn, ?_⟩
  refine call_mk N S hr I1 hn hz fun h' tk' a dx t1 kh ha hdx hne hx hns => ?_
  have hH : H1 dx = none := I1.hok.gone hdx
  have hA : H1 a = none := I1.hok.gone ha
  obtain ⟨G, g1, g2⟩ := restrict h' fun b => decide (b ≠ a)
  have gk : ∀ b, b ≠ a → G.get? b = h'.get? b := fun b hb => g1 b (decide_eq_true hb)
  have ga : G.get? a = none := g2 a (decide_eq_false fun z => z rfl)
  have kG : Grows s1.heap G := fun b o e => by
    rw [gk b fun z => ?_]
    · exact kh b o e
    · rw [z, ha] at e
      cases e
  have J : Inv X pins σ (upd H1 dx (.xd [("at", .int n)])) { s1 with heap := G, toks := tk' } := I1.laidN kG hdx hH (xd_ok (hns.at fun o z => (gk dx hne).trans z))
  have hA2 : upd H1 dx (.xd [("at", .int n)]) a = none := by rw [upd_ne (Ne.symm hne)]; exact hA
  have J2 : Inv X pins σ (upd (upd H1 dx (.xd [("at", .int n)])) a (ExV C dx a)) { s1 with heap := h', toks := tk' } := J.laidN (h' := h') (t' := tk') (fun b o e => by
    have hb : b ≠ a := fun z => by
      have e2 : G.get? b = some o := e
      rw [z, ga] at e2
      cases e2
    exact (gk b hb).symm.trans e) ga hA2 (exV_ok hx ⟨rfl, rfl⟩ rfl)
  exact ⟨.ref a, _, J2, rfl, q1 dx a hH hA (Ne.symm hne)⟩
/-- e.at of a refusal that is kept -/
def tXfV (C : Addr) (f : Str) (te : TE) : TE := fun σ H Q => te σ H fun x H1 => ∃ (a d : Addr) (fs : List (Str × V)) (v : V), x = .ref a ∧ H1 a = some (ExV C d a) ∧ H1 d = some (.xd fs) ∧ fs.lookup f = some v ∧ Q v H1
theorem pe_xfV {e : Expr} {te : TE} {pos : Pos} {f : Str} (T : XfC X.K C) (hno : PySem.W.findIn X.K (.ref C) f = some none) (he : PE X e te) (hb : attributeBase e f X.env (eval e X.env) = eval e X.env := by rfl) : PE X (.Attribute e f pos) (tXfV C f te) := by
  refine ⟨fun pins s σ H Q I h => ?_⟩
  refine attr_of hb (thn (he.run pins s σ H _ I h) fun u s1 hh => ?_)
  obtain ⟨x, H1, I1, rx, a, dd, fs, v, rfl, ea, ed, l, q⟩ := hh
  obtain rfl : u = Value.ref a := rx
  obtain ⟨oe, vs, ha, hz, hd⟩ := exV_at I1.hok ea
  have hx : ObjOk X.prog X.w H1 s1.heap dd (.xd fs) := I1.hok dd _ ed
  obtain ⟨mA, hns, hr⟩ := hx
  obtain ⟨od, ho, hl⟩ := lookIn_ns hns
  obtain ⟨u, hu, ru⟩ := RelO.some_of (v := v) (o := mA f) (by rw [← l]; exact hr f)
  have J : PySem.W.InstAt s1.heap a oe C (some od) := ⟨ha, hz.1, by unfold PySem.W.notCls; rw [hd] <;> rfl, by rw [hz.2]; exact ho⟩
  exact HandSPX.exc_get I1.kIn J T.ga T.gg T.exC (PySem.W.findObj_own T.hdC hno rfl (by rw [hl, hu])) (handed_of ru) ⟨v, H1, I1.tok _, ru, q⟩
theorem instV {a d : Addr} {fs : List (Str × V)} (I : Inv X pins σ H s) (ea : H a = some (ExV C d a)) (ed : H d = some (.xd fs)) : ∃ oe od, PySem.W.InstAt s.heap a oe C (some od) := by
  obtain ⟨oe, vs, ha, hz, hd⟩ := exV_at I.hok ea
  have hx : ObjOk X.prog X.w H s.heap d (.xd fs) := I.hok d _ ed
  obtain ⟨mA, hns, hr⟩ := hx
  obtain ⟨od, ho, hl⟩ := lookIn_ns hns
  exact ⟨oe, od, ha, hz.1, by unfold PySem.W.notCls; rw [hd] <;> rfl, by rw [hz.2]; exact ho⟩
/-- isinstance(e, c) and isinstance(e, (c, ..)) -/
def rIsV (K : PySem.W.Frag) (C : Addr) : List V → Hp → VK → Prop := fun xs H Q => ∃ (a d : Addr) (fs : List (Str × V)) (c : V) (u : Value) (b : Bool), xs = [.ref a, c] ∧ ClsV c u ∧ H a = some (ExV C d a) ∧ H d = some (.xd fs) ∧ PySem.W.kitOne K (.ref C) u = some b ∧ Q (.bl b) H
theorem call_isV (T : ExcC X.K C) : CallR X (.builtin "isinstance") (rIsV X.K C) := by
  intro pins s σ H xs us Q I r h
  obtain ⟨a, d, fs, c, u, b, rfl, k, ea, ed, e, q⟩ := h
  obtain ⟨u1, u2, rfl, r1, r2⟩ := vals2 r
  have e2 := k.eq r2
  subst e2
  obtain rfl : u1 = Value.ref a := r1
  obtain ⟨oe, od, J⟩ := instV I ea ed
  have hcl : (PySem.W.clsIn X.K C).isSome = true := by obtain ⟨cd, hc, _⟩ := PySem.W.any_some T.hd; rw [hc]; rfl
  exact PySem.W.kia_one (PySem.W.kitx_exc hcl T.hg T.hk T.hs T.ha T.hn T.ht T.hm) I.kIn J e (fun z => nomatch z) fun tk => ⟨.bl b, H, I.tok tk, rfl, q⟩
def rIsVT (K : PySem.W.Frag) (C : Addr) : List V → Hp → VK → Prop := fun xs H Q => ∃ (a d : Addr) (fs : List (Str × V)) (tp : Addr) (cs : List V) (us : List Value) (b : Bool), xs = [.ref a, .ref tp] ∧ H tp = some (.tup cs) ∧ Paired ClsV cs us ∧ H a = some (ExV C d a) ∧ H d = some (.xd fs) ∧ PySem.W.kitAny K (.ref C) us = some b ∧ Q (.bl b) H
theorem call_isVT (T : ExcC X.K C) : CallR X (.builtin "isinstance") (rIsVT X.K C) := by
  intro pins s σ H xs us Q I r h
  obtain ⟨a, d, fs, tp, cs, ws, b, rfl, hT, k, ea, ed, e, q⟩ := h
  obtain ⟨u1, u2, rfl, r1, r2⟩ := vals2 r
  cases (show u2 = Value.ref tp from r2)
  obtain rfl : u1 = Value.ref a := r1
  obtain ⟨oe, od, J⟩ := instV I ea ed
  obtain ⟨_, its, rv, o, h1, h2, n, h3⟩ := (show ObjOk X.prog X.w H s.heap tp (.tup cs) from I.hok tp _ hT)
  have e3 := ClsV.all k rv
  subst e3
  obtain ⟨oc, od', dt, sl⟩ := o
  simp only at h2 h3
  subst h2 h3
  have hcl : (PySem.W.clsIn X.K C).isSome = true := by obtain ⟨cd, hc, _⟩ := PySem.W.any_some T.hd; rw [hc]; rfl
  exact PySem.W.kia_tup (PySem.W.kitx_exc hcl T.hg T.hk T.hs T.ha T.hn T.ht T.hm) I.kIn J h1 e (fun z => nomatch z) fun tk => ⟨.bl b, H, I.tok tk, rfl, q⟩
end
end HM
namespace HM
open PySem PySem.Spec PyProof.Rows L2
section
variable {X : Cx} {pins : List (Addr × Obj)} {σ : L2.St} {H : Hp} {s : Shared}
/-- a record that nobody tracks and that was not there at the entry may be tracked -/
theorem track {a C d : Addr} {oe : Obj} {vs : Array Value} (I : Inv X pins σ H s) (ha : s.heap.get? a = some oe) (hz : Zc (.ref C) (some d) oe) (hd : oe.data = .fields vs) (na : H a = none) (n0 : X.s_0.heap.get? a = none) (np : ∀ p ∈ X.pn ++ pins, p.1 ≠ a) (nL : a ≠ X.env.locals) :
    Inv X pins σ (upd H a (ExV C d a)) s := by
  have ne0 : ∀ {b : Addr} {o : Obj}, X.s_0.heap.get? b = some o → b ≠ a := fun {b o} e z => by
    rw [z, n0] at e
    cases e
  refine ⟨I.ok, I.os, I.bare, ⟨I.base.keep, I.base.slot, fun b o e n hx => ?_, I.base.there, fun b xs e => ?_, fun b o u e => ?_, fun b ps e => ?_⟩, I.loc, I.cell, ?_, fun x c e => ?_, fun p hp => ?_, fun b u e => ?_, I.len⟩
  · rw [upd_ne (ne0 e)]
    exact I.base.free b o e n hx
  · have q := I.base.tups b xs e
    rw [upd_ne (ne_of_none q na)]
    exact q
  · have q := I.base.frzs b o u e
    rw [upd_ne (ne_of_none q na)]
    exact q
  · obtain ⟨more, q⟩ := I.base.tbls b ps e
    exact ⟨more, by rw [upd_ne (ne_of_none q na)]; exact q⟩
  · rw [upd_ne nL.symm]
    exact I.free
  · rw [upd_ne fun z => ?_]
    · exact I.freeC x c e
    · obtain ⟨v, o, ho, hv⟩ := I.cell x c e
      rw [z, ha] at ho
      cases ho
      rw [hd] at hv
      cases hv
  · obtain ⟨h1, h2, h3⟩ := I.pin p hp
    exact ⟨h1, by rw [upd_ne (np p hp)]; exact h2, h3⟩
  · by_cases hb : b = a
    · subst hb
      rw [upd_same] at e
      cases e
      exact exV_ok ha hz hd
    · rw [upd_ne hb] at e
      exact (I.hok b u e).stay (fun c v _ q => q) (fun c q => by rw [upd_ne (ne_of_none q na)]; exact q) fun c xs q => by rw [upd_ne (ne_of_none q na)]; exact q
end
/-- what 'except x as n' wishes: the refusal is kept behind its suite -/
def wKeep (K : PySem.W.Frag) (c : Value) (i : Nat) (ts : Addr → TS) (Wout : WX) (D : Ends) : WX := fun cls d σ H =>
  ∃ b, PySem.W.exmOne K cls c = some b ∧ (b = true → ∃ C dd : Addr, cls = .ref C ∧ d = some dd ∧ ∀ a, H a = none →
    ts a { nx := fun σ' H' => D.nx (σ'.set i none) (upd H' a (ExV C dd a)), rt := fun _ _ => False, bk := fun _ _ => False, ct := fun _ _ => False } (σ.set i (some (.ref a))) H) ∧ (b = false → Wout cls d σ H)
section
variable {X : Cx} {x n : Str} {c : Value} {i : Nat} {body suite : List Stmt} {b₀ : Stmt} {np pos pos' : Pos} {tb : WX → TS} {ts : Addr → TS} {Wout : WX}
theorem ps_tryK (hs : X.stack = X.env :: X.outer) (hf : X.env.frame = some X.env.locals) (hN : X.N.Nodup) (hi : X.N[i]? = some n) (hln : X.env.kindOf n = some .local) (hc : Names X x c) (tk : Takes X Wout) (hex : X.ex = [])
    (hb : ∀ (W : WX) (pn : List (Addr × Obj)) (xe : Value → Shared → Prop), Takes (X.tr pn xe) W → PassesOwn (model X.prog X.w) X.A X.env xe → PSs (X.tr pn xe) body (tb W))
    (hsu : ∀ (a : Addr) (oe : Obj) (pn : List (Addr × Obj)), PSs (X.suite a ((a, oe) :: pn)) (b₀ :: suite) (ts a)) :
    PS X (.Try body [.ExceptHandler (some (.Name x np)) (some n) (b₀ :: suite) pos'] [] [] pos) (fun D σ H => tb (wKeep X.K c i ts Wout D) D σ H) := by
  refine ⟨fun pins s σ H D I h => ?_⟩
  have ok := I.ok
  have hfr : X.A.frames = some (X.env :: X.outer) := ok.frames.trans (congrArg some hs)
  obtain ⟨hd, ehd⟩ : ∃ hd : ExceptHandler, hd = .ExceptHandler (some (.Name x np)) (some n) (b₀ :: suite) pos' := ⟨_, rfl⟩
  have catch_ : ∀ u s', XE (X.tr (X.pn ++ pins) fun _ _ => True) (wKeep X.K c i ts Wout D) u s' → wpAny (model X.prog X.w) X.A (noteFrame u X.env) (fun _ s₂ => wpAny (model X.prog X.w) X.A (setFlight u none) (fun _ s₃ =>
      wpAny (model X.prog X.w) X.A (handleBy u X.env [hd]) (SP X pins D) X.xe s₃) X.xe s₂) X.xe s' := fun u s' xx => by
    obtain ⟨a, B, sI, pins', σ', H', cls, d, rfl, J', nb, up, sky, na, os, ag, b, hb1, hyes, hno⟩ := xx
    have J : Inv X pins σ' H' sI := J'.ofTry ok
    have sky2 : Sky B (X.env :: X.outer) a (Zc cls d) X.env.locals s'.heap := hs ▸ sky
    refine Sky.land Zc.steady hfr hf sky2 fun h3 fl3 up3 => ?_
    have J3 : Inv X pins σ' H' { s' with heap := h3 } := J.landed nb fl3.1 (up.trans up3) os ag
    obtain ⟨oe3, vs3, he3, hz3, hd3⟩ := fl3.there
    have nfr : a ∉ frs (X.env :: X.outer) := fun hm => by
      obtain ⟨_, o', e', hnf⟩ := fl3.2.2.1.mem hm
      cases he3.symm.trans e'
      exact hnf _ hd3
    have hBa : B.get? a = none := fl3.2.1
    have nL : a ≠ X.env.locals := fun z => nfr (List.mem_filterMap.mpr ⟨X.env, List.mem_cons_self, by rw [z]; exact hf⟩)
    have nF : a ∉ X.fs := fun hm => by
      obtain ⟨e, he, q⟩ := List.mem_filterMap.mp hm
      exact nfr (List.mem_filterMap.mpr ⟨e, List.mem_cons_of_mem _ he, q⟩)
    have S3 := J3.suite he3 hd3 na nL nF
    rw [ehd]
    refine wpAny_handleBy_cons (codeAny_handlers_test ?_) (by intro q; cases q)
    have LM := PySem.W.exm_one (M := model X.prog X.w) J3.kIn (show PySem.W.Looks (model X.prog X.w) h3 (typeOf (.ref a)) cls from fun A Q E s k q => wpAny_typeOf_ref (k _ _ he3) (hz3.1 ▸ q)) hb1
    have test : ∀ {Q : Value → Shared → Prop} {E : Value → Shared → Prop}, Q c { s' with heap := h3 } → wpAny (model X.prog X.w) (X.A.mark (some (.ref a))) (eval (.Name x np) X.env) Q E { s' with heap := h3 } := fun {Q E} q => by
      obtain ⟨hg, hdbg, hm | ⟨hm, hv, hnn⟩⟩ := hc
      · exact ld_glob (X := X.suite a ((a, oe3) :: (X.pn ++ pins))) S3 hg hm q hdbg
      · exact ld_blt (X := X.suite a ((a, oe3) :: (X.pn ++ pins))) S3 hg hm hv q hnn hdbg
    refine test (LM.here ?_)
    cases b with
    | true =>
      obtain ⟨C, dd, rfl, rfl, hye2⟩ := hyes rfl
      refine codeAny_handlers_suite_as (HandSPX.lands_againZ fl3 fun h4 fl4 up4 => ?_)
      have J4 : Inv X pins σ' H' { s' with heap := h4 } := J.landed nb fl4.1 ((up.trans up3).trans up4) os ag
      obtain ⟨oe4, vs4, he4, hz4, hd4⟩ := fl4.there
      have S4 := J4.suite he4 hd4 na nL nF
      refine store_ok (X := X.suite a ((a, oe4) :: (X.pn ++ pins))) (v := .ref a) S4 hN hi (.inl hln) rfl (fun s5 S5 => ?_) (.inr hln)
      refine wpAny_mono ((hsu a oe4 (X.pn ++ pins)).run [] s5 _ H' _ S5 (hye2 a na)) (fun f s6 hsp => ?_) (fun _ _ z => z.elim)
      cases f with
      | next =>
        obtain ⟨σ6, H6, S6, q6⟩ := hsp
        obtain ⟨p1, p2, _⟩ := S6.pin (a, oe4) (List.mem_append_left _ List.mem_cons_self)
        have n0 : X.s_0.heap.get? a = none := by
          cases e : X.s_0.heap.get? a with
          | none => rfl
          | some o =>
            obtain ⟨o', e'⟩ := J.base.there a o e (by rw [hex]; exact fun z => nomatch z)
            have z := nb a o' e' (by show a ∉ frs X.stack; rw [hs]; exact nfr)
            rw [hBa] at z
            cases z
        have npin : ∀ p ∈ X.pn ++ pins, p.1 ≠ a := fun p hp z => by
          obtain ⟨e1, e2, e3, e4, _⟩ := J.pin p hp
          rw [z] at e1
          have q := nb a _ e1 (by show a ∉ frs X.stack; rw [hs]; exact nfr)
          rw [hBa] at q
          cases q
        have J6 : Inv X pins σ6 (upd H6 a (ExV C dd a)) s6 := track (S6.unsuite ok) p1 hz4 hd4 p2 n0 npin nL
        exact gone_ok J6 hN hi hln fun s7 J7 => ⟨_, _, J7, q6⟩
      | brk =>
        obtain ⟨σ6, H6, S6, q6⟩ := hsp
        exact q6.elim
      | cont =>
        obtain ⟨σ6, H6, S6, q6⟩ := hsp
        exact q6.elim
      | ret u =>
        obtain ⟨v6, σ6, H6, S6, r6, q6⟩ := hsp
        exact q6.elim
    | false =>
      refine wpAny_handleBy_nil ?_
      obtain ⟨k1, k2, k3, oe, vs, T, oT, ts', he, hz, hd, h1, hr⟩ := id fl3
      unfold PySem.passOn
      refine wpAny_bind (wpAny_field he hd h1 ?_)
      rw [if_neg (show ¬ ((Value.ref T == Value.none) = true) from by simp)]
      have fin : wpAny (model X.prog X.w) X.A (setFlight (.ref a) X.env.frame) (fun _ s4 => wpAny (model X.prog X.w) X.A (throw (.ref a) : Sem Flow) (SP X pins D) X.xe s4) X.xe { s' with heap := h3 } := by
        rw [hf]
        refine HandSPX.setFlight_upZ fl3 fun h4 hh4 up4 => wpAny_throw (tk _ _ ⟨a, B, sI, pins, σ', H', cls, d, rfl, J, nb, (up.trans up3).trans up4, .inr (.inr (hs ▸ hh4)), na, os, ag, hno rfl⟩)
      first
        | exact wpAny_bind (wpAny_pure (wpAny_bind fin))
        | exact wpAny_bind fin
  rw [← ehd]
  refine wpAny_Try_except ?_
  refine wpAny_mono ((hb (wKeep X.K c i ts Wout D) (X.pn ++ pins) _ (fun u s' xx => catch_ u s' ?_) PassesOwn.looking).run [] s σ H D (I.toTry _) h) (fun f s1 hsp => ?_) (fun e s1 he => he)
  · obtain ⟨a, B, sI, pins', σ', H', cls, d, e, J', r⟩ := xx
    exact ⟨a, B, sI, pins', σ', H', cls, d, e, ⟨J'.ok.ofTry.toTry _ _, J'.os, J'.bare, J'.base, J'.loc, J'.cell, J'.free, J'.freeC, J'.pin, J'.hok, J'.len⟩, r⟩
  · cases f with
    | next =>
      obtain ⟨σ', H', J', q⟩ := hsp
      exact wpAny_execs_nil ⟨σ', H', J'.ofTry ok, q⟩
    | brk =>
      obtain ⟨σ', H', J', q⟩ := hsp
      exact ⟨σ', H', J'.ofTry ok, q⟩
    | cont =>
      obtain ⟨σ', H', J', q⟩ := hsp
      exact ⟨σ', H', J'.ofTry ok, q⟩
    | ret u =>
      obtain ⟨v, σ', H', J', r, q⟩ := hsp
      exact ⟨v, σ', H', J'.ofTry ok, r, q⟩
end
end HM
namespace HM
open PySem PySem.Spec PyProof.Rows L2
/-! ### tuples whose object is known: they have no dict of their own, so that their methods can be asked for -/
def TF (H : Hp) (a : Addr) (xs : List V) : Prop := ∃ o : Obj, o.dict = none ∧ H a = some (.frz o (.tup xs))
theorem TF.sq {K : PySem.W.Frag} {H : Hp} {a : Addr} {xs : List V} (h : TF H a xs) : SqT K H a xs := let ⟨o, _, e⟩ := h; .inl (.inr ⟨o, e⟩)
/-- a new tuple of xs -/
def newT (xs : List V) (H : Hp) (Q : VK) : Prop := ∀ (p : Addr) (o : Obj), H p = none → o.dict = none → Q (.ref p) (upd H p (.frz o (.tup xs)))
section
variable {X : Cx} {pins : List (Addr × Obj)} {σ : L2.St} {H : Hp} {s : Shared}
theorem laidF {h' : Heap} {a : Addr} {its : List Value} {xs : List V} {t' : Nat} {Q : VK} (I : Inv X pins σ H s) (k : Grows s.heap h') (hp : s.heap.objs.size ≤ a) (hz : xs.length ≤ sizeLine) (r : Vals xs its) (e : h'.get? a = some { cls := .type "tuple", data := .seq its.toArray }) (q : newT xs H Q) :
    EP X pins σ Q (.ref a) { s with heap := h', toks := t' } :=
  ⟨.ref a, upd H a (.frz { cls := .type "tuple", data := .seq its.toArray } (.tup xs)), I.laid k hp ⟨e, hz, its, r, ⟨_, e, rfl, _, rfl⟩⟩, rfl, q a _ (I.hok.fresh hp) rfl⟩
/-- (a, b, ..) -/
def tTupF (t : TA) : TE := fun σ H Q => t σ H fun xs H1 => xs.length ≤ sizeLine ∧ newT xs H1 Q
theorem pe_tupF {x1 : Nat} {es : List Expr} {t : TA} {pos : Pos} (h : PA X es t) : PE X (.Tuple es x1 pos) (tTupF t) := by
  refine ⟨fun pins s σ H Q I hq => ?_⟩
  refine wpAny_Tuple_spliced (thn (h.run pos pins s σ H _ I hq) fun us s1 hx => ?_)
  obtain ⟨xs, H1, I1, r, z, q⟩ := hx
  exact ⟨by rw [← r.length]; exact z, laidF (t' := s1.toks) I1 (fun b u e => Heap.get?_push_of_some _ e) (Nat.le_refl _) z r (Heap.get?_push_size _ rfl) q⟩
/-- tuple(list) -/
def tTupOfF (K : PySem.W.Frag) (ta : TE) : TE := fun σ H Q => ta σ H fun x H1 => ∃ p xs, x = .ref p ∧ SqL K H1 p xs ∧ newT xs H1 Q
theorem pe_tupOfF {p pos : Pos} {a : Expr} {ta : TE} (hg : Gl X "tuple") (hm : X.mg "tuple" = none) (ha : PE X a ta) (na : starEach [a] X.env = (false, eval a X.env) :: starEach [] X.env := by rfl) : PE X (.Call (.Name "tuple" p) [a] [] pos) (tTupOfF X.K ta) := by
  refine ⟨fun pins s σ H Q I h => ?_⟩
  refine Call_ (ld_blt I hg hm boot_tuple (PyProof.Rows.callWith_type1 (one_arg ha I h (fun v s2 x H2 I2 r q => ?_) na) na))
  obtain ⟨b, xs, rfl, hs, q⟩ := q
  obtain rfl : v = .ref b := r
  obtain ⟨its, rv, pl, hz⟩ := I2.list hs
  refine call_tuple_list pl.isList (fun h' hk => ?_) (by rw [List.size_toArray, ← rv.length]; exact hz)
  have I3 : Inv X pins σ H2 { s2 with heap := h' } := I2.kept (t' := s2.toks) hk
  exact laidF (s := { s2 with heap := h' }) (t' := s2.toks) I3 (fun b u e => Heap.get?_push_of_some _ e) (Nat.le_refl _) hz rv (Heap.get?_push_size _ rfl) q
/-- tuple(range(..)) -/
def tTupRgF (te : L2.St → Hp → (Int → Int → Hp → Prop) → Prop) : TE := fun σ H Q => te σ H fun a b H1 => RgOk a b ∧ newT (rgV a b) H1 Q
theorem pe_tupRgF {p pos : Pos} {e : Expr} {te : L2.St → Hp → (Int → Int → Hp → Prop) → Prop} (hc : X.calm = true) (hg : Gl X "tuple") (hm : X.mg "tuple" = none) (he : PRg X e te) (na : starEach [e] X.env = (false, eval e X.env) :: starEach [] X.env := by rfl) :
    PE X (.Call (.Name "tuple" p) [e] [] pos) (tTupRgF te) := by
  refine ⟨fun pins s σ H Q I h => ?_⟩
  refine Call_ (ld_blt I hg hm boot_tuple (PyProof.Rows.callWith_type1 (PyProof.Rows.args_cons (thn (he pins s σ H _ I h) fun x s1 hx => PyProof.Rows.args_nil ?_) na) na))
  obtain ⟨r, a, b, t, u, v, H1, ex, hr, I1, ok, q⟩ := hx
  subst ex
  obtain ⟨b1, b2, b3, b4, b5⟩ := ok
  refine call_tuple_range (n := (b - a).toNat) (I1.ok.hd hc) hr (small_one b1 b2 b3 b4) (rangeSize_nat a b) b5 fun h' tk acc hk hi => ?_
  have I2 : Inv X pins σ H1 { s1 with heap := h', toks := tk } := I1.kept hk
  exact laidF (s := { s1 with heap := h', toks := tk }) (t' := tk) (its := acc.toList) I2 (fun b u e => Heap.get?_push_of_some _ e) (Nat.le_refl _) (by rw [rgV_length, sizeLine_eq]; omega) (vals_rg hi) (by rw [Array.toArray_toList]; exact Heap.get?_push_size _ rfl) q
/-- t + u -/
def rCatF (K : PySem.W.Frag) : R2 := fun x y H Q => ∃ a b xs ys, x = .ref a ∧ y = .ref b ∧ SqT K H a xs ∧ SqT K H b ys ∧ xs.length + ys.length ≤ sizeLine ∧ (xs = [] → Q (.ref b) H) ∧ (xs ≠ [] → ys = [] → Q (.ref a) H) ∧ (xs ≠ [] → ys ≠ [] → newT (xs ++ ys) H Q)
theorem op_catF : OpR X (binaryOp .Add) (rCatF X.K) := by
  intro pins s σ H x y v u Q I rx ry h
  obtain ⟨a, b, xs, ys, rfl, rfl, ha, hb, hz, q0, q1, q2⟩ := h
  cases rx
  cases ry
  obtain ⟨its, r1, p1, _⟩ := I.tuple ha
  obtain ⟨its2, r2, p2, _⟩ := I.tuple hb
  by_cases hx : xs = []
  · subst hx
    cases r1
    exact cat_tup0 p1 p2 ⟨.ref b, H, I, rfl, q0 rfl⟩
  · refine HT.cat_tup p1 p2 (fun z => hx (r1.nil_iff.mp z)) (fun z => ⟨.ref a, H, I, rfl, q1 hx (r2.nil_iff.mp z)⟩) (fun z => ?_) (by rw [← r1.length, ← r2.length]; exact hz)
    exact laidF (t' := s.toks) I (fun b u e => Heap.get?_push_of_some _ e) (Nat.le_refl _) (by rw [List.length_append]; exact hz) (r1.append r2) (Heap.get?_push_size _ rfl) (q2 hx fun w => z (r2.nil_iff.mpr w))
/-- t[lo:hi] -/
def rSlF (K : PySem.W.Frag) : V → Option Int → Option Int → Hp → VK → Prop := fun x lo hi H Q => ∃ a xs, x = .ref a ∧ SqT K H a xs ∧
  (HT.sIx xs.length 0 lo = 0 ∧ HT.sIx xs.length xs.length hi = xs.length → Q (.ref a) H) ∧ (¬ (HT.sIx xs.length 0 lo = 0 ∧ HT.sIx xs.length xs.length hi = xs.length) → newT (cutV xs lo hi) H Q)
theorem sl_tupF : SlR X (rSlF X.K) := by
  intro pins s σ H x v vl vu lo hi sl Q I rx hs pl pu h
  obtain ⟨a, xs, rfl, hx, q1, q2⟩ := h
  cases rx
  obtain ⟨its, r, ht, hz⟩ := I.tuple hx
  have hlen : its.toArray.size = xs.length := by rw [List.size_toArray]; exact r.length.symm
  refine ⟨"tuple", _, PyProof.Rows.slot_tuple_getitem.lookup, ht.typeIs, ?_⟩
  by_cases hw : HT.sIx xs.length 0 lo = 0 ∧ HT.sIx xs.length xs.length hi = xs.length
  · exact getItem_tuple_whole ht hs pl pu (by rw [hlen]; exact hw) ⟨.ref a, H, I, rfl, q1 hw⟩
  · refine HT.getItem_tuple_cut ht hs pl pu (by rw [hlen]; exact hw) ?_ (by rw [hlen]; exact hz)
    rw [hlen]
    exact laidF (t' := s.toks) I (fun b u e => Heap.get?_push_of_some _ e) (Nat.le_refl _) (Nat.le_trans (cutV_length xs lo hi) hz) ((r.drop (HT.sIx xs.length 0 lo)).take (HT.sIx xs.length xs.length hi - HT.sIx xs.length 0 lo)) (Heap.get?_push_size _ rfl) (q2 hw)
/-- t.m(e, ..) -/
def tTM (r : V → List V → Hp → VK → Prop) (to : TE) (t : TA) : TE := fun σ H Q => to σ H fun x H1 => (∃ a xs, x = .ref a ∧ TF H1 a xs) ∧ t σ H1 fun ys H2 => r x ys H2 Q
theorem pe_tm {o e : Expr} {es : List Expr} {to : TE} {t : TA} {name : Str} {apos cpos : Pos} {id : String} {r : V → List V → Hp → VK → Prop} (slot : Slot "tuple" name id) (hty : typeOf (.builtin id) = pure (.type "method_descriptor")) (hm : MtR X id r) (ho : PE X o to) (ha : PA X (e :: es) t)
    (hbase : attributeBase o name X.env (eval o X.env) = eval o X.env := by rfl)
    (hfew : ((backTo cpos (starEach (e :: es) X.env)).all (fun x => !x.1) && (backToKw cpos (keywordEach [] X.env)).all (fun x => x.1.isSome) && decide ((e :: es).length + ([] : List Keyword).length + (if ([] : List Keyword).isEmpty then 0 else 1) < 30)) = true := by rfl)
    (hline : (apos.endLine == cpos.line) = true := by rfl) (hs : starEach (e :: es) X.env = (false, eval e X.env) :: starEach es X.env := by rfl) (hplain : (backTo cpos (starEach es X.env)).any (·.1) = false := by rfl) : PE X (.Call (.Attribute o name apos) (e :: es) [] cpos) (tTM r to t) := by
  refine ⟨fun pins s σ H Q I h => ?_⟩
  refine wpAny_Call_method_late hbase hfew hline rfl (thn (ho.run pins s σ H _ I h) fun v s1 hx => ?_)
  obtain ⟨x, H1, I1, r1, ⟨a, xs, rfl, ob, hd, hA⟩, q1⟩ := hx
  cases r1
  obtain ⟨g1, _, its, _, o2, g2, hc, _⟩ := (show ObjOk X.prog X.w H1 s1.heap a (.frz ob (.tup xs)) from I1.hok a _ hA)
  refine ⟨"tuple", id, PySem.F.plainAttrs_tuple, slot, hty, ⟨o2, g2, hc⟩, fun b z => ?_, ?_⟩
  · cases z
    exact ⟨ob, g1, hd⟩
  · have hp := ha.run cpos pins s1 σ H1 _ I1 q1
    rw [hs] at hp ⊢
    refine Calls.callWith_builtin (by show (false || (backTo cpos (starEach es X.env)).any (·.1)) = false; rw [hplain] <;> rfl) (Calls.evalArgs_plain (thn hp fun us s2 hy => ?_))
    obtain ⟨vs, H2, I2, r2, q2⟩ := hy
    exact hm pins s2 σ H2 (.ref a) vs (.ref a) us Q I2 rfl r2 q2
end
/-! ### t[::-1] -/
section
variable {prog : Program} {w : World} {A : Around} {E : Value → Shared → Prop} {s : Shared}
theorem pick_back (xs : Array Value) : ((List.range xs.size).filterMap fun (k : Nat) => xs[(((xs.size : Int) - 1) + (k : Int) * (-1)).toNat]?).toArray = xs.toList.reverse.toArray := by
  have e : (fun (k : Nat) => xs[(((xs.size : Int) - 1) + (k : Int) * (-1)).toNat]?) = fun k => xs[xs.size - 1 - k]? := by
    funext k
    have : (((xs.size : Int) - 1) + (k : Int) * (-1)).toNat = xs.size - 1 - k := by omega
    rw [this]
  have h := PySem.W.krv_range xs.size
  have h2 := congrArg (List.filterMap (xs[·]?)) h
  rw [List.filterMap_map, List.filterMap_reverse, PySem.W.krv_all] at h2
  rw [e]
  exact congrArg List.toArray h2
theorem getItem_tuple_back {t sl : Addr} {items : Array Value} {vl vu vk : Value} {Q : Value → Shared → Prop} (ht : IsTup s.heap t items) (hs : s.heap.IsSliceOf sl vl vu vk) (pl : IsPart vl none) (pu : IsPart vu none) (pk : IsPart vk (some (-1)))
    (h : Q (.ref s.heap.objs.size) { s with heap := s.heap.push { cls := .type "tuple", data := .seq items.toList.reverse.toArray } }) (hsz : items.size ≤ sizeLine) : wpAny (model prog w) A (getItem (.ref t) (.ref sl)) Q E s := by
  obtain ⟨os, hos, hcs, hds⟩ := _root_.id hs
  have hTs : s.TypeIs (.ref sl) "slice" := ⟨os, hos, hcs⟩
  have hfit : sizeOk (.seq items.toList.reverse.toArray) := by
    show items.toList.reverse.toArray.size ≤ sizeLine
    rw [List.size_toArray, List.length_reverse, Array.length_toList]
    exact hsz
  unfold getItem
  try with_reducible refine wpAny_holding ?_
  first | refine wpAny_bind (wpAny_pure ?_) | skip
  refine wpAny_bind (wpAny_sequenceKey ht.typeIs (by decide) ?_)
  refine wpAny_bind (wpAny_callSpecial?_slot (name := Str.ofString "__getitem__") ht.typeIs PyProof.Rows.slot_tuple_getitem (wpAny_call_entry PyProof.Rows.slot_tuple_getitem ht.typeIs entry_tuple_getitem ?_ (args_tuple_getitem _ _)))
  show wpAny _ _ (Builtin.Tuple.tupleItemsOf (.ref t) >>= _) _ _ s
  refine wpAny_bind (tupleItemsOf_ ht (wpAny_bind (wpAny_typeOf hTs ?_)))
  rw [if_pos (by decide)]
  have ap : ∀ {Q2 : Int × Int × Nat → Shared → Prop} {E2 : Value → Shared → Prop} {A2 : Around}, Q2 ((items.size : Int) - 1, -1, items.size) s → wpAny (model prog w) A2 (Builtin.Slice.sliceApplied (.ref sl) (pure (items.size : Int))) Q2 E2 s := fun {Q2 E2 A2} hq => by
    unfold Builtin.Slice.sliceApplied Builtin.Slice.sliceFields
    refine wpAny_bind (wpAny_bind (wpAny_field hos hds (x := vl) rfl (wpAny_bind (wpAny_field hos hds (x := vu) rfl (wpAny_bind (wpAny_field hos hds (x := vk) rfl (wpAny_pure ?_)))))))
    refine wpAny_bind (HT.slicePart_ pk ?_)
    show wpAny _ _ (if ((-1 : Int) == 0) = true then _ else _) _ _ s
    rw [if_neg (by decide)]
    refine wpAny_bind (HT.slicePart_ pl (wpAny_bind (HT.slicePart_ pu (wpAny_bind (wpAny_pure ?_)))))
    have ea : Builtin.Slice.sliceAdjust none none (-1) (items.size : Int) = ((items.size : Int) - 1, -1) := rfl
    have ep : Builtin.Slice.slicePlaces ((items.size : Int) - 1) (-1) (-1) = items.size := by
      unfold Builtin.Slice.slicePlaces
      have h1 : ¬ ((-1 : Int) > 0) := by decide
      rw [if_neg h1]
      by_cases h2 : (items.size : Int) - 1 > -1
      · rw [if_pos h2, show (- (-1 : Int)) = 1 by decide, Int.ediv_one]
        omega
      · rw [if_neg h2]
        omega
    show wpAny _ _ (match Builtin.Slice.sliceAdjust none none (-1) (items.size : Int) with | (lo, hi) => pure (lo, (-1 : Int), Builtin.Slice.slicePlaces lo hi (-1))) _ _ s
    rw [ea]
    show wpAny _ _ (pure ((items.size : Int) - 1, (-1 : Int), Builtin.Slice.slicePlaces ((items.size : Int) - 1) (-1) (-1))) _ _ s
    rw [ep]
    exact wpAny_pure hq
  refine wpAny_bind (ap ?_)
  have hno : ¬ ((((items.size : Int) - 1) == 0 && (-1 : Int) == 1 && items.size == items.size) = true) := by
    rw [show ((-1 : Int) == 1) = false by decide, Bool.and_false, Bool.false_and]
    exact Bool.false_ne_true
  show wpAny _ _ (if (((items.size : Int) - 1) == 0 && (-1 : Int) == 1 && items.size == items.size) = true then _ else _) _ _ s
  rw [if_neg hno, pick_back]
  first
    | exact wpAny_bind (m := Builtin.Tuple.tupleExact _) (wpAny_newObj_type (wpAny_pure ⟨_, rfl, wpAny_pure h⟩) hfit)
    | exact wpAny_bind (m := Builtin.Tuple.tupleExact _) (wpAny_newObj_type (wpAny_bind (wpAny_pure (wpAny_pure ⟨_, rfl, wpAny_pure h⟩))) hfit)
    | exact wpAny_bind (wpAny_bind (m := Builtin.Tuple.tupleExact _) (wpAny_newObj_type (wpAny_pure (wpAny_pure ⟨_, rfl, wpAny_pure h⟩)) hfit))
    | exact wpAny_bind (wpAny_bind (m := Builtin.Tuple.tupleExact _) (wpAny_newObj_type (wpAny_pure ⟨_, rfl, wpAny_pure h⟩) hfit))
end
section
variable {X : Cx}
def tBackT (K : PySem.W.Frag) (te : TE) : TE := fun σ H Q => te σ H fun x H1 => ∃ a xs, x = .ref a ∧ SqT K H1 a xs ∧ newT xs.reverse H1 Q
theorem pe_backT {e : Expr} {te : TE} {k : Nat} {p1 p2 p3 pos : Pos} (he : PE X e te) : PE X (.Subscript e (.Slice none none (some (.UnaryOp .USub (.Constant (.int 1) k p1) p2)) p3) pos) (tBackT X.K te) := by
  refine ⟨fun pins s σ H Q I h => ?_⟩
  refine Subscript_ (thn (he.run pins s σ H _ I h) fun v s1 hx => ?_)
  obtain ⟨x, H1, I1, r1, a, xs, rfl, hq, q⟩ := hx
  cases r1
  have hst : PO X (some (.UnaryOp .USub (.Constant (.int 1) k p1) p2)) (tPart (tUn (rU fun i => .int (-i)) (tC (.int 1)))) := po_some (pe_un un_neg pe_int)
  refine wpAny_Slice (thn (po_none.run pins s1 σ H1 (fun o H2 => o = none ∧ H2 = H1) I1 ⟨rfl, rfl⟩) fun vl s2 h2 => ?_)
  obtain ⟨_, _, I2, pl, rfl, rfl⟩ := h2
  refine thn (po_none.run pins s2 σ _ (fun o H3 => o = none ∧ H3 = _) I2 ⟨rfl, rfl⟩) fun vu s3 h3 => ?_
  obtain ⟨_, _, I3, pu, rfl, rfl⟩ := h3
  refine thn (hst.run pins s3 σ _ (fun o H4 => o = some (-1) ∧ H4 = _) I3 ⟨1, rfl, -1, rfl, rfl, rfl⟩) fun vs s4 h4 => ?_
  obtain ⟨_, H4, I4, ps, rfl, rfl⟩ := h4
  have I5 : Inv X pins σ H4 { s4 with heap := s4.heap.push { cls := .type "slice", data := .fields #[vl, vu, vs] } } := I4.kept (t' := s4.toks) fun b ob q => Heap.get?_push_of_some _ q
  obtain ⟨its, r, ht, hz⟩ := I5.tuple hq
  have hlen := r.length
  show wpAny (model X.prog X.w) X.A (subscriptTail e (.Slice none none (some (.UnaryOp .USub (.Constant (.int 1) k p1) p2)) p3) (.ref a) (.ref s4.heap.objs.size)) (EP X pins σ Q) X.xe _
  refine tail_any (ops := [.ref a, .ref s4.heap.objs.size]) ht.typeIs PyProof.Rows.slot_tuple_getitem.lookup ?_ (by with_unfolding_all rfl)
  refine getItem_tuple_back ht (Heap.IsSliceOf.new _ vl vu vs) pl pu ps ?_ (by rw [List.size_toArray]; omega)
  exact laidF (t' := s4.toks) (its := its.reverse) I5 (fun b u e => Heap.get?_push_of_some _ e) (Nat.le_refl _) (by rw [List.length_reverse]; exact hz) r.reverse (Heap.get?_push_size _ rfl) q
end
end HM
namespace HM
open PySem PySem.Spec PyProof.Rows L2
/-! ### dict(enumerate(t)), t a tuple -/
section
variable {prog : Program} {w : World} {A : Around} {E : Value → Shared → Prop} {s : Shared}
abbrev pairObj (c : Int) (tk : Nat) (x : Value) : Obj := { cls := .type "tuple", data := .seq #[.int c tk, x] }
/-- next(e) while the pair that was handed out before is still there -/
theorem enum_held {e it T : Addr} {fp : List Addr} {n i : Nat} {c : Int} {Pv : Nat → Value → Prop} {St : Nat → Heap → Prop} {old : Value} {fl : Bool} {oT : Obj} {Q : Value → Shared → Prop}
    (D : Draws prog w A it fp n Pv St) (he : IsEnumHeld s.heap e it c old T fl) (hT : s.heap.get? T = some oT) (hTe : T ≠ e) (hTi : T ≠ it) (st : St i s.heap) (hi : i < n) (hei : e ≠ it) (hef : e ∉ fp)
    (hQ : ∀ x h' tk, Pv i x → IsEnumHeld h' e it (c + 1) old T true → St (i + 1) h' → h'.get? s.heap.objs.size = some (pairObj c tk x) → (∀ b o, b ≠ e → b ≠ it → s.heap.get? b = some o → h'.get? b = some o) → Q (.ref s.heap.objs.size) { s with heap := h', toks := tk + 1 }) :
    wpAny (model prog w) A (Builtin.«enumerate.__next__» ⟨[.ref e], []⟩) (fun fin s' => ∃ v, fin = .done (.ret v) ∧ Q v s') E s := by
  obtain ⟨hp, gs, dr, tk0, os⟩ := s
  show wpAny _ _ (field (.ref e) 2 >>= _) _ _ _
  refine wpAny_bind (wpAny_field he rfl (x := .ref it) rfl (wpAny_bind (D.item i _ _ _ hi st fun x g1 tk hx st1 m1 => ?_)))
  replace m1 : Heap.SameBut it hp g1 := m1
  have q1 : IsEnumHeld g1 e it c old T fl := (m1.2 e hei).trans he
  show wpAny _ _ (field (.ref e) 3 >>= _) _ _ ⟨g1, gs, dr, tk, os⟩
  refine wpAny_bind (wpAny_field q1 rfl (x := rawInt c) rfl ?_)
  show wpAny _ _ (field (.ref e) 4 >>= _) _ _ ⟨g1, gs, dr, tk, os⟩
  refine wpAny_bind (wpAny_field q1 rfl (x := .none) rfl ?_)
  show wpAny _ _ (mkInt c >>= _) _ _ ⟨g1, gs, dr, tk, os⟩
  refine wpAny_bind (wpAny_mkInt ?_)
  show wpAny _ _ (setField (.ref e) 3 (rawInt (c + 1)) >>= _) _ _ ⟨g1, gs, dr, tk + 1, os⟩
  refine wpAny_bind (wpAny_setField_rec q1 (by simp) fun g2 q2 m2 => ?_)
  replace m2 : Heap.SameBut e g1 g2 := m2
  replace q2 : IsEnumHeld g2 e it (c + 1) old T fl := q2
  show wpAny _ _ (setField (.ref e) 4 .none >>= _) _ _ ⟨g2, gs, dr, tk + 1, os⟩
  refine wpAny_bind (wpAny_setField_rec q2 (by simp) fun g3 q3 m3 => ?_)
  replace m3 : Heap.SameBut e g2 g3 := m3
  replace q3 : IsEnumHeld g3 e it (c + 1) old T fl := q3
  show wpAny _ _ (newTuple [.int c tk, x] >>= _) _ _ ⟨g3, gs, dr, tk + 1, os⟩
  refine wpAny_bind (wpAny_newTuple ?_)
  have z3 : g3.objs.size = hp.objs.size := by rw [m3.1, m2.1, m1.1]
  obtain ⟨g4, eg⟩ : ∃ g4, g4 = g3.push (pairObj c tk x) := ⟨_, rfl⟩
  have q4 : IsEnumHeld g4 e it (c + 1) old T fl := by
    rw [eg]
    exact Heap.get?_push_of_some _ q3
  have p4 : g4.get? hp.objs.size = some (pairObj c tk x) := by
    rw [eg, ← z3]
    exact Heap.get?_push_size _ rfl
  have k4 : ∀ b o, b ≠ e → b ≠ it → hp.get? b = some o → g4.get? b = some o := fun b o n1 n2 y => by
    rw [eg]
    exact Heap.get?_push_of_some _ (m3.extBut b o n1 (m2.extBut b o n1 (m1.extBut b o n2 y)))
  have st4 : St (i + 1) g4 := D.frame _ _ _ st1 fun b hb o y => by
    have n1 : b ≠ e := fun z => hef (z ▸ hb)
    rw [eg]
    exact Heap.get?_push_of_some _ (m3.extBut b o n1 (m2.extBut b o n1 y))
  show wpAny _ _ (Builtin.SmallTypes.ownedTupleIsFree (.ref e) >>= _) _ _ ⟨g3.push (pairObj c tk x), gs, dr, tk + 1, os⟩
  rw [← eg, z3]
  refine wpAny_bind (wpAny_tupleHeld_enum (s := ⟨g4, gs, dr, tk + 1, os⟩) q4 (k4 T oT hTe hTi hT) fun g5 q5 m5 => ?_)
  replace m5 : Heap.SameBut e g4 g5 := m5
  simp only [Bool.false_eq_true, if_false]
  have ne : hp.objs.size ≠ e := Nat.ne_of_gt (Heap.lt_size (show hp.get? e = some _ from he))
  exact wpAny_pure ⟨_, rfl, hQ x g5 tk hx q5 (D.frame _ _ _ st4 fun b hb o y => m5.extBut b o (fun z => hef (z ▸ hb)) y) (m5.extBut _ _ ne p4) fun b o n1 n2 y => m5.extBut b o n1 (k4 b o n1 n2 y)⟩
theorem next_held {e it T : Addr} {fp : List Addr} {n i : Nat} {c : Int} {Pv : Nat → Value → Prop} {St : Nat → Heap → Prop} {old : Value} {fl : Bool} {oT : Obj} {Q : Option Value → Shared → Prop}
    (D : Draws prog w A.in1 it fp n Pv St) (he : IsEnumHeld s.heap e it c old T fl) (hT : s.heap.get? T = some oT) (hTe : T ≠ e) (hTi : T ≠ it) (st : St i s.heap) (hi : i < n) (hei : e ≠ it) (hef : e ∉ fp)
    (hQ : ∀ x h' tk, Pv i x → IsEnumHeld h' e it (c + 1) old T true → St (i + 1) h' → h'.get? s.heap.objs.size = some (pairObj c tk x) → (∀ b o, b ≠ e → b ≠ it → s.heap.get? b = some o → h'.get? b = some o) → Q (some (.ref s.heap.objs.size)) { s with heap := h', toks := tk + 1 }) :
    wpAny (model prog w) A (pyNext (.ref e)) Q E s := by
  have ty : s.TypeIs (.ref e) "enumerate" := ⟨_, he, rfl⟩
  unfold pyNext
  refine wpAny_bind (wpAny_attempt (wpAny_callSpecial?_slot (name := Str.ofString "__next__") ty F.slot_enumerate_next (wpAny_call_entry F.slot_enumerate_next ty F.entry_enumerate_next ?_ (F.args_enumerate_next_1 _))))
  exact enum_held D he hT hTe hTi st hi hei hef fun x h' tk a b c d k => wpAny_pure (hQ x h' tk a b c d k)
theorem end_held {e it T : Addr} {fp : List Addr} {n : Nat} {c : Int} {Pv : Nat → Value → Prop} {St : Nat → Heap → Prop} {old : Value} {fl : Bool} {Q : Option Value → Shared → Prop} (D : Draws prog w A.in1 it fp n Pv St) (he : IsEnumHeld s.heap e it c old T fl) (st : St n s.heap)
    (hQ : ∀ h', Heap.ExtBut it s.heap h' → Q none { s with heap := h' }) : wpAny (model prog w) A (pyNext (.ref e)) Q E s := by
  have ty : s.TypeIs (.ref e) "enumerate" := ⟨_, he, rfl⟩
  unfold pyNext
  refine wpAny_bind (wpAny_attempt (wpAny_callSpecial?_slot (name := Str.ofString "__next__") ty F.slot_enumerate_next (wpAny_call_entry F.slot_enumerate_next ty F.entry_enumerate_next ?_ (F.args_enumerate_next_1 _))))
  show wpAny _ _ (field (.ref e) 2 >>= _) _ _ _
  refine wpAny_bind (wpAny_field he rfl (x := .ref it) rfl (wpAny_bind (D.done _ _ _ st fun h' x m hx => ?_)))
  obtain ⟨o, ho, hc⟩ := hx
  exact wpAny_bind (wpAny_isInstance (T := "StopIteration") (b := true) ⟨o, ho, hc⟩ isSubtype_stop (wpAny_pure (hQ _ m)))
end
section
variable {prog : Program} {w : World}
theorem pairs_enumT (e it l : Addr) (hei : e ≠ it) (hle : l ≠ e) (hli : l ≠ it) (items : Array Value) :
    PairArg prog w "enumerate" e [e, it, l] [e, it] items.size (fun i k v => (∃ t, k = .int i t) ∧ items[i]? = some v) (fun h => (∃ old, IsEnum h e it 0 old) ∧ h.IsTupleIter it l 0 ∧ h.IsTuple l items) where
  type := fun s ok => let ⟨⟨_, he⟩, _⟩ := ok; ⟨_, he, rfl⟩
  notDict := by decide
  keep := fun h h' ok k => let ⟨⟨old, he⟩, hit, hl⟩ := ok; ⟨⟨old, k _ _ he⟩, hit.at fun o x => k _ o x, hl.at fun o x => k _ o x⟩
  there := fun h ok b hb => by
    obtain ⟨⟨old, he⟩, ⟨o1, h1, _⟩, ⟨o2, h2, _⟩⟩ := ok
    rcases List.mem_cons.mp hb with z | hb
    · exact z ▸ ⟨_, he⟩
    rcases List.mem_cons.mp hb with z | hb
    · exact z ▸ ⟨_, h1⟩
    · exact (List.mem_singleton.mp hb) ▸ ⟨_, h2⟩
  sub := fun b hb => by
    rcases List.mem_cons.mp hb with z | hb
    · rw [z]; simp
    · rw [List.mem_singleton.mp hb]; simp
  noKeys := fun A s Q E hA ok h => let ⟨⟨_, he⟩, _⟩ := ok; getAttrOr_miss_enumerate he rfl rfl rfl enumerate_no_keys (by decide +kernel) hA h
  iter := fun A s d Q E hA ok hd hdf h => by
    obtain ⟨⟨old, he⟩, hit, hl⟩ := ok
    have de : d ≠ e := fun z => hdf (by rw [z]; simp)
    have dit : d ≠ it := fun z => hdf (by rw [z]; simp)
    have dl : d ≠ l := fun z => hdf (by rw [z]; simp)
    have D : ∀ {A' : Around}, A'.handled = none → Draws prog w A'.in1 it [it, l] items.size (fun i v => items[i]? = some v) (fun i h => h.IsTupleIter it l i ∧ h.IsTuple l items) := fun {A'} hA' => Draws.tuple (A := A'.in1) hA' it l hli items
    have nef : e ∉ [it, l] := fun z => by
      rcases List.mem_cons.mp z with z | z
      · exact hei z
      · exact hle (List.mem_singleton.mp z).symm
    refine wpAny_pyIter_enum he (h e [e, it] (fun i h => (h.IsTupleIter it l i ∧ h.IsTuple l items) ∧ ((∃ old, IsEnum h e it i old) ∨ ∃ old T fl oT, IsEnumHeld h e it i old T fl ∧ h.get? T = some oT ∧ T ≠ e ∧ T ≠ it ∧ T ≠ d)) s.heap s.toks ?_ ⟨⟨hit, hl⟩, .inl ⟨old, he⟩⟩ (fun _ _ e => e) fun b hb => .inl hb)
    refine ⟨fun z => ?_, fun i h1 h2 st k => ?_, fun i s1 Q1 E1 hi st hds hQ => ?_, fun s1 Q1 E1 st hQ => ?_⟩
    · rcases List.mem_cons.mp z with z | z
      · exact de z
      · exact dit (List.mem_singleton.mp z)
    · obtain ⟨⟨g1, g2⟩, he⟩ := st
      refine ⟨⟨g1.at fun o x => k _ o (Ne.symm dit) x, g2.at fun o x => k _ o (Ne.symm dl) x⟩, ?_⟩
      rcases he with ⟨old, he⟩ | ⟨old, T, fl, oT, he, hT, r1, r2, r3⟩
      · exact .inl ⟨old, k _ _ (Ne.symm de) he⟩
      · exact .inr ⟨old, T, fl, oT, k _ _ (Ne.symm de) he, k _ _ r3 hT, r1, r2, r3⟩
    · obtain ⟨st, he⟩ := st
      have ec : ((i + 1 : Nat) : Int) = (i : Int) + 1 := by omega
      have nit : s1.heap.objs.size ≠ it := let ⟨_, x, _⟩ := st.1; Nat.ne_of_gt (Heap.lt_size x)
      rcases he with ⟨old, he⟩ | ⟨old, T, fl, oT, he, hT, r1, r2, r3⟩
      · refine wpAny_pyNext_enum_itemC (D hA) he st hi hei nef fun x h' tk hx ho st' hT hsz k => ?_
        refine hQ s1.heap.objs.size _ _ h' (tk + 1) ⟨⟨_, rfl⟩, hx⟩ (.inl ⟨_, hT, rfl, _, rfl⟩) ⟨st', .inr ⟨_, s1.heap.objs.size, false, _, by rw [ec]; exact ho, hT, Nat.ne_of_gt (Heap.lt_size (show s1.heap.get? e = some _ from he)), nit, Nat.ne_of_gt hds⟩⟩ fun b o hb x => k b o (fun y => hb (by rw [y]; simp)) (fun y => hb (by rw [y]; simp)) x
      · refine next_held (D hA) he hT r1 r2 st hi hei nef fun x h' tk hx ho st' hT' k => ?_
        refine hQ s1.heap.objs.size _ _ h' (tk + 1) ⟨⟨_, rfl⟩, hx⟩ (.inl ⟨_, hT', rfl, _, rfl⟩) ⟨st', .inr ⟨old, T, true, oT, by rw [ec]; exact ho, k _ _ r1 r2 hT, r1, r2, r3⟩⟩ fun b o hb x => k b o (fun y => hb (by rw [y]; simp)) (fun y => hb (by rw [y]; simp)) x
    · obtain ⟨st, he⟩ := st
      rcases he with ⟨old, he⟩ | ⟨old, T, fl, oT, he, hT, r1, r2, r3⟩
      · exact wpAny_pyNext_enum_endD (D hA) he st fun h' m => hQ h' s1.toks fun b o hb x => m b o (fun y => hb (by rw [y]; simp)) x
      · exact end_held (D hA) he st fun h' m => hQ h' s1.toks fun b o hb x => m b o (fun y => hb (by rw [y]; simp)) x
set_option maxHeartbeats 2000000 in
theorem meets_enum1 {v : Value} {o : Obj} {Hs : Heap → Prop} (B : Begins v o Hs) : Meets (Builtin.«enumerate.__new__» ⟨[.type "enumerate", v], []⟩) (fun _ R s => Hs s.heap ∧
    R (.ok (.ret (.ref (s.heap.push o).objs.size))) { s with heap := (s.heap.push o).push { cls := .type "enumerate", data := .fields #[.none, .bool false, .ref s.heap.objs.size, rawInt 0, .none, .none] } }) :=
  .of_wp fun prog w A R s h => by
    obtain ⟨hp, gs, dr, tk, os⟩ := s
    obtain ⟨h1, h⟩ := h
    have hsub := sub_enumerate
    have begun : ∀ {A' : Around} {E : Value → Shared → Prop} {Q : Value → Shared → Prop}, Q (.ref hp.objs.size) ⟨hp.push o, gs, dr, tk, os⟩ → wpAny (model prog w) A' (pyIter v) Q E ⟨hp, gs, dr, tk, os⟩ := fun q => B.iter prog w _ _ ⟨hp, gs, dr, tk, os⟩ _ h1 q
    wp_walk using begun
    refine wpAny_stack_any fun st => wpAny_pure ?_
    split
    · rename_i c _ _ _ _ _
      cases (c == Value.type "enumerate")
      · wp_walk using begun
        exact ⟨_, rfl, h⟩
      · wp_walk using begun
        exact ⟨_, rfl, h⟩
    · wp_walk using begun
      exact ⟨_, rfl, h⟩
theorem call_enum1 {A : Around} {E : Value → Shared → Prop} {s : Shared} {v : Value} {o : Obj} {Hs : Heap → Prop} {Q : Value → Shared → Prop} (B : Begins v o Hs) (h1 : Hs s.heap)
    (h : ∀ h', IsEnum h' (s.heap.objs.size + 1) s.heap.objs.size 0 .none → h'.get? s.heap.objs.size = some o → (∀ b u, s.heap.get? b = some u → h'.get? b = some u) → Q (.ref (s.heap.objs.size + 1)) { s with heap := h' }) : wpAny (model prog w) A (call (.type "enumerate") [v]) Q E s := by
  refine callType_new F.called_enumerate (by decide) (F.typeCall_enumerate_1 _) (F.newCall_enumerate_1 _) (fun obj => F.args_object_init_2 obj _) F.entry_enumerate_new (meets_enum1 B) ⟨h1, ?_⟩
  have hz : (s.heap.push o).objs.size = s.heap.objs.size + 1 := Heap.size_push ..
  show _ ∧ _
  have he := Heap.get?_push_size (s.heap.push o) (o := { cls := .type "enumerate", data := .fields #[.none, .bool false, .ref s.heap.objs.size, rawInt 0, .none, .none] }) rfl
  rw [hz] at he ⊢
  exact ⟨⟨_, he, rfl⟩, h _ he (Heap.get?_push_of_some _ (Heap.get?_push_size _ B.free)) fun b u x => Heap.get?_push_of_some _ (Heap.get?_push_of_some _ x)⟩
end
theorem kv_zip : ∀ (ns : List Int) (its : List Value) (k : Nat), Vals (ns.map V.int) its → KV (((ns.zipIdx k).map fun q => (((q.2 : Nat) : Int), q.1)).map fun p => ((Sum.inl p.1 : Key), V.int p.2)) ((its.zipIdx k).map fun q => ((Sum.inl ((q.2 : Nat) : Int) : Key), q.1))
  | [], _, _, .nil => .nil
  | n :: ns, _ :: its, k, .cons r t => .cons ⟨rfl, r⟩ (kv_zip ns its (k + 1) t)
section
variable {X : Cx}
/-- dict(enumerate(t)), t a tuple of ints -/
def tDictEnum (K : PySem.W.Frag) (ta : TE) : TE := fun σ H Q => ta σ H fun x H1 => ∃ (a : Addr) (ns : List Int), x = .ref a ∧ SqT K H1 a (ns.map V.int) ∧ ns.length ≤ 1000 ∧ ∀ p, H1 p = none → Q (.ref p) (upd H1 p (.dK ((ns.zipIdx.map fun q => (((q.2 : Nat) : Int), q.1)).map fun p => ((Sum.inl p.1 : Key), V.int p.2))))
theorem pe_dictEnum {a : Expr} {ta : TE} {p p2 q pos : Pos} (hc : X.calm = true) (hg : Gl X "dict") (hm : X.mg "dict" = none) (hg2 : Gl X "enumerate") (hm2 : X.mg "enumerate" = none) (ha : PE X a ta)
    (na : starEach [a] X.env = (false, eval a X.env) :: starEach [] X.env := by rfl) : PE X (.Call (.Name "dict" p) [.Call (.Name "enumerate" p2) [a] [] q] [] pos) (tDictEnum X.K ta) := by
  refine ⟨fun pins s σ H Q I h => ?_⟩
  refine Call_ (ld_blt I hg hm (u := .type "dict") (by decide +kernel) ?_)
  refine PyProof.Rows.callWith_type1 (PyProof.Rows.args_cons ?_ rfl) rfl rfl
  refine Call_ (ld_blt I hg2 hm2 (u := .type "enumerate") (by decide +kernel) ?_)
  refine PyProof.Rows.callWith_type1 (PyProof.Rows.args_cons (thn (ha.run pins s σ H _ I h) fun v s1 hx => PyProof.Rows.args_nil ?_) na) na rfl
  obtain ⟨x, H1, I1, r1, l, ns, rfl, hq, hl, q1⟩ := hx
  cases r1
  obtain ⟨its, rv, pl, hz⟩ := I1.tuple hq
  have hlt : l < s1.heap.objs.size := let ⟨_, e, _⟩ := pl; Heap.lt_size e
  refine call_enum1 (begins_tuple l its.toArray) pl fun h' he hit hk => PyProof.Rows.args_nil ?_
  have I2 : Inv X pins σ H1 { s1 with heap := h' } := I1.kept (t' := s1.toks) hk
  have hei : s1.heap.objs.size + 1 ≠ s1.heap.objs.size := by omega
  have hle : l ≠ s1.heap.objs.size + 1 := Nat.ne_of_lt (Nat.lt_succ_of_lt hlt)
  have hlen : its.length = ns.length := by rw [← rv.length, List.length_map]
  obtain ⟨kvs, ekv⟩ : ∃ kvs : List (Key × Value), kvs = its.zipIdx.map fun q => ((Sum.inl ((q.2 : Nat) : Int) : Key), q.1) := ⟨_, rfl⟩
  refine call_dict_pairs (knd := mixKind X.prog X.w) (kvs := kvs) (pairs_enumT (s1.heap.objs.size + 1) s1.heap.objs.size l hei hle (Nat.ne_of_lt hlt) its.toArray) (I1.ok.hd hc) ⟨⟨_, he⟩, ⟨_, hit, rfl, rfl⟩, let ⟨o, e, r⟩ := pl; ⟨o, hk _ _ e, r⟩⟩ ⟨?_, fun i key v hr => ?_⟩ (by rw [List.size_toArray]; exact Nat.le_of_lt (small1000 (by omega))) fun h2 tk hD hk2 => ?_
  · rw [ekv, List.length_map, List.length_zipIdx, List.size_toArray]
  · obtain ⟨⟨t, rfl⟩, hv⟩ := hr
    refine ⟨Sum.inl (i : Int), ?_, mixKind_int _ _ _ _⟩
    have hv2 : its[i]? = some v := by simpa using hv
    rw [ekv, List.getElem?_map, List.getElem?_zipIdx, hv2]
    simp
  · have ndk : (kvs.map (·.1)).Nodup := by
      rw [ekv, List.map_map]
      have e9 : ((fun (x : Key × Value) => x.1) ∘ fun (q : Value × Nat) => ((Sum.inl ((q.2 : Nat) : Int) : Key), q.1)) = (fun j : Nat => (Sum.inl ((j : Nat) : Int) : Key)) ∘ fun q : Value × Nat => q.2 := rfl
      rw [e9, ← List.map_map, List.zipIdx_map_snd]
      refine List.Pairwise.map _ (fun x y hxy z => hxy ?_) (List.nodup_range' ..)
      have z2 := Sum.inl.inj z
      omega
    rw [merged_nil_of_nodup kvs ndk] at hD
    have hsz : s1.heap.objs.size ≤ h'.objs.size := Nat.le_of_lt (Nat.lt_of_succ_lt (Heap.lt_size (show h'.get? (s1.heap.objs.size + 1) = some _ from he)))
    have grow : Grows s1.heap h2 := fun b o e => by
      have hb := Heap.lt_size e
      refine hk2 b o (fun z => ?_) (hk b o e)
      rcases List.mem_cons.mp z with z | z
      · rw [z] at hb
        exact Nat.lt_irrefl _ (Nat.lt_of_succ_lt hb)
      · rw [List.mem_singleton.mp z] at hb
        exact Nat.lt_irrefl _ hb
    have ob : ∀ H2 : Hp, ObjOk X.prog X.w H2 h2 h'.objs.size (.dK ((ns.zipIdx.map fun q => (((q.2 : Nat) : Int), q.1)).map fun p => ((Sum.inl p.1 : Key), V.int p.2))) := fun H2 => ⟨?_, ?_, kvs, ?_, hD⟩
    · exact ⟨.ref h'.objs.size, _, I1.laid (t' := tk) grow hsz (ob _), rfl, q1 _ (I1.hok.fresh hsz)⟩
    · rw [List.length_map, List.length_map, List.length_zipIdx]
      exact Nat.le_of_lt (small1000 hl)
    · exact beq_eq_false_iff_ne.mpr (Nat.ne_of_gt (Nat.lt_of_lt_of_le I1.big hsz))
    · rw [ekv]
      exact kv_zip ns its 0 rv
end
end HM
namespace HM
open PySem PySem.Spec PyProof.Rows L2
/-! ### for i, x in enumerate(t), t a tuple -/
def IteT (K : PySem.W.Frag) (a : Addr) : L2.It :=
  ⟨fun i H => ∃ (xs : List V) (x : V), SqT K H a xs ∧ xs[i]? = some x, fun i H v H' => ∃ T x, v = .ref T ∧ H T = none ∧ H' = upd H T (.tup [.int (i : Nat), x]) ∧ ∀ xs, SqT K H a xs → xs[i]? = some x, fun i H => ∃ xs : List V, SqT K H a xs ∧ xs.length = i⟩
theorem turn_enumT {P : Program} {w : World} {K : PySem.W.Frag} {elts : List Expr} {kk : Nat} {tpos : Pos} (a e it : Addr) :
    Turn P w K (.Tuple elts kk tpos) (IteT K a) [e, it] e (fun i h => (∃ old, IsEnum h e it ((i : Nat) : Int) old) ∧ h.IsTupleIter it a i ∧ e ≠ it ∧ a ≠ e ∧ a ≠ it) where
  mem := List.mem_cons_self
  obj := fun i h st b hb => by
    obtain ⟨⟨old, he⟩, ⟨o, ho, hc, hd⟩, _⟩ := st
    rcases List.mem_cons.mp hb with z | z
    · exact z ▸ ⟨_, he, fun v q => nomatch q⟩
    · exact (List.mem_singleton.mp z) ▸ ⟨o, ho, fun v q => by rw [hd] at q; cases q⟩
  keep := fun i h h' st k => let ⟨⟨old, he⟩, hi, r⟩ := st; ⟨⟨old, k e List.mem_cons_self _ he⟩, hi.at fun o q => k it (List.mem_cons_of_mem _ List.mem_cons_self) o q, r⟩
  item := by
    intro X hP hw hK hc i pins s σ H E I hf st hg
    subst hP hw hK
    obtain ⟨⟨old, he⟩, hit, hne, hae, hai⟩ := st
    obtain ⟨xs, x, hq, hx⟩ := hg
    obtain ⟨its, rv, p, hz⟩ := I.tuple hq
    obtain ⟨u, hu, ru⟩ := rv.get hx
    have hlt : i < its.toArray.size := by rw [List.size_toArray]; exact (List.getElem?_eq_some_iff.mp hu).1
    have hel : e < s.heap.objs.size := Heap.lt_size he
    have hil : it < s.heap.objs.size := let ⟨_, q, _⟩ := hit; Heap.lt_size q
    have D : Draws X.prog X.w X.A.in1 it [it, a] its.toArray.size (fun i v => its.toArray[i]? = some v) (fun i h => h.IsTupleIter it a i ∧ h.IsTuple a its.toArray) := Draws.tuple (A := X.A.in1) (I.ok.hd hc) it a hai its.toArray
    have nef : e ∉ [it, a] := fun z => by
      rcases List.mem_cons.mp z with z | z
      · exact hne z
      · exact hae (List.mem_singleton.mp z).symm
    refine wpAny_pyNext_enum_itemD D he ⟨hit, p⟩ hlt hne nef fun v h' tk hv ho hst hT hsz hk => ?_
    obtain rfl : v = u := by
      have hu2 : its.toArray[i]? = some u := by simpa using hu
      exact Option.some.inj (hv.symm.trans hu2)
    refine ⟨_, rfl, wpAny_letOwnedTupleGo_enum (s := { s with heap := h', toks := tk + 1 }) ho fun h2 he2 sb => ?_⟩
    have hT2 : h2.get? s.heap.objs.size = some { cls := .type "tuple", data := .seq #[.int i tk, v] } := (sb.2 _ (Nat.ne_of_gt hel)).trans hT
    have new : ObjOk X.prog X.w (upd H s.heap.objs.size (.tup [.int (i : Nat), x])) h2 s.heap.objs.size (.tup [.int (i : Nat), x]) :=
      ⟨show 2 ≤ sizeLine by decide, [.int i tk, v], .cons ⟨_, rfl⟩ (.cons ru .nil), ⟨_, hT2, rfl, _, rfl⟩⟩
    have I1 : Inv X pins σ (upd H s.heap.objs.size (.tup [.int (i : Nat), x])) { s with heap := h2, toks := tk + 1 } :=
      I.turnedNew (ch := [e, it]) (fun b ob hb q => (sb.2 b (fun z => hb (by simp [z]))).trans (hk b ob (fun z => hb (by simp [z])) (fun z => hb (by simp [z])) q)) hf (Nat.le_refl _) new
    refine ⟨.ref s.heap.objs.size, _, I1, rfl, ⟨_, x, rfl, I.hok.fresh (Nat.le_refl _), rfl, fun ys hy => ?_⟩, ⟨⟨v, ?_⟩, hst.1.at fun o q => (sb.2 it (Ne.symm hne)).trans q, hne, hae, hai⟩, fun b hb => ?_⟩
    · rw [I.tuple_inj hy hq]
      exact hx
    · have e1 : ((i + 1 : Nat) : Int) = (i : Int) + 1 := by omega
      rw [e1]
      exact he2
    · have hb2 : b < s.heap.objs.size := by
        rcases List.mem_cons.mp hb with z | z
        · exact z ▸ hel
        · exact (List.mem_singleton.mp z) ▸ hil
      rw [upd_ne (Nat.ne_of_lt hb2)]
      exact (hf b hb).1
  done := by
    intro X hP hw hK hc i pins s σ H E I hf st hg
    subst hP hw hK
    obtain ⟨⟨old, he⟩, hit, hne, hae, hai⟩ := st
    obtain ⟨xs, hq, hx⟩ := hg
    obtain ⟨its, rv, p, hz⟩ := I.tuple hq
    obtain ⟨f0, f1, f2, f3, f4, f5⟩ := hf it (List.mem_cons_of_mem _ List.mem_cons_self)
    have hl : its.toArray.size = i := by rw [List.size_toArray, ← rv.length]; exact hx
    have D : Draws X.prog X.w X.A.in1 it [it, a] its.toArray.size (fun i v => its.toArray[i]? = some v) (fun i h => h.IsTupleIter it a i ∧ h.IsTuple a its.toArray) := Draws.tuple (A := X.A.in1) (I.ok.hd hc) it a hai its.toArray
    exact wpAny_pyNext_enum_endD D he ⟨by rw [hl]; exact hit, p⟩ fun h' eb => ⟨rfl, I.turned (t' := s.toks) (fun b o hb q => eb b o hb q) f0 f1 f3 f4 f5⟩
  self := fun A i s Q E st h => let ⟨⟨_, he⟩, _⟩ := st; wpAny_pyIter_enum he h
def iEnumT (K : PySem.W.Frag) (ta : TA) : TI := fun σ H R => ta σ H fun vs H1 => ∃ a xs, vs = [.ref a] ∧ SqT K H1 a xs ∧ R (IteT K a) H1
theorem pi_enumT {X : Cx} {e : Expr} {ta : TA} {p pos tpos : Pos} {elts : List Expr} {kk : Nat} (hg : Gl X "enumerate") (hm : X.mg "enumerate" = none) (ha : PA X [e] ta) (hs : starEach [e] X.env = [(false, eval e X.env)] := by rfl) :
    PI X (.Tuple elts kk tpos) (.Call (.Name "enumerate" p) [e] [] pos) (iEnumT X.K ta) := by
  refine ⟨fun pins s σ H R I h => ?_⟩
  refine Call_ (ld_blt I hg hm boot_enumerate (PyProof.Rows.callWith_type1 (thn (ha.run pos pins s σ H _ I h) fun us s1 hx => ?_) hs rfl))
  obtain ⟨vs, H1, I1, r1, a, xs, rfl, hq, q⟩ := hx
  cases r1 with
  | cons r rr =>
    cases rr
    cases r
    obtain ⟨its, rv, pl, hz⟩ := I1.tuple hq
    have hlt : a < s1.heap.objs.size := let ⟨_, e, _⟩ := pl; Heap.lt_size e
    refine call_enum1 (begins_tuple a its.toArray) pl fun h' he hit hk => wpAny_pyIter_enum he ?_
    have I2 : Inv X pins σ H1 { s1 with heap := h' } := I1.kept (t' := s1.toks) hk
    refine ⟨s1.heap.objs.size + 1, [s1.heap.objs.size + 1, s1.heap.objs.size], _, _, H1, rfl, I2, turn_enumT a (s1.heap.objs.size + 1) s1.heap.objs.size, ⟨⟨.none, he⟩, ⟨_, hit, rfl, rfl⟩, Nat.succ_ne_self _, Nat.ne_of_lt (Nat.lt_succ_of_lt hlt), Nat.ne_of_lt hlt⟩, fun b hb => ?_, q⟩
    have hle : s1.heap.objs.size ≤ b := by
      rcases List.mem_cons.mp hb with z | z
      · rw [z]
        exact Nat.le_add_right _ _
      · rw [List.mem_singleton.mp z]
        exact Nat.le_refl _
    exact I1.fpOk hle (I1.hok.fresh hle)
theorem walk_enumT {K : PySem.W.Frag} {a : Addr} {xs : List V} : Walk (IteT K a) xs.length (fun H => SqT K H a xs) (YPair (fun i => some (.int (i : Nat))) (fun i => xs[i]?)) := by
  refine ⟨fun i _ hi q => ⟨xs, xs[i], q, by simp [hi]⟩, fun _ q => ⟨xs, q, rfl⟩, fun i H v H' _ q y => ?_⟩
  obtain ⟨T, x, h1, h2, h3, h4⟩ := y
  exact ⟨T, .int (i : Nat), x, h1, h2, h3, rfl, h4 xs q⟩
/-! ### tuple(.. for x in ..) -/
section
variable {X : Cx}
def tTupG (P : Addr) (Rr : L2.St → V → Hp → List V → Prop) (te : TE) : TE := fun σ H Q => te σ H fun v H1 => GxR.TabG H1 P ∧ ∃ ys, Rr σ v H1 ys ∧ ys.length ≤ sizeLine ∧ ∀ H2, GxR.Tabbed P H1 H2 → newT ys H2 Q
theorem pe_tupG {c P : Addr} {elt iter : Expr} {x : Str} {px p pos gpos : Pos} {scope : Scope} {te : TE} {k : Nat} {Rr : L2.St → V → Hp → List V → Prop}
    (hr : Room k X.A) (hg : Gl X "tuple") (hm : X.mg "tuple" = none) (TB : GxR.TabB X.base X.mg c P) (hcode : X.env.code = .ref c) (Sc : GxR.GenS X.env scope x) (hi : PE X iter te) (hs : ∀ v, genFold iter X.env v = pure v)
    (hu : ∀ (pins : List (Addr × Obj)) (σ : L2.St) (v : V) (H1 : Hp) (s1 : Shared) (xv : Value) (ys : List V), Inv X pins σ H1 s1 → RelV v xv → GxR.TabG H1 P → Rr σ v H1 ys →
      ∃ (its : List Value) (o : Obj) (fp : List Addr) (St : Nat → Heap → Prop), its.length = ys.length ∧ Beg X P s1 xv its o fp St ∧ EltG X P s1 scope x elt its (fun i y => ∃ z, ys[i]? = some z ∧ RelV z y))
    (he : starEach [.GeneratorExp elt [⟨.Name x px, iter, [], 0⟩] scope gpos] X.env = (false, eval (.GeneratorExp elt [⟨.Name x px, iter, [], 0⟩] scope gpos) X.env) :: starEach [] X.env := by rfl) :
    PE X (.Call (.Name "tuple" p) [.GeneratorExp elt [⟨.Name x px, iter, [], 0⟩] scope gpos] [] pos) (tTupG P Rr te) := by
  refine ⟨fun pins s σ H Q I h => ?_⟩
  refine Call_ (ld_blt I hg hm boot_tuple (PyProof.Rows.callWith_type1 (PyProof.Rows.args_cons ?_ he) he rfl))
  refine gen_any (Rr := fun v H1 => ∃ ys, Rr σ v H1 ys ∧ ys.length ≤ sizeLine ∧ ∀ H2, GxR.Tabbed P H1 H2 → newT ys H2 Q) hr TB hcode Sc hi hs I h fun v H1 s1 xv I1 r1 tg q1 => ?_
  obtain ⟨ys, q1, hz, q2⟩ := q1
  obtain ⟨its, o, fp, St, hn, B, hel⟩ := hu pins σ v H1 s1 xv ys I1 r1 tg q1
  refine ⟨its, o, fp, St, _, B, hel, fun g s5 hG => ?_⟩
  obtain ⟨fp5, wr, G, Fv, St5, W, hst, hfp, hgm, hty, hF, hI⟩ := hG
  refine PyProof.Rows.args_nil ?_
  refine call_tuple_gen W.in4_3 hty hst hfp hgm (fun s' acc hmv hacc => ?_) (by rw [hn]; exact hz)
  obtain ⟨H2, hT, J⟩ := hI s' hmv
  have rv : Vals ys acc.toList := by
    obtain ⟨a1, a2⟩ := hacc
    refine vals_of_idx ys acc.toList (by rw [Array.length_toList, a1, hn]) fun j u hj => ?_
    have hj2 : acc[j]? = some u := by rw [← Array.getElem?_toList]; exact hj
    exact (hF j u (a2 j u hj2)).2
  exact laidF (t' := s'.toks) (its := acc.toList) J (fun b u e => Heap.get?_push_of_some _ e) (Nat.le_refl _) hz rv (by rw [Array.toArray_toList]; exact Heap.get?_push_size _ rfl) (q2 H2 hT)
end
end HM
namespace HM
open PySem PySem.Spec PyProof.Rows L2
section
variable {P : Program} {w : World} {K : PySem.W.Frag} {mg : Str → Option Value} {base : Heap}
/-- a def that may let refusals out, by its body -/
theorem pfnX_of {gd : Around → Prop} {x qual : Str} {st : Stmt} {f : Addr} {fd : FuncData} {N ps : List Str} {k : Nat} {sp : Sp} (F : Fun K x qual st f fd) (S : FnScope N ps (defScope st)) (len : ∀ vs H Q E, sp vs H Q E → vs.length = ps.length)
    (body : ∀ (cdv : Value) (A : Around) (out : List Env) (s : Shared) (H : Hp) (vs : List V) (Q : VK) (E : XK), fd.code = cdv → gd A → Room k (A.deeper (envOfC qual (defScope st) s.heap.objs.size f cdv)) → sp vs H Q E →
      ∃ t, PSs (cxOf (L2.CX P w) P w K mg base N qual (defScope st) f cdv A out s H E) (defBody st) t ∧ t { nx := fun _ H' => Q .non H', rt := Q } (start N vs) H) : PFn gd P w K mg base (L2.CX P w) (k + 1) f fd ps sp := by
  obtain ⟨oc, od, kV, doc, pm, an, cdv, ct, osl, rfl, lk, hcd⟩ := F.ex
  refine ⟨len, fun A out s H args us vs Q E hgd hr e0 hb r hsp => ?_⟩
  have M := mod_up e0.mod (fun b o e => (e0.bs b o e).1 : Grows base s.heap)
  have kinds : ∀ y ∈ ps.zip us, (defScope st).names.lookup y.1 = some .local ∨ ((defScope st).names.lookup y.1 = some .cell ∧ ((cellsFrom (s.heap.objs.size + 1) (defScope st).names []).lookup y.1).isSome = true) := by
    intro y hy
    rcases S.par y.1 (List.of_mem_zip (show (y.1, y.2) ∈ ps.zip us from hy)).1 with q | q
    · exact .inl q
    · exact .inr ⟨q, PySem.W.cellsFrom_some _ _ _ (.inl q)⟩
  refine codeAny_call_function hr.depth (M.kin _ _ lk) rfl S.co S.gen rfl (PySem.W.codeRec_of M.kin hcd) (hb _ _ _ _ ?_)
  refine wpAny_newFunctionEnv_cells S.kind kinds fun env he s1 x => ?_
  subst he
  obtain ⟨t, ht, hq⟩ := body cdv A out s H vs Q E rfl hgd (hr.deeper _) hsp
  refine ⟨M.nolimit.keeps x.toInCall.keep, codeAny_func (wpAny_mono (ht.run [] s1 (start N vs) H _ (inv_start S hr.hd e0 (len _ _ _ _ hsp) r x) hq) (fun fl s' hs => ?_) fun e s' hs => hs)⟩
  cases fl with
  | ret u =>
    obtain ⟨v, σ', H', J, rv, q⟩ := hs
    exact ⟨v, H', J.os, J.bare, J.base, J.hok, rv, q⟩
  | next =>
    obtain ⟨σ', H', J, q⟩ := hs
    exact ⟨.non, H', J.os, J.bare, J.base, J.hok, rfl, q⟩
  | brk =>
    obtain ⟨_, _, _, q⟩ := hs
    exact q.elim
  | cont =>
    obtain ⟨_, _, _, q⟩ := hs
    exact q.elim
end
/-- nothing is let out -/
theorem passX {X : Cx} {P : Program} {w : World} : Passes (L2.CX P w) X (fun _ _ _ => False) := fun _ _ _ _ _ _ _ c => by
  obtain ⟨_, _, _, _, _, _, _, _, _, _, _, _, z⟩ := c
  exact z.elim
/-- t[i], t a tuple -/
theorem rx_ixT {prog : Program} {w : World} {A : Around} {env : Env} {S : Heap → Prop} {a : Expr} {y : Str} {p pos : Pos} {t : Addr} {items : Array Value} {i : Int} {j : Nat} {x : Value} (fm : Firm S) (ha : RX prog w A env S a (fun v => v = .ref t)) (hb : RX prog w A env S (.Name y p) (fun v => ∃ tk, v = .int i tk))
    (hS : ∀ h, S h → IsTup h t items) (h1 : -(2 ^ 63) ≤ i) (h2 : i < 2 ^ 63) (hj : seqIndex? i items.size = some j) (hx : items[j]? = some x) : RX prog w A env S (.Subscript a (.Name y p) pos) (fun v => v = x) := fun E s hs => by
  refine Subscript_ (thn (ha E s hs) fun o s1 q1 => ?_)
  have hs1 := fm _ _ hs (kp_grows q1.2)
  refine thn (hb E s1 hs1) fun iv s2 q2 => ?_
  obtain ⟨rfl, k1⟩ := q1
  obtain ⟨⟨tk, rfl⟩, k2⟩ := q2
  have ht := hS _ (fm _ _ hs1 (kp_grows k2))
  exact subscriptTail_builtinR (x := x) ht.typeIs slot_tuple_getitem.lookup (getItem_tuple ht h1 h2 hj hx ⟨rfl, rfl, kp_trans k1 k2⟩)
end HM
namespace HM
open PySem PySem.Spec PyProof.Rows L2
/-- f(e, ..) by such a promise; what is let out is told by the slots too -/
theorem pe_callPS {X : Cx} {gd : Around → Prop} {CX : CXT} {k : Nat} {f : Addr} {fd : FuncData} {ps : List Str} {sp : Sp} {E : L2.St → XK} {x : Str} {p pos : Pos} {e : Expr} {es : List Expr} {t : TA} (G : PFn gd X.prog X.w X.K X.mg X.base CX k f fd ps sp) (hgd : gd X.A) (hr : Room k X.A) (hg : Gl X x) (hm : X.mg x = some (.ref f))
    (hk : PySem.W.keepIn X.K (.ref f) = true) (hb : Binds X.K fd ps []) (hx : ∀ σ, PassesAt CX X σ (E σ)) (ha : PA X (e :: es) t) (hdb : (x == ("__debug__" : Str)) = false := by decide)
    (he : starEach (e :: es) X.env = (false, eval e X.env) :: starEach es X.env := by rfl) (hpl : (backTo pos (starEach es X.env)).any (·.1) = false := by rfl) : PE X (.Call (.Name x p) (e :: es) [] pos) (tCallS sp E t) := by
  refine ⟨fun pins s σ H Q I h => ?_⟩
  refine wpAny_Call_Name_kw (ld_glob I hg hm ?_ hdb)
  refine PySem.W.callWith_K (h₀ := X.base) I.ok.mod.kin hk (thn (ha.run pos pins s σ H _ I h) fun us s1 hus => ?_) he hpl
  obtain ⟨vs, H1, I1, r, q⟩ := hus
  refine ⟨I1.kIn, ?_⟩
  have hl : us.length = ps.length := by rw [← r.length]; exact G.len _ _ _ _ q
  have hbs := hb s1 us I1.kIn (by rw [List.append_nil]; exact hl)
  rw [List.append_nil] at hbs
  refine wpAny_call (codeAny_mono (G.go X.A X.stack s1 H1 ⟨us, []⟩ us vs Q (E σ) hgd hr I1.env0 hbs r q) fun r s' hq => ?_)
  match r, hq with
  | .error e, hq => exact hx σ pins H1 s1 e s' I1 hq
  | .ok (.ret u), hq => exact I1.after hq
  | .ok .next, hq => exact hq.elim
  | .ok .brk, hq => exact hq.elim
  | .ok .cont, hq => exact hq.elim
theorem takesN {X : Cx} : Takes X (fun _ _ _ _ => False) := fun _ _ x => by
  obtain ⟨_, _, _, _, _, _, _, _, _, _, _, _, _, _, _, _, z⟩ := x
  exact z.elim
end HM
namespace HM
open PySem PySem.Spec PyProof.Rows L2
/-! ### the pen of a law: its script, where it stands, what is left of a number -/
def pk (a : Addr) (t l : Int) : List (Key × V) := [(.inr "script", .ref a), (.inr "at", .int t), (.inr "left", .int l)]
theorem pk_script (a : Addr) (t l : Int) : valV (pk a t l) (.inr "script") = some (.ref a) := rfl
theorem pk_at (a : Addr) (t l : Int) : valV (pk a t l) (.inr "at") = some (.int t) := by
  have h : ¬ (Sum.inr ("script" : Str) : Key) = Sum.inr ("at" : Str) := by decide +kernel
  unfold valV pk
  rw [List.find?_cons_of_neg (by simpa using h), List.find?_cons_of_pos (by simp)]
  rfl
theorem pk_left (a : Addr) (t l : Int) : valV (pk a t l) (.inr "left") = some (.int l) := by
  have h1 : ¬ (Sum.inr ("script" : Str) : Key) = Sum.inr ("left" : Str) := by decide +kernel
  have h2 : ¬ (Sum.inr ("at" : Str) : Key) = Sum.inr ("left" : Str) := by decide +kernel
  unfold valV pk
  rw [List.find?_cons_of_neg (by simpa using h1), List.find?_cons_of_neg (by simpa using h2), List.find?_cons_of_pos (by simp)]
  rfl
theorem pk_put_at (a : Addr) (t l t' : Int) : putK (pk a t l) (.inr "at") (.int t') = pk a t' l := by
  have h1 : ¬ (Sum.inr ("script" : Str) : Key) = Sum.inr ("at" : Str) := by decide +kernel
  have h2 : ¬ (Sum.inr ("left" : Str) : Key) = Sum.inr ("at" : Str) := by decide +kernel
  unfold putK pk
  simp [h1, h2]
theorem pk_put_left (a : Addr) (t l l' : Int) : putK (pk a t l) (.inr "left") (.int l') = pk a t l' := by
  have h1 : ¬ (Sum.inr ("script" : Str) : Key) = Sum.inr ("left" : Str) := by decide +kernel
  have h2 : ¬ (Sum.inr ("at" : Str) : Key) = Sum.inr ("left" : Str) := by decide +kernel
  unfold putK pk
  simp [h1, h2]
theorem pk_merge (a : Addr) (t l : Int) : mergeK [] (pk a t l) = pk a t l := by
  have h1 : ¬ (Sum.inr ("script" : Str) : Key) = Sum.inr ("at" : Str) := by decide +kernel
  have h2 : ¬ (Sum.inr ("script" : Str) : Key) = Sum.inr ("left" : Str) := by decide +kernel
  have h3 : ¬ (Sum.inr ("at" : Str) : Key) = Sum.inr ("left" : Str) := by decide +kernel
  unfold mergeK pk
  simp [putK, h1, h2, h3]
def isPen (K : PySem.W.Frag) (H : Hp) (p : Addr) (t : Int) : Prop := ∃ (a : Addr) (ns : List Int) (l : Int), H p = some (.dK (pk a t l)) ∧ Scr K H a ns ∧ ns.length ≤ 63 ∧ 0 ≤ t ∧ 0 ≤ l
/-- only what stands at p has changed -/
def But (p : Addr) (H H' : Hp) : Prop := ∀ b, b ≠ p → H' b = H b
end HM
namespace HM
open PySem PySem.Spec PyProof.Rows L2
def iota (n : Nat) : List Int := (List.range n).map fun i => ((i : Nat) : Int)
theorem rgV0 (n : Nat) : rgV 0 (n : Int) = (iota n).map V.int := by
  unfold rgV iota
  rw [List.map_map, Int.sub_zero, Int.toNat_natCast]
  exact List.map_congr_left fun i _ => by simp
theorem iota_len (n : Nat) : (iota n).length = n := by simp [iota]
theorem perm_step {rem acc : List Int} {n k : Nat} (h : (acc ++ rem).Perm (iota n)) (hk : k < rem.length) : (acc ++ [rem[k]] ++ rem.eraseIdx k).Perm (iota n) := by
  refine List.Perm.trans ?_ h
  rw [List.append_assoc]
  refine List.Perm.append_left acc ?_
  rw [List.singleton_append]
  have e : rem.Perm (rem[k] :: rem.eraseIdx k) := by
    have h1 := List.perm_cons_erase (List.getElem_mem hk)
    have h2 : rem = rem.take k ++ rem[k] :: rem.drop (k + 1) := by rw [List.getElem_cons_drop, List.take_append_drop]
    have h3 : rem.eraseIdx k = rem.take k ++ rem.drop (k + 1) := List.eraseIdx_eq_take_drop_succ rem k
    rw [h3]
    conv => lhs; rw [h2]
    exact List.perm_middle
  exact e.symm
theorem map_erzIx {α β : Type} (f : α → β) : ∀ (l : List α) (k : Nat), (l.map f).eraseIdx k = (l.eraseIdx k).map f
  | [], _ => rfl
  | _ :: _, 0 => rfl
  | a :: l, k + 1 => by
    show f a :: (l.map f).eraseIdx k = f a :: (l.eraseIdx k).map f
    rw [map_erzIx f l k]
theorem seqIx {r : Int} {n : Nat} (h0 : 0 ≤ r) (h1 : r < (n : Int)) : seqIndex? r n = some r.toNat := by
  unfold seqIndex?
  have h2 : ¬ r < 0 := by omega
  simp only [if_neg h2]
  rw [if_pos (by simp; exact ⟨h0, h1⟩)]
/-- all that was tracked but for p is as it was -/
def Kept (p : Addr) (H H' : Hp) : Prop := ∀ b o, H b = some o → b ≠ p → H' b = some o
theorem Kept.trans {p : Addr} {H H1 H2 : Hp} (a : Kept p H H1) (b : Kept p H1 H2) : Kept p H H2 := fun c o e n => b c o (a c o e n) n
theorem Kept.refl (p : Addr) (H : Hp) : Kept p H H := fun _ _ e _ => e
theorem But.kept {p : Addr} {H H' : Hp} (h : But p H H') : Kept p H H' := fun b o e n => by rw [h b n]; exact e
def rLenS (K : PySem.W.Frag) : List V → Hp → VK → Prop := fun xs H Q => ∃ p ys, xs = [.ref p] ∧ (SqL K H p ys ∨ SqT K H p ys) ∧ Q (.int ys.length) H
def noX : XK := fun _ _ _ => False
theorem isPen.up {K : PySem.W.Frag} {H H' : Hp} {p : Addr} {t : Int} (h : isPen K H p t) (k : ∀ b o, H b = some o → b = p ∨ (∃ ob u, o = .frz ob u) → H' b = some o) : isPen K H' p t := by
  obtain ⟨a, ns, l, h1, h2, r⟩ := h
  exact ⟨a, ns, l, k _ _ h1 (.inl rfl), h2.up fun b ob u e => k _ _ e (.inr ⟨ob, u, rfl⟩), r⟩
theorem isPen.lay {K : PySem.W.Frag} {H : Hp} {p q : Addr} {t : Int} {o : HO} (h : isPen K H p t) (n : H q = none) : isPen K (upd H q o) p t :=
  h.up fun b u e _ => by rw [upd_ne (ne_of_none e n)]; exact e
theorem isPen.put {K : PySem.W.Frag} {H : Hp} {p q : Addr} {t : Int} {xs ys : List V} (h : isPen K H p t) (n : H q = some (.lst xs)) : isPen K (upd H q (.lst ys)) p t := by
  obtain ⟨a, ns, l, h1, _⟩ := _root_.id h
  refine h.up fun b u e c => ?_
  rw [upd_ne fun z => ?_]
  · exact e
  · subst z
    rw [n] at e
    cases e
    rcases c with c | ⟨ob, u, c⟩
    · rw [c, h1] at n
      cases n
    · cases c
end HM
namespace HM
open PySem PySem.Spec PyProof.Rows L2
/-! ### the numbers from 0 on, each once -/
def numV (n : Int) : V → Bool
  | .int i => decide (0 ≤ i) && decide (i < n)
  | _ => false
def intV : V → Int
  | .int i => i
  | _ => 0
def numD (n : Int) : PyData → Bool
  | .int i => decide (0 ≤ i) && decide (i < n)
  | _ => false
def itD : PyData → Int
  | .int i => i
  | _ => 0
def eachOnce (ds : List PyData) (n : Int) : Bool := decide ((ds.length : Int) = n) && (ds.all (numD n) && decide (ds.map itD).Nodup)
def turnD : PyData → Bool
  | .tuple ds => (decide (1 ≤ ds.length) && decide (ds.length ≤ 7)) && eachOnce ds ds.length
  | _ => false
theorem dp_num {K : PySem.W.Frag} {H : Hp} {v : V} {d : PyData} (h : Dp K H v d) (n : Int) : numV n v = numD n d := by cases h <;> rfl
theorem dp_int {K : PySem.W.Frag} {H : Hp} {v : V} {d : PyData} (h : Dp K H v d) : intV v = itD d := by cases h <;> rfl
theorem dp_ty {K : PySem.W.Frag} {H : Hp} {v : V} {d : PyData} (h : Dp K H v d) : ∃ T, VTy K H v T := by
  cases h with
  | non => exact ⟨_, .non⟩
  | bl b => exact ⟨_, .bl b⟩
  | int i => exact ⟨_, .int i⟩
  | str x => exact ⟨_, .str x⟩
  | lst h _ => exact ⟨_, .lst h⟩
  | tup h _ => exact ⟨_, .tup h⟩
theorem dps_len {K : PySem.W.Frag} {H : Hp} : ∀ {vs : List V} {ds : List PyData}, DpAll K H vs ds → vs.length = ds.length
  | _, _, .nil => rfl
  | _, _, .cons _ t => congrArg (· + 1) (dps_len t)
theorem dps_num {K : PySem.W.Frag} {H : Hp} (n : Int) : ∀ {vs : List V} {ds : List PyData}, DpAll K H vs ds → vs.all (numV n) = ds.all (numD n)
  | _, _, .nil => rfl
  | _, _, .cons h t => by rw [List.all_cons, List.all_cons, dp_num h n, dps_num n t]
theorem dps_int {K : PySem.W.Frag} {H : Hp} : ∀ {vs : List V} {ds : List PyData}, DpAll K H vs ds → vs.map intV = ds.map itD
  | _, _, .nil => rfl
  | _, _, .cons h t => by rw [List.map_cons, List.map_cons, dp_int h, dps_int t]
theorem dps_ty {K : PySem.W.Frag} {H : Hp} : ∀ {vs : List V} {ds : List PyData}, DpAll K H vs ds → ∀ x ∈ vs, ∃ T, VTy K H x T
  | _, _, .nil, _, h => by cases h
  | _, _, .cons h t, x, hx => by
    rcases List.mem_cons.mp hx with e | e
    · subst e
      exact dp_ty h
    · exact dps_ty t x e
/-- where all are numbers they are ints -/
theorem all_ints {n : Int} : ∀ {xs : List V}, xs.all (numV n) = true → xs = (xs.map intV).map V.int
  | [], _ => rfl
  | x :: xs, h => by
    rw [List.all_cons, Bool.and_eq_true] at h
    have e := all_ints h.2
    rw [List.map_cons, List.map_cons, ← e]
    cases x with
    | int i => rfl
    | _ => exact absurd h.1 Bool.false_ne_true
theorem all_range {α : Type} (d : α) (f : α → Bool) (xs : List α) : ((List.range xs.length).all fun i => f (xs.getD i d)) = xs.all f := by
  rw [Bool.eq_iff_iff, List.all_eq_true, List.all_eq_true]
  constructor
  · intro h x hx
    obtain ⟨i, hi, e⟩ := List.getElem_of_mem hx
    have q := h i (List.mem_range.mpr hi)
    rw [List.getD_eq_getElem?_getD, List.getElem?_eq_getElem hi, Option.getD_some, e] at q
    exact q
  · intro h i hi
    have hi' := List.mem_range.mp hi
    rw [List.getD_eq_getElem?_getD, List.getElem?_eq_getElem hi', Option.getD_some]
    exact h _ (List.getElem_mem hi')
theorem len_sub : ∀ {L ns : List Int}, L.Nodup → (∀ x ∈ L, x ∈ ns) → L.length ≤ ns.length
  | [], ns, _, _ => Nat.zero_le _
  | a :: L, ns, nd, h => by
    have nd2 := List.nodup_cons.mp nd
    have ha := h a List.mem_cons_self
    have ih := len_sub (L := L) (ns := ns.erase a) nd2.2 fun x hx => (List.mem_erase_of_ne (fun (z : x = a) => nd2.1 (z ▸ hx))).mpr (h x (List.mem_cons_of_mem _ hx))
    rw [List.length_erase_of_mem ha] at ih
    have := List.length_pos_of_mem ha
    rw [List.length_cons]
    omega
theorem perm_sub : ∀ {L ns : List Int}, L.Nodup → (∀ x ∈ L, x ∈ ns) → ns.length ≤ L.length → L.Perm ns
  | [], ns, _, _, hl => by
    rw [List.length_eq_zero_iff.mp (Nat.le_zero.mp hl)]
  | a :: L, ns, nd, h, hl => by
    have nd2 := List.nodup_cons.mp nd
    have ha := h a List.mem_cons_self
    have hp := List.length_pos_of_mem ha
    have ih := perm_sub (L := L) (ns := ns.erase a) nd2.2 (fun x hx => (List.mem_erase_of_ne (fun (z : x = a) => nd2.1 (z ▸ hx))).mpr (h x (List.mem_cons_of_mem _ hx))) (by
      rw [List.length_erase_of_mem ha]
      rw [List.length_cons] at hl
      omega)
    exact (List.Perm.cons a ih).trans (List.perm_cons_erase ha).symm
theorem dist_all {ns : List Int} {c : Nat} (h : Dist ns c) : c ≤ ns.length ∧ (c = ns.length ↔ ns.Nodup) := by
  obtain ⟨L, nd, hm, rfl⟩ := h
  have sub : ∀ x ∈ L, x ∈ ns := fun x hx => (hm x).mp hx
  refine ⟨len_sub nd sub, fun e => ?_, fun n2 => ?_⟩
  · exact (perm_sub nd sub (Nat.le_of_eq e.symm)).nodup_iff.mp nd
  · exact Nat.le_antisymm (len_sub nd sub) (len_sub n2 fun x hx => (hm x).mpr hx)
theorem rel_num {x : V} {u : Value} {n : Int} {h : Heap} {T : String} (r : RelV x u) (t : RTy h u T) : isNum n u = numV n x := by
  cases x with
  | int i => obtain ⟨t, rfl⟩ := (show ∃ t, u = Value.int i t from r); rfl
  | non => cases (show u = Value.none from r); rfl
  | bl b => cases (show u = Value.bool b from r); rfl
  | str y => obtain ⟨t, rfl⟩ := (show ∃ t, u = Value.str y t from r); rfl
  | byt y => obtain ⟨t, rfl⟩ := (show ∃ t, u = Value.bytes y t from r); rfl
  | flt y => obtain ⟨t, rfl⟩ := (show ∃ t, u = Value.float y t from r); rfl
  | ref a => cases (show u = Value.ref a from r); rfl
  | ty n => cases (show u = Value.type n from r); rfl
theorem sqT_ne {K : PySem.W.Frag} {H H' : Hp} {a P : Addr} {xs : List V} (h : SqT K H a xs) (tg : GxR.TabG H P) (k : ∀ b, b ≠ P → H' b = H b) : SqT K H' a xs := by
  obtain ⟨ps, hP, _⟩ := tg
  rcases h with (h | ⟨o, h⟩) | h
  · exact .inl (.inl (by rw [k a (ne_of h hP (by intro z; cases z))]; exact h))
  · exact .inl (.inr ⟨o, by rw [k a (ne_of h hP (by intro z; cases z))]; exact h⟩)
  · exact .inr h
theorem vals_at : ∀ {xs : List V} {us : List Value} {i : Nat} {u : Value}, Vals xs us → us[i]? = some u → ∃ x, xs[i]? = some x ∧ RelV x u
  | _, _, _, _, .nil, e => by simp at e
  | _, _, 0, _, .cons r _, e => by simp at e; subst e; exact ⟨_, rfl, r⟩
  | _, _, i + 1, u, .cons _ t, e => by
    obtain ⟨x, h1, h2⟩ := vals_at (i := i) (u := u) t (by simpa using e)
    exact ⟨x, by simpa using h1, h2⟩
end HM
namespace HM
open PySem PySem.Spec PyProof.Rows L2
theorem VTy.tyx {K : PySem.W.Frag} {H : Hp} {x : V} {T : String} (t : VTy K H x T) : TyX K H x (.type T) := by
  cases t with
  | non => exact .base .non
  | bl b => exact .base (.bl b)
  | int i => exact .base (.int i)
  | str y => exact .base (.str y)
  | lst e =>
    rcases e with (e | ⟨o, e⟩) | ⟨o, its, n, hk, hc, _⟩
    · exact .base (.lst e)
    · exact .base (.frz e)
    · exact .kList hk hc
  | tup e =>
    rcases e with (e | ⟨o, e⟩) | ⟨o, its, n, hk, hc, _⟩
    · exact .base (.tup e)
    · exact .fTuple e
    · exact .kTuple hk hc
  | dct e => exact .base (.dK e)
/-- what a thing is, for who asks whether it is a turn -/
def TC (K : PySem.W.Frag) (H : Hp) (x : V) (d : PyData) : Prop := (∃ (a : Addr) (xs : List V) (ds : List PyData), x = .ref a ∧ d = .tuple ds ∧ TF H a xs ∧ DpAll K H xs ds) ∨ (∃ T, VTy K H x T ∧ kitB T "tuple" = some false ∧ turnD d = false)
def isI : PyData → Bool
  | .int _ => true
  | _ => false
theorem item_kit {K : PySem.W.Frag} {H : Hp} {v : V} {d : PyData} (h : Dp K H v d) : ∃ T b1 b2, VTy K H v T ∧ kitB T "int" = some b1 ∧ kitB T "bool" = some b2 ∧ (b1 && !b2) = isI d := by
  cases h with
  | non => exact ⟨_, false, false, .non, by decide +kernel, by decide +kernel, rfl⟩
  | bl b => exact ⟨_, true, true, .bl b, by decide +kernel, by decide +kernel, rfl⟩
  | int i => exact ⟨_, true, false, .int i, by decide +kernel, by decide +kernel, rfl⟩
  | str x => exact ⟨_, false, false, .str x, by decide +kernel, by decide +kernel, rfl⟩
  | lst h _ => exact ⟨_, false, false, .lst h, by decide +kernel, by decide +kernel, rfl⟩
  | tup h _ => exact ⟨_, false, false, .tup h, by decide +kernel, by decide +kernel, rfl⟩
theorem dps_at {K : PySem.W.Frag} {H : Hp} : ∀ {vs : List V} {ds : List PyData} {i : Nat} {v : V}, DpAll K H vs ds → vs[i]? = some v → ∃ d, ds[i]? = some d ∧ Dp K H v d
  | _, _, _, _, .nil, e => by simp at e
  | _, _, 0, _, .cons h _, e => by simp at e; subst e; exact ⟨_, rfl, h⟩
  | _, _, i + 1, v, .cons _ t, e => by
    obtain ⟨d, h1, h2⟩ := dps_at (i := i) (v := v) t (by simpa using e)
    exact ⟨d, by simpa using h1, h2⟩
/-! ### counting -/
def inR (n : Int) (i : Int) : Bool := decide (0 ≤ i) && decide (i < n)
theorem inR_iff {n : Nat} {i : Int} : inR (n : Int) i = true ↔ i ∈ iota n := by
  unfold inR iota
  rw [Bool.and_eq_true, decide_eq_true_eq, decide_eq_true_eq, List.mem_map]
  constructor
  · rintro ⟨h1, h2⟩
    exact ⟨i.toNat, List.mem_range.mpr (by omega), by omega⟩
  · rintro ⟨j, hj, e⟩
    have := List.mem_range.mp hj
    omega
theorem iota_nodup (n : Nat) : (iota n).Nodup := by
  unfold iota
  exact List.Pairwise.map _ (fun a b h z => h (by omega)) List.nodup_range
theorem count_nodup : ∀ {zs : List Int} {k : Int}, zs.Nodup → k ∈ zs → zs.count k = 1
  | z :: zs, k, nd, h => by
    have nd2 := List.nodup_cons.mp nd
    by_cases e : z = k
    · subst e
      rw [List.count_cons_self, List.count_eq_zero.mpr nd2.1]
    · rw [List.count_cons_of_ne e]
      exact count_nodup nd2.2 ((List.mem_cons.mp h).resolve_left fun q => e q.symm)
theorem due_iff {zs : List Int} {n : Nat} (h : zs.length = n) : ((iota n).all fun k => decide (zs.count k = 1)) = (zs.all (inR n) && decide zs.Nodup) := by
  rw [Bool.eq_iff_iff, List.all_eq_true, Bool.and_eq_true, List.all_eq_true, decide_eq_true_eq]
  constructor
  · intro hc
    have p : (iota n).Perm zs := perm_sub (iota_nodup n) (fun x hx => by
      have q := of_decide_eq_true (hc x hx)
      exact List.count_pos_iff.mp (by omega)) (by rw [iota_len, h]; exact Nat.le_refl _)
    exact ⟨fun x hx => inR_iff.mpr (p.symm.subset hx), p.nodup_iff.mp (iota_nodup n)⟩
  · rintro ⟨h1, h2⟩ k hk
    have p : zs.Perm (iota n) := perm_sub h2 (fun x hx => inR_iff.mp (h1 x hx)) (by rw [iota_len, h]; exact Nat.le_refl _)
    exact decide_eq_true (count_nodup h2 (p.symm.subset hk))
theorem num_ints (n : Int) : ∀ {ds : List PyData}, ds.all isI = true → ds.all (numD n) = (ds.map itD).all (inR n)
  | [], _ => rfl
  | d :: ds, h => by
    rw [List.all_cons, Bool.and_eq_true] at h
    rw [List.all_cons, List.map_cons, List.all_cons, num_ints n h.2]
    cases d with
    | int i => rfl
    | _ => exact absurd h.1 Bool.false_ne_true
theorem num_isI (n : Int) : ∀ {ds : List PyData}, ds.all isI = false → ds.all (numD n) = false
  | [], h => by cases h
  | d :: ds, h => by
    rw [List.all_cons] at h ⊢
    cases e : isI d with
    | true =>
      rw [e, Bool.true_and] at h
      rw [num_isI n h, Bool.and_false]
    | false => cases d <;> first | rfl | cases e
theorem dps_ints {K : PySem.W.Frag} {H : Hp} : ∀ {vs : List V} {ds : List PyData}, DpAll K H vs ds → ds.all isI = true → vs = (ds.map itD).map V.int
  | _, _, .nil, _ => rfl
  | _, _, .cons h t, e => by
    rw [List.all_cons, Bool.and_eq_true] at e
    rw [List.map_cons, List.map_cons, ← dps_ints t e.2]
    cases h with
    | int i => rfl
    | _ => exact absurd e.1 Bool.false_ne_true
theorem eqv_nil (ns : List Int) : PyData.eqv (.list (ns.map .int)) (.list []) = ns.isEmpty := by cases ns <;> rfl
theorem dp_ints {K : PySem.W.Frag} {H : Hp} : ∀ ns : List Int, DpAll K H (ns.map V.int) (ns.map .int)
  | [] => .nil
  | n :: ns => .cons (.int n) (dp_ints ns)
theorem shaped_ints (ns : List Int) : SeqAt.shaped (.list (ns.map .int)) = true := by
  have h1 : ∀ l : List Int, PyData.canLayAll0 (l.map .int) = true := fun l => by
    induction l with
    | nil => rfl
    | cons a l ih => simpa [PyData.canLayAll0, PyData.canLay0] using ih
  have h2 : ∀ l : List Int, PyData.depthAll (l.map .int) = 0 := fun l => by
    induction l with
    | nil => rfl
    | cons a l ih => simpa [PyData.depthAll, PyData.depth] using ih
  unfold SeqAt.shaped
  rw [Bool.and_eq_true]
  exact ⟨by simpa [PyData.canLay0] using h1 ns, by simp [PyData.depth, h2 ns]⟩
section
variable {X : Cx}
def rCntT (K : PySem.W.Frag) : V → List V → Hp → VK → Prop := fun x xs H Q => ∃ (p : Addr) (ns : List Int) (k : Int), x = .ref p ∧ xs = [.int k] ∧ SqT K H p (ns.map V.int) ∧ Q (.int (ns.count k : Nat)) H
theorem mt_tcount : MtR X "tuple.count" (rCntT X.K) := by
  intro pins s σ H x xs v us Q I rx rxs h
  obtain ⟨p, ns, k, rfl, rfl, hs, q⟩ := h
  cases rx
  obtain ⟨u, rfl, ru⟩ := rxs.one
  obtain ⟨t, rfl⟩ := ru
  obtain ⟨its, rv, ⟨⟨cls, dd, data, sl⟩, ho, hc, n, hd⟩, hlen⟩ := I.tuple hs
  simp only at hc hd
  subst hc hd
  have hi := RZ.intsAre_vals rv
  refine call_meets PySem.F.slot_tuple_count ⟨_, ho, rfl⟩ PySem.F.entry_tuple_count (PySem.F.args_tuple_count_2 _ _) (SeqAt.tuple_countAt p its.toArray n dd sl (.int k t) (eqk k)) ⟨ho, fun y hy => (eqk_gives hi y (by simpa using hy)).at _ _, ?_⟩
  refine ⟨.int (ns.count k : Nat), H, I.tok _, ⟨s.toks, ?_⟩, q⟩
  rw [show its.toArray.toList.countP (eqk k) = ns.count k from eqk_count hi]
end
end HM
namespace HM
open PySem PySem.Spec PyProof.Rows L2
/-! ### how long a repr may be -/
mutual
def cost : PyData → Nat
  | .none => 4
  | .bool _ => 5
  | .int _ => 1921
  | .str x => (reprText x).length
  | .list xs => costs xs + 2
  | .tuple xs => costs xs + 2
  | .dict kvs => costKv kvs + 2
def costs : List PyData → Nat
  | [] => 0
  | x :: xs => cost x + 2 + costs xs
def costKv : List (PyData × PyData) → Nat
  | [] => 0
  | (k, v) :: r => cost k + 2 + cost v + 2 + costKv r
end
theorem textFrom_up : ∀ (ts : List Str) (k : Nat) (acc : Str), (textFrom k acc ts).length ≤ acc.length + piled ts
  | [], k, acc => by
    rw [piled_nil]
    exact Nat.le_refl _
  | t :: r, k, acc => by
    rw [piled_cons]
    unfold textFrom
    refine Nat.le_trans (textFrom_up r _ _) ?_
    split
    · rw [strLen_append, strLen_append, show ((", " : Str)).length = 2 by decide +kernel]
      omega
    · rw [strLen_append, strLen_append, show (("" : Str)).length = 0 by decide +kernel]
      omega
theorem listText_up (ts : List Str) : (listText ts).length ≤ piled ts + 2 := by
  unfold listText
  rw [strLen_append, show (("]" : Str)).length = 1 by decide +kernel]
  have h := textFrom_up ts 0 "["
  rw [show (("[" : Str)).length = 1 by decide +kernel] at h
  omega
theorem dictText_up (ts : List Str) : (dictText ts).length ≤ piled ts + 2 := by
  unfold dictText
  rw [strLen_append, strLen_append, show (("{" : Str)).length = 1 by decide +kernel, show (("}" : Str)).length = 1 by decide +kernel]
  cases ts with
  | nil => decide +kernel
  | cons t r =>
    have := join_length_add (t :: r) (by simp)
    omega
mutual
theorem shown_le : ∀ d : PyData, d.showable = true → d.shown.length ≤ cost d
  | .none, _ => by
    show (("None" : Str)).length ≤ 4
    decide +kernel
  | .bool b, _ => by
    cases b
    · show (("False" : Str)).length ≤ 5
      decide +kernel
    · show (("True" : Str)).length ≤ 5
      decide +kernel
  | .int i, h => by
    have h2 : i.natAbs.log2 < 1920 := by simpa [PyData.showable] using h
    exact int_text_len_1921 h2
  | .str x, _ => Nat.le_refl _
  | .list xs, h => by
    have h2 := shown_les xs (by simpa [PyData.showable] using h)
    have h3 := listText_up (PyData.shownAll xs)
    show (listText (PyData.shownAll xs)).length ≤ costs xs + 2
    omega
  | .tuple xs, h => by
    have h2 := shown_les xs (by simpa [PyData.showable] using h)
    have h3 := fmt_text (PyData.shownAll xs)
    show (tupleText (PyData.shownAll xs)).length ≤ costs xs + 2
    omega
  | .dict kvs, h => by
    have h2 := shown_kv kvs (by simpa [PyData.showable] using h)
    have h3 := dictText_up (PyData.shownKv kvs)
    show (dictText (PyData.shownKv kvs)).length ≤ costKv kvs + 2
    omega
theorem shown_les : ∀ xs : List PyData, PyData.showableAll xs = true → piled (PyData.shownAll xs) ≤ costs xs
  | [], _ => Nat.le_refl _
  | x :: xs, h => by
    have h1 : x.showable = true ∧ PyData.showableAll xs = true := by simpa [PyData.showableAll] using h
    have h2 := shown_le x h1.1
    have h3 := shown_les xs h1.2
    show piled (x.shown :: PyData.shownAll xs) ≤ cost x + 2 + costs xs
    rw [piled_cons]
    omega
theorem shown_kv : ∀ kvs : List (PyData × PyData), PyData.showableKv kvs = true → piled (PyData.shownKv kvs) ≤ costKv kvs
  | [], _ => Nat.le_refl _
  | (k, v) :: r, h => by
    have h1 : (k.showable = true ∧ v.showable = true) ∧ PyData.showableKv r = true := by simpa [PyData.showableKv, and_assoc] using h
    have h2 := shown_le k h1.1.1
    have h3 := shown_le v h1.1.2
    have h4 := shown_kv r h1.2
    show piled ((k.shown ++ ": " ++ v.shown) :: PyData.shownKv r) ≤ cost k + 2 + cost v + 2 + costKv r
    rw [piled_cons, strLen_append, strLen_append, show ((": " : Str)).length = 2 by decide +kernel]
    omega
end
/-! ### what stays -/
def UpN (H H' : Hp) : Prop := ∀ b o, H b = some o → (∀ q, o ≠ .tbl q) → H' b = some o
theorem UpN.refl (H : Hp) : UpN H H := fun _ _ e _ => e
theorem UpN.trans {H H1 H2 : Hp} (a : UpN H H1) (b : UpN H1 H2) : UpN H H2 := fun c o e n => b c o (a c o e n) n
theorem UpN.of_same {H H' : Hp} (h : Same H H') : UpN H H' := fun b o e _ => h b o e
theorem UpN.of_tab {H H' : Hp} {P : Addr} (t : GxR.TabG H P) (h : GxR.Tabbed P H H') : UpN H H' := fun b o e n => by
  obtain ⟨ps, hP, _⟩ := t
  rw [h.2 b fun z => by
    rw [z, hP] at e
    exact n ps (Option.some.inj e).symm]
  exact e
theorem TF.up {H H' : Hp} {a : Addr} {xs : List V} (h : TF H a xs) (k : UpN H H') : TF H' a xs := let ⟨o, h1, h2⟩ := h; ⟨o, h1, k _ _ h2 fun q z => by cases z⟩
theorem sqL_up {K : PySem.W.Frag} {H H' : Hp} {a : Addr} {xs : List V} (h : SqL K H a xs) (k : UpN H H') : SqL K H' a xs := by
  rcases h with (h | ⟨o, h⟩) | h
  · exact .inl (.inl (k _ _ h fun q z => by cases z))
  · exact .inl (.inr ⟨o, k _ _ h fun q z => by cases z⟩)
  · exact .inr h
theorem sqT_up {K : PySem.W.Frag} {H H' : Hp} {a : Addr} {xs : List V} (h : SqT K H a xs) (k : UpN H H') : SqT K H' a xs := by
  rcases h with (h | ⟨o, h⟩) | h
  · exact .inl (.inl (k _ _ h fun q z => by cases z))
  · exact .inl (.inr ⟨o, k _ _ h fun q z => by cases z⟩)
  · exact .inr h
mutual
theorem dp_up {K : PySem.W.Frag} {H H' : Hp} (k : UpN H H') : ∀ {v : V} {d : PyData}, Dp K H v d → Dp K H' v d
  | _, _, .non => .non
  | _, _, .bl b => .bl b
  | _, _, .int i => .int i
  | _, _, .str x => .str x
  | _, _, .lst h t => .lst (sqL_up h k) (dps_up k t)
  | _, _, .tup h t => .tup (sqT_up h k) (dps_up k t)
theorem dps_up {K : PySem.W.Frag} {H H' : Hp} (k : UpN H H') : ∀ {vs : List V} {ds : List PyData}, DpAll K H vs ds → DpAll K H' vs ds
  | _, _, .nil => .nil
  | _, _, .cons h t => .cons (dp_up k h) (dps_up k t)
end
theorem dps_app {K : PySem.W.Frag} {H : Hp} : ∀ {vs ws : List V} {ds es : List PyData}, DpAll K H vs ds → DpAll K H ws es → DpAll K H (vs ++ ws) (ds ++ es)
  | _, _, _, _, .nil, t => t
  | _, _, _, _, .cons h r, t => .cons h (dps_app r t)
/-! ### tuples put together, whichever of the ways -/
theorem cat_rd {K : PySem.W.Frag} {H : Hp} {a b : Addr} {xs ys : List V} {Q : VK} (hx : TF H a xs) (hy : TF H b ys) (hz : xs.length + ys.length ≤ 1000) (q : ∀ (r : Addr) (H' : Hp), Same H H' → TF H' r (xs ++ ys) → Q (.ref r) H') : rCatF K (.ref a) (.ref b) H Q := by
  refine ⟨a, b, xs, ys, rfl, rfl, hx.sq, hy.sq, Nat.le_of_lt (small1000 hz), fun e => q b H (Same.refl H) ?_, fun _ e => q a H (Same.refl H) ?_, fun _ _ p o np ho => q p _ (fun c u z => ?_) ⟨o, ho, upd_same⟩⟩
  · rw [e]
    exact hy
  · rw [e, List.append_nil]
    exact hx
  · rw [upd_ne (ne_of_none z np)]
    exact z
theorem cut_rd {K : PySem.W.Frag} {H : Hp} {a : Addr} {xs : List V} {lo hi : Option Int} {Q : VK} (hx : TF H a xs) (q : ∀ (r : Addr) (H' : Hp), Same H H' → TF H' r (cutV xs lo hi) → Q (.ref r) H') : rSlF K (.ref a) lo hi H Q := by
  refine ⟨a, xs, rfl, hx.sq, fun e => q a H (Same.refl H) ?_, fun _ p o np ho => q p _ (fun c u z => ?_) ⟨o, ho, upd_same⟩⟩
  · unfold cutV
    rw [e.1, e.2, Nat.sub_zero, List.drop_zero, List.take_length]
    exact hx
  · rw [upd_ne (ne_of_none z np)]
    exact z
theorem new_rd {H : Hp} {xs : List V} {Q : VK} (q : ∀ (r : Addr) (H' : Hp), Same H H' → H r = none → (∀ b, b ≠ r → H' b = H b) → TF H' r xs → Q (.ref r) H') : newT xs H Q := fun p o np ho =>
  q p _ (fun c u z => by rw [upd_ne (ne_of_none z np)]; exact z) np (fun b hb => upd_ne hb) ⟨o, ho, upd_same⟩
theorem cut_head (xs : List V) {k : Nat} (h : k ≤ xs.length) : cutV xs none (some (k : Int)) = xs.take k := by
  unfold cutV
  rw [HT.sIx_none, HT.sIx_nat, List.drop_zero, Nat.sub_zero, Nat.min_eq_left h]
theorem cut_tail (xs : List V) {k : Nat} (h : k ≤ xs.length) : cutV xs (some (k : Int)) none = xs.drop k := by
  unfold cutV
  rw [HT.sIx_none, HT.sIx_nat, Nat.min_eq_left h]
  exact List.take_of_length_le (by rw [List.length_drop]; exact Nat.le_refl _)
end HM
namespace HM
open PySem PySem.Spec PyProof.Rows L2
/-- the heap without what stands at l -/
def mns (H : Hp) (l : List Addr) : Hp := fun b => if b ∈ l then none else H b
theorem mns_in {H : Hp} {l : List Addr} {b : Addr} (h : b ∈ l) : mns H l b = none := if_pos h
theorem mns_out {H : Hp} {l : List Addr} {b : Addr} (h : b ∉ l) : mns H l b = H b := if_neg h
theorem mns_some {H : Hp} {l : List Addr} {b : Addr} {o : HO} (h : mns H l b = some o) : b ∉ l ∧ H b = some o := by
  by_cases z : b ∈ l
  · rw [mns_in z] at h
    cases h
  · rw [mns_out z] at h
    exact ⟨z, h⟩
theorem up_mns {H H' : Hp} {l l' : List Addr} (k : ∀ b o, b ∉ l → H b = some o → b ∉ l' ∧ H' b = some o) : UpN (mns H l) (mns H' l') := fun b o e _ => by
  obtain ⟨h1, h2⟩ := mns_some e
  obtain ⟨h3, h4⟩ := k b o h1 h2
  rw [mns_out h3]
  exact h4
theorem mns_le {H : Hp} {l : List Addr} : UpN (mns H l) H := fun b o e _ => (mns_some e).2
theorem TF.mns {H : Hp} {a : Addr} {xs : List V} {l : List Addr} (h : TF H a xs) (hl : ∀ b ∈ l, ∃ ys, H b = some (.lst ys)) : TF (mns H l) a xs := by
  obtain ⟨o, h1, h2⟩ := h
  refine ⟨o, h1, ?_⟩
  rw [mns_out fun z => ?_]
  · exact h2
  · obtain ⟨ys, e⟩ := hl a z
    rw [e] at h2
    cases h2
/-- data that are small -/
def smI (i : Int) : Bool := decide (i.natAbs ≤ 10 ^ 29)
def smD : PyData → Bool
  | .int i => smI i
  | .bool _ => true
  | .none => true
  | .str x => decide (x = "0")
  | .tuple [.int i] => smI i
  | .list [.int i] => smI i
  | _ => false
/-- a tuple of few small things -/
def NearT (K : PySem.W.Frag) (H : Hp) (x : V) : Prop := ∃ (a : Addr) (ys : List V) (ds : List PyData), x = .ref a ∧ TF H a ys ∧ DpAll K H ys ds ∧ ds.length ≤ 16 ∧ ds.all smD = true
theorem NearT.up {K : PySem.W.Frag} {H H' : Hp} {x : V} (h : NearT K H x) (k : UpN H H') : NearT K H' x := by
  obtain ⟨a, ys, ds, h1, h2, h3, r⟩ := h
  exact ⟨a, ys, ds, h1, h2.up k, dps_up k h3, r⟩
theorem dp_intsH {K : PySem.W.Frag} {H : Hp} (ns : List Int) : DpAll K H (ns.map V.int) (ns.map .int) := dp_ints ns
theorem sm_ints : ∀ {ns : List Int}, (∀ i ∈ ns, 0 ≤ i ∧ i < 8) → (ns.map PyData.int).all smD = true
  | [], _ => rfl
  | n :: ns, h => by
    rw [List.map_cons, List.all_cons, sm_ints fun i hi => h i (List.mem_cons_of_mem _ hi), Bool.and_true]
    have := h n List.mem_cons_self
    show smI n = true
    exact decide_eq_true (by omega)
/-- [pre + (one,) + post for one in S] -/
theorem lc_near {K : PySem.W.Frag} {H : Hp} {Qd : Hp → Prop} {D a F S : Addr} {k : Nat} {y3 y4 : Option V} {os : List V} {zs pre post : List Int} {av : List Addr} {te : TE}
    (ha : TF H a (zs.map V.int)) (hS : H S = some (.lst os)) (hl : pre.length + post.length ≤ 14) (hsm : ∀ i, i ∈ pre ∨ i ∈ post → 0 ≤ i ∧ i < 8) (hav : ∀ b ∈ av, ∃ ys, H b = some (.lst ys)) (hos : ∀ o ∈ os, ∃ d, Dp K (mns H av) o d ∧ smD d = true) (hol : os.length ≤ 100)
    (hte : ∀ (one : V) (H2 : Hp) (Q2 : VK), TF H2 a (zs.map V.int) → (∀ r H', Same H2 H' → TF H' r (pre.map V.int ++ [one] ++ post.map V.int) → Q2 (.ref r) H') → te [some (.ref a), some (.ref F), some (.int (k : Int)), y3, some one] H2 Q2)
    (nD : H D = none) (q : ∀ (acc : List V) (H' : Hp), Same H H' → H' D = some (.lst acc) → acc.length = os.length → (∀ x ∈ acc, NearT K (mns H' (D :: av)) x) → Qd H') :
    ∃ W : Nat → Nat → Hp → Prop, (∃ m, W 0 m (upd H D (.lst []))) ∧ ∀ i m Hx, W i m Hx → ((Itl K S).stop i Hx ∧ Qd Hx) ∨ ((Itl K S).go i Hx ∧ ∃ Nx : Hp → Prop, (∀ Hy, Nx Hy → ∃ m', m' < m ∧ W (i + 1) m' Hy) ∧
      ∀ x Hy, (Itl K S).yld i Hx x Hy → gName 4 x (wipe [some (.ref a), some (.ref F), some (.int (k : Int)), y3, y4] [4]) Hy fun σ2 H2 => wipe σ2 [4] = wipe [some (.ref a), some (.ref F), some (.int (k : Int)), y3, y4] [4] ∧ tYes σ2 H2 fun b H3 =>
        if b = true then te σ2 H3 fun y H4 => ∃ acc, H4 D = some (.lst acc) ∧ acc.length < sizeLine ∧ Nx (upd H4 D (.lst (acc ++ [y]))) else Nx H3) := by
  refine lc_list (xs := os) (fun i H3 => ∃ acc : List V, H3 D = some (.lst acc) ∧ acc.length = i ∧ (∀ b o, H b = some o → H3 b = some o) ∧ ∀ x ∈ acc, NearT K (mns H3 (D :: av)) x)
    ⟨[], upd_same, rfl, fun b o e => by rw [upd_ne (ne_of_none e nD)]; exact e, fun x hx => by cases hx⟩ (fun i H3 _ hP => ?_) (fun i one H3 ho hP => ?_) fun H3 hP => ?_
  · obtain ⟨acc, _, _, hk, _⟩ := hP
    exact .inl (.inl (hk _ _ hS))
  · obtain ⟨acc, eD, hac, hk, hn⟩ := hP
    have ha3 : TF H3 a (zs.map V.int) := ha.up fun b o e _ => hk b o e
    refine ⟨rfl, hte one H3 _ ha3 fun r H4 hs hr => ?_⟩
    have hi : i < os.length := (List.getElem?_eq_some_iff.mp ho).1
    refine ⟨acc, hs _ _ eD, small1000 (by omega), acc ++ [.ref r], upd_same, by rw [List.length_append, hac]; rfl, fun b o e => by rw [upd_ne (ne_of_none e nD)]; exact hs _ _ (hk b o e), fun x hx => ?_⟩
    have up4 : UpN (mns H3 (D :: av)) (mns (upd H4 D (.lst (acc ++ [.ref r]))) (D :: av)) := up_mns fun b o hb e => ⟨hb, by rw [upd_ne fun z => hb (by rw [z]; exact List.mem_cons_self)]; exact hs _ _ e⟩
    rcases List.mem_append.mp hx with hx | hx
    · exact (hn x hx).up up4
    · cases List.mem_singleton.mp hx
      obtain ⟨d, hd, hsd⟩ := hos one (List.mem_of_getElem? ho)
      have up0 : UpN (mns H av) (mns (upd H4 D (.lst (acc ++ [.ref r]))) (D :: av)) := up_mns fun b o hb e => ⟨fun z => by
        rcases List.mem_cons.mp z with z | z
        · rw [z, nD] at e
          cases e
        · exact hb z, by rw [upd_ne (ne_of_none e nD)]; exact hs _ _ (hk b o e)⟩
      refine ⟨r, _, pre.map .int ++ [d] ++ post.map .int, rfl, ?_, dps_app (dps_app (dp_ints pre) (.cons (dp_up up0 hd) .nil)) (dp_ints post), ?_, ?_⟩
      · have hr2 : TF (upd H4 D (.lst (acc ++ [.ref r]))) r (pre.map V.int ++ [one] ++ post.map V.int) := by
          obtain ⟨o, h1, h2⟩ := hr
          refine ⟨o, h1, ?_⟩
          rw [upd_ne fun z => ?_]
          · exact h2
          · rw [z, hs _ _ eD] at h2
            cases h2
        refine hr2.mns fun b hb => ?_
        rcases List.mem_cons.mp hb with z | z
        · rw [z]
          exact ⟨_, upd_same⟩
        · obtain ⟨ys, e⟩ := hav b z
          exact ⟨ys, by rw [upd_ne (ne_of_none e nD)]; exact hs _ _ (hk _ _ e)⟩
      · rw [List.length_append, List.length_append, List.length_map, List.length_map]
        show pre.length + 1 + post.length ≤ 16
        omega
      · rw [List.all_append, List.all_append, sm_ints fun i hi => hsm i (.inl hi), sm_ints fun i hi => hsm i (.inr hi)]
        show (true && (smD d && true)) && true = true
        rw [hsd]
        rfl
  · obtain ⟨acc, eD, hac, hk, hn⟩ := hP
    exact q acc H3 hk eD hac hn
end HM
namespace HM
open PySem PySem.Spec PyProof.Rows L2
/-! ### data that repr can show -/
def It (k c : Nat) (d : PyData) : Prop := d.showable = true ∧ d.hasDict = false ∧ d.depth ≤ k ∧ cost d ≤ c
theorem it_all {k c : Nat} : ∀ {ds : List PyData}, (∀ d ∈ ds, It k c d) → PyData.showableAll ds = true ∧ PyData.hasDictAll ds = false ∧ PyData.depthAll ds ≤ k ∧ costs ds ≤ (c + 2) * ds.length
  | [], _ => ⟨rfl, rfl, Nat.zero_le _, Nat.le_refl _⟩
  | d :: ds, h => by
    obtain ⟨h1, h2, h3, h4⟩ := h d List.mem_cons_self
    obtain ⟨g1, g2, g3, g4⟩ := it_all (ds := ds) fun e he => h e (List.mem_cons_of_mem _ he)
    refine ⟨by simp only [PyData.showableAll, h1, g1, Bool.and_self], by simp only [PyData.hasDictAll, h2, g2, Bool.or_self], by simp only [PyData.depthAll]; omega, ?_⟩
    show cost d + 2 + costs ds ≤ (c + 2) * (ds.length + 1)
    rw [Nat.mul_add]
    omega
theorem it_tup {k c : Nat} {ds : List PyData} (h : ∀ d ∈ ds, It k c d) : It (k + 1) ((c + 2) * ds.length + 2) (.tuple ds) := by
  obtain ⟨g1, g2, g3, g4⟩ := it_all h
  exact ⟨by simpa only [PyData.showable] using g1, by simpa only [PyData.hasDict] using g2, by simp only [PyData.depth]; omega, by show costs ds + 2 ≤ _; omega⟩
theorem it_lst {k c : Nat} {ds : List PyData} (h : ∀ d ∈ ds, It k c d) : It (k + 1) ((c + 2) * ds.length + 2) (.list ds) := by
  obtain ⟨g1, g2, g3, g4⟩ := it_all h
  exact ⟨by simpa only [PyData.showable] using g1, by simpa only [PyData.hasDict] using g2, by simp only [PyData.depth]; omega, by show costs ds + 2 ≤ _; omega⟩
theorem it_mono {k c k' c' : Nat} {d : PyData} (h : It k c d) (hk : k ≤ k') (hc : c ≤ c') : It k' c' d := ⟨h.1, h.2.1, Nat.le_trans h.2.2.1 hk, Nat.le_trans h.2.2.2 hc⟩
theorem log_small {i : Int} (h : smI i = true) : i.natAbs.log2 < 1920 := by
  have h1 : i.natAbs ≤ 10 ^ 29 := of_decide_eq_true h
  by_cases h0 : i.natAbs = 0
  · rw [h0]
    decide
  · rw [Nat.log2_lt h0]
    exact Nat.lt_of_le_of_lt h1 (by decide +kernel)
theorem it_int {i : Int} (h : smI i = true) : It 0 1921 (.int i) := ⟨by simpa only [PyData.showable] using decide_eq_true (log_small h), rfl, Nat.le_refl _, Nat.le_refl _⟩
theorem it_bool (b : Bool) : It 0 1921 (.bool b) := ⟨rfl, rfl, Nat.le_refl _, by show 5 ≤ 1921; decide⟩
theorem it_none : It 0 1921 .none := ⟨rfl, rfl, Nat.le_refl _, by show 4 ≤ 1921; decide⟩
theorem it_small {d : PyData} (h : smD d = true) : It 1 2000 d := by
  cases d with
  | none => exact it_mono it_none (by decide) (by decide)
  | bool b => exact it_mono (it_bool b) (by decide) (by decide)
  | int i => exact it_mono (it_int h) (by decide) (by decide)
  | str x =>
    have e : x = "0" := of_decide_eq_true h
    subst e
    exact ⟨rfl, rfl, Nat.zero_le _, by decide +kernel⟩
  | list xs =>
    match xs, h with
    | [.int i], h => exact it_mono (it_lst (k := 0) (c := 1921) fun d hd => by rw [List.mem_singleton.mp hd]; exact it_int h) (by decide) (by show (1921 + 2) * 1 + 2 ≤ 2000; decide)
  | tuple xs =>
    match xs, h with
    | [.int i], h => exact it_mono (it_tup (k := 0) (c := 1921) fun d hd => by rw [List.mem_singleton.mp hd]; exact it_int h) (by decide) (by show (1921 + 2) * 1 + 2 ≤ 2000; decide)
  | dict kvs => cases h
/-! ### what a thing is that is asked about -/
def Th (K : PySem.W.Frag) (H : Hp) (x : V) : Prop := ∃ d, RP K H x d ∧ TC K H x d ∧ d.showable = true ∧ d.depth ≤ 40 ∧ d.shown.length ≤ sizeLine ∧ ∀ ds, d = .tuple ds → ds.length ≤ 4000
theorem vty_up {K : PySem.W.Frag} {H H' : Hp} {x : V} {T : String} (t : VTy K H x T) (k : UpN H H') : VTy K H' x T := by
  cases t with
  | non => exact .non
  | bl b => exact .bl b
  | int i => exact .int i
  | str y => exact .str y
  | lst e => exact .lst (sqL_up e k)
  | tup e => exact .tup (sqT_up e k)
  | dct e => exact .dct (k _ _ e fun q z => by cases z)
theorem rp_up {K : PySem.W.Frag} {H H' : Hp} {x : V} {d : PyData} (h : RP K H x d) (k : UpN H H') : RP K H' x d := by
  cases h with
  | flat h n => exact .flat (dp_up k h) n
  | dict ps h => exact .dict ps (k _ _ h fun q z => by cases z)
theorem tc_up {K : PySem.W.Frag} {H H' : Hp} {x : V} {d : PyData} (h : TC K H x d) (k : UpN H H') : TC K H' x d := by
  rcases h with ⟨a, xs, ds, h1, h2, h3, h4⟩ | ⟨T, h1, h2⟩
  · exact .inl ⟨a, xs, ds, h1, h2, h3.up k, dps_up k h4⟩
  · exact .inr ⟨T, vty_up h1 k, h2⟩
theorem Th.up {K : PySem.W.Frag} {H H' : Hp} {x : V} (h : Th K H x) (k : UpN H H') : Th K H' x := by
  obtain ⟨d, h1, h2, r⟩ := h
  exact ⟨d, rp_up h1 k, tc_up h2 k, r⟩
theorem th_it {K : PySem.W.Frag} {H : Hp} {x : V} {d : PyData} (h : Dp K H x d) (t : TC K H x d) (i : It 40 1000000 d) (hl : ∀ ds, d = .tuple ds → ds.length ≤ 4000) : Th K H x :=
  ⟨d, .flat h i.2.1, t, i.1, i.2.2.1, Nat.le_trans (shown_le d i.1) (Nat.le_trans i.2.2.2 (by decide)), hl⟩
theorem th_tup {K : PySem.W.Frag} {H : Hp} {a : Addr} {xs : List V} {ds : List PyData} (h : TF H a xs) (hd : DpAll K H xs ds) (i : ∀ d ∈ ds, It 5 20000 d) (hl : ds.length ≤ 20) : Th K H (.ref a) :=
  th_it (.tup h.sq hd) (.inl ⟨a, xs, ds, rfl, rfl, h, hd⟩) (it_mono (it_tup i) (by decide) (by have := Nat.mul_le_mul_left (20000 + 2) hl; omega)) fun es e => by cases e; omega
theorem th_lst {K : PySem.W.Frag} {H : Hp} {a : Addr} {xs : List V} {ds : List PyData} (h : SqL K H a xs) (hd : DpAll K H xs ds) (i : ∀ d ∈ ds, It 5 20000 d) (hl : ds.length ≤ 20) : Th K H (.ref a) :=
  th_it (.lst h hd) (.inr ⟨_, .lst h, by decide +kernel, rfl⟩) (it_mono (it_lst i) (by decide) (by have := Nat.mul_le_mul_left (20000 + 2) hl; omega)) fun es e => by cases e
theorem NearT.th {K : PySem.W.Frag} {H : Hp} {x : V} (h : NearT K H x) : Th K H x := by
  obtain ⟨a, ys, ds, rfl, h2, h3, h4, h5⟩ := h
  exact th_tup h2 h3 (fun d hd => it_mono (it_small (List.all_eq_true.mp h5 d hd)) (by decide) (by decide)) (by omega)
theorem it_ints {zs : List Int} (h : ∀ z ∈ zs, 0 ≤ z ∧ z < 100) : ∀ d ∈ zs.map PyData.int, It 0 1921 d := fun d hd => by
  obtain ⟨z, hz, rfl⟩ := List.mem_map.mp hd
  have := h z hz
  exact it_int (decide_eq_true (by omega))
theorem th_ints {K : PySem.W.Frag} {H : Hp} {a : Addr} {zs : List Int} (h : TF H a (zs.map V.int)) (hz : ∀ z ∈ zs, 0 ≤ z ∧ z < 100) (hl : zs.length ≤ 20) : Th K H (.ref a) :=
  th_tup h (dp_ints zs) (fun d hd => it_mono (it_ints hz d hd) (by decide) (by decide)) (by rw [List.length_map]; exact hl)
theorem th_snoc {K : PySem.W.Frag} {H H' : Hp} {l : List V} {y : V} (h : ∀ x ∈ l, Th K H x) (k : UpN H H') (hy : Th K H' y) : ∀ x ∈ l ++ [y], Th K H' x := fun x hx => by
  rcases List.mem_append.mp hx with hx | hx
  · exact (h x hx).up k
  · rw [List.mem_singleton.mp hx]
    exact hy
/-! ### texts -/
def okS (x : Str) : Prop := ∀ c ∈ x.cps.toList, c < 16 ^ 8
theorem okS_of (s : String) : okS (Str.ofString s) := fun c hc => by
  rw [signs_ofString] at hc
  obtain ⟨ch, _, rfl⟩ := List.mem_map.mp hc
  exact Nat.lt_of_lt_of_le ch.val.toNat_lt (by decide)
theorem okS_app {x y : Str} (hx : okS x) (hy : okS y) : okS (x ++ y) := fun c hc => by
  have e : (x ++ y).cps.toList = x.cps.toList ++ y.cps.toList := by
    show (x.cps ++ y.cps).toList = _
    simp
  rw [e] at hc
  exact (List.mem_append.mp hc).elim (hx c) (hy c)
theorem okS_join {sep : Str} (hs : okS sep) : ∀ {ts : List Str}, (∀ t ∈ ts, okS t) → okS (Str.join sep ts)
  | [], _ => fun c hc => by cases hc
  | [x], h => h x List.mem_cons_self
  | x :: y :: r, h => okS_app (okS_app (h x List.mem_cons_self) hs) (okS_join hs fun t ht => h t (List.mem_cons_of_mem _ ht))
theorem okS_ints (zs : List Int) : okS (PyData.tuple (zs.map .int)).shown := by
  have h : ∀ l : List Int, ∀ t ∈ PyData.shownAll (l.map .int), okS t := fun l => by
    induction l with
    | nil => intro t ht; cases ht
    | cons z l ih =>
      intro t ht
      rcases List.mem_cons.mp (show t ∈ PyData.shown (.int z) :: PyData.shownAll (l.map .int) from ht) with e | e
      · rw [e]
        exact okS_of _
      · exact ih t e
  show okS (tupleText (PyData.shownAll (zs.map .int)))
  unfold tupleText
  exact okS_app (okS_app (okS_of _) (okS_join (okS_of _) (h zs))) (okS_of _)
theorem th_shown {K : PySem.W.Frag} {H : Hp} {zs : List Int} (hz : ∀ z ∈ zs, 0 ≤ z ∧ z < 100) (hl : zs.length ≤ 20) : Th K H (.str (PyData.tuple (zs.map .int)).shown) := by
  have i := it_tup (it_ints hz)
  rw [List.length_map] at i
  have h1 := shown_le _ i.1
  have h2 := Nat.mul_le_mul_left (1921 + 2) hl
  have h3 := StrLaws.reprText_len _ (okS_ints zs)
  have h4 := i.2.2.2
  refine ⟨.str _, .flat (.str _) rfl, .inr ⟨_, .str _, by decide +kernel, rfl⟩, rfl, Nat.zero_le _, ?_, fun ds e => by cases e⟩
  show (reprText _).length ≤ sizeLine
  have h5 : sizeLine = 16777216 := by decide
  omega
theorem th_dict {K : PySem.W.Frag} {H : Hp} {a : Addr} {ps : List (Int × Int)} (h : H a = some (.dK (ps.map fun p => ((Sum.inl p.1 : Key), V.int p.2)))) (hz : ∀ p ∈ ps, smI p.1 = true ∧ smI p.2 = true) (hl : ps.length ≤ 20) : Th K H (.ref a) := by
  have key : ∀ l : List (Int × Int), (∀ p ∈ l, smI p.1 = true ∧ smI p.2 = true) → PyData.showableKv (l.map fun p => (.int p.1, .int p.2)) = true ∧ PyData.depthKv (l.map fun p => (.int p.1, .int p.2)) = 0 ∧ costKv (l.map fun p => (.int p.1, .int p.2)) = 3846 * l.length := fun l => by
    induction l with
    | nil => intro _; exact ⟨rfl, rfl, rfl⟩
    | cons p l ih =>
      intro h
      obtain ⟨g1, g2, g3⟩ := ih fun q hq => h q (List.mem_cons_of_mem _ hq)
      have e := h p List.mem_cons_self
      refine ⟨?_, ?_, ?_⟩
      · show (PyData.showable (.int p.1) && PyData.showable (.int p.2) && PyData.showableKv (l.map fun p => (.int p.1, .int p.2))) = true
        rw [(it_int e.1).1, (it_int e.2).1, g1]
        rfl
      · show max (max 0 0) (PyData.depthKv (l.map fun p => (.int p.1, .int p.2))) = 0
        rw [g2]
        rfl
      · show 1921 + 2 + 1921 + 2 + costKv (l.map fun p => (.int p.1, .int p.2)) = 3846 * (l.length + 1)
        rw [g3]
        omega
  obtain ⟨g1, g2, g3⟩ := key ps hz
  have hs : (PyData.dict (ps.map fun p => (.int p.1, .int p.2))).showable = true := by simpa only [PyData.showable] using g1
  refine ⟨_, .dict ps h, .inr ⟨_, .dct h, by decide +kernel, rfl⟩, hs, by simp only [PyData.depth, g2]; decide, ?_, fun ds e => by cases e⟩
  have h1 := shown_le _ hs
  have h2 : cost (PyData.dict (ps.map fun p => (.int p.1, .int p.2))) = costKv (ps.map fun p => (.int p.1, .int p.2)) + 2 := rfl
  rw [h2, g3] at h1
  have h5 : sizeLine = 16777216 := by decide
  omega
end HM
namespace HM
open PySem PySem.Spec PyProof.Rows L2
section
variable {prog : Program} {w : World} {A : Around} {env : Env} {S : Heap → Prop} {R : Value → Prop}
/-- f(a), f a built-in -/
theorem rx_callB1 {x : Str} {p pos : Pos} {a : Expr} {id : String} {Ra : Value → Prop} (fm : Firm S) (hf : RX prog w A env S (.Name x p) (fun v => v = .builtin id)) (ha : RX prog w A env S a Ra)
    (hc : ∀ (E : Value → Shared → Prop) (s : Shared) (u : Value), S s.heap → Ra u → wpAny (model prog w) A (call (.builtin id) [u]) (fun y s' => R y ∧ Keeps s s') E s)
    (he : starEach [a] env = (false, eval a env) :: starEach [] env := by rfl) (hpl : (backTo pos (starEach [] env)).any (·.1) = false := by rfl) :
    RX prog w A env S (.Call (.Name x p) [a] [] pos) R := fun E s hs => by
  refine wpAny_Call_Name_kw (thn (hf E s hs) fun fv s0 q0 => ?_)
  obtain ⟨rfl, k0⟩ := q0
  refine PyProof.Rows.callWith_builtin1 ?_ he hpl
  rw [he]
  show wpAny _ _ (spliced ((false, eval a env) :: backTo pos (starEach [] env))) _ _ s0
  have hs0 := fm _ _ hs (kp_grows k0)
  refine Calls.spliced_cons (thn (ha E s0 hs0) fun u s1 q1 => ?_)
  refine Calls.spliced_nil ?_
  have hs1 := fm _ _ hs0 (kp_grows q1.2)
  exact thn (hc E s1 u hs1 q1.1) fun y s3 q3 => ⟨q3.1, kp_trans k0 (kp_trans q1.2 q3.2)⟩
/-- len(e), e a list -/
theorem rx_lenL {x : Str} {p pos : Pos} {a : Expr} {l : Addr} {items : Array Value} (fm : Firm S) (hf : RX prog w A env S (.Name x p) (fun v => v = .builtin "len")) (ha : RX prog w A env S a (fun v => v = .ref l)) (hS : ∀ h, S h → h.IsList l items) (hfit : (items.size : Int) < 2 ^ 63)
    (he : starEach [a] env = (false, eval a env) :: starEach [] env := by rfl) : RX prog w A env S (.Call (.Name x p) [a] [] pos) (fun y => ∃ t, y = .int items.size t) :=
  rx_callB1 fm hf ha (fun E s u hs hu => by
    subst hu
    exact Calls.call_len_list (hS _ hs) hfit ⟨⟨_, rfl⟩, kp_tok s _⟩) he
/-- e[x], e a list -/
theorem rx_ixL {a : Expr} {y : Str} {p pos : Pos} {l : Addr} {items : Array Value} {i : Int} {x : Value} (fm : Firm S) (ha : RX prog w A env S a (fun v => v = .ref l)) (hb : RX prog w A env S (.Name y p) (fun v => ∃ tk, v = .int i tk)) (hS : ∀ h, S h → h.IsList l items)
    (h0 : 0 ≤ i) (h1 : i < 2 ^ 63) (hx : items[i.toNat]? = some x) : RX prog w A env S (.Subscript a (.Name y p) pos) (fun v => v = x) := fun E s hs => by
  refine Subscript_ (thn (ha E s hs) fun o s1 q1 => ?_)
  have hs1 := fm _ _ hs (kp_grows q1.2)
  refine thn (hb E s1 hs1) fun iv s2 q2 => ?_
  obtain ⟨rfl, k1⟩ := q1
  obtain ⟨⟨tk, rfl⟩, k2⟩ := q2
  exact item_listR (hS _ (fm _ _ hs1 (kp_grows k2))) h0 h1 hx ⟨rfl, kp_trans k1 k2⟩
end
/-! ### len(set(l)), l a list of ints -/
theorem first_dist (ns : List Int) : Dist ns (PyProof.Rows.firstMet (fun i => ns.getD i 0) ns.length).length := by
  have nd : ∀ i, (PyProof.Rows.firstMet (fun i => ns.getD i 0) i).Nodup := fun i => by
    induction i with
    | zero => exact List.nodup_nil
    | succ i ih =>
      rw [firstMet_succ]
      unfold step_dedup
      split
      · exact ih
      · rename_i h
        refine List.nodup_append.mpr ⟨ih, List.nodup_cons.mpr ⟨by simp, List.nodup_nil⟩, fun a ha b hb e => ?_⟩
        rw [List.mem_singleton.mp hb] at e
        subst e
        exact h (List.any_eq_true.mpr ⟨_, ha, by simp⟩)
  refine ⟨_, nd ns.length, fun k => ?_, rfl⟩
  have e := firstMet_any (fun i => ns.getD i 0) ns.length k
  have e2 : (List.range ns.length).map (fun i => ns.getD i 0) = ns := by
    refine List.ext_getElem (by simp) fun i h1 h2 => ?_
    rw [List.getElem_map, List.getElem_range, List.getD_eq_getElem?_getD, List.getElem?_eq_getElem h2]
    rfl
  rw [e2] at e
  rw [Bool.eq_iff_iff, List.any_eq_true, List.any_eq_true] at e
  constructor
  · intro h
    obtain ⟨x, hx, hk⟩ := e.mp ⟨k, h, by simp⟩
    rw [← beq_iff_eq.mp hk]
    exact hx
  · intro h
    obtain ⟨x, hx, hk⟩ := e.mpr ⟨k, h, by simp⟩
    rw [← beq_iff_eq.mp hk]
    exact hx
section
variable {X : Cx}
def tLenSetL (K : PySem.W.Frag) (ta : TE) : TE := fun σ H Q => ta σ H fun x H1 => ∃ (l : Addr) (ns : List Int), x = .ref l ∧ SqL K H1 l (ns.map V.int) ∧ ns.length ≤ 4000 ∧ ∀ c, Dist ns c → Q (.int (c : Nat)) H1
theorem pe_lenSetL {a : Expr} {ta : TE} {p p2 q pos : Pos} (hg : Gl X "len") (hm : X.mg "len" = none) (hg2 : Gl X "set") (hm2 : X.mg "set" = none) (ha : PE X a ta) (hc : X.calm = true := by rfl)
    (na : starEach [a] X.env = (false, eval a X.env) :: starEach [] X.env := by rfl) : PE X (.Call (.Name "len" p) [.Call (.Name "set" p2) [a] [] q] [] pos) (tLenSetL X.K ta) := by
  refine ⟨fun pins s σ H Q I h => ?_⟩
  refine Call_ (ld_blt I hg hm boot_len ?_)
  refine PyProof.Rows.callWith_builtin1 (PyProof.Rows.args_cons ?_ rfl) rfl rfl
  refine Call_ (ld_blt I hg2 hm2 boot_set ?_)
  refine PyProof.Rows.callWith_type1 (PyProof.Rows.args_cons (thn (ha.run pins s σ H _ I h) fun v s1 hx => PyProof.Rows.args_nil ?_) na) na rfl
  obtain ⟨x, H1, I1, r1, l, ns, rfl, hq, hl, q1⟩ := hx
  cases r1
  obtain ⟨its, r, pl, hz⟩ := I1.list hq
  have hlen : its.length = ns.length := by rw [← r.length, List.length_map]
  refine PySem.call_set_list (ns := ns) (I1.ok.hd hc) pl.isList (by simpa using RZ.intsAre_vals r) (by rw [List.size_toArray, hlen]; unfold scanBound; omega) fun h' tk hS hk => ?_
  have I2 := I1.kept (h' := h') (t' := tk) fun b o e => hk b o (Heap.lt_size e) e
  refine PyProof.Rows.args_nil ?_
  obtain ⟨o, es, ep, t, ho, hex, hd, _, _, hsb, hf, hn⟩ := hS
  have hsz : (es.size : Int) < 2 ^ 63 := by
    have h9 : scanBound ≤ 2 ^ 62 := by decide
    omega
  refine call_len_set ho hex hd hf hsz ⟨.int es.size, H1, I2.tok _, ⟨_, rfl⟩, ?_⟩
  refine q1 es.size ?_
  rw [hn, List.size_toArray, hlen]
  exact first_dist ns
end
end HM
namespace HM
open PySem PySem.Spec PyProof.Rows L2
/-! ### what stays while other things are laid, written or drawn -/
theorem tab_same {H H' : Hp} {P : Addr} (h : GxR.TabG H P) (k : Same H H') : GxR.TabG H' P := let ⟨ps, e, r⟩ := h; ⟨ps, k _ _ e, r⟩
theorem isPen.upN {K : PySem.W.Frag} {H H' : Hp} {p : Addr} {t : Int} (h : isPen K H p t) (k : UpN H H') : isPen K H' p t := by
  obtain ⟨a, ns, l, h1, h2, r⟩ := h
  exact ⟨a, ns, l, k _ _ h1 (fun q z => by cases z), h2.up (fun b ob u e => k _ _ e (fun q z => by cases z)), r⟩
theorem same_lay {H : Hp} {q : Addr} {o : HO} (n : H q = none) : Same H (upd H q o) := fun b u e => by rw [upd_ne (ne_of_none e n)]; exact e
theorem UpN.lay {H J : Hp} {q : Addr} {o : HO} (u : UpN H J) (n : J q = none) : UpN H (upd J q o) := u.trans (.of_same (same_lay n))
theorem UpN.set {H J : Hp} {q : Addr} {o : HO} (u : UpN H J) (n : H q = none) : UpN H (upd J q o) := fun b p e z => by rw [upd_ne (ne_of_none e n)]; exact u b p e z
theorem isPen.kept {K : PySem.W.Frag} {H H' : Hp} {p : Addr} {t : Int} {b : Addr} {o : HO} (hp : isPen K H p t) (k : Kept p H H') (e : H b = some o) (hd : ∀ kv, o ≠ .dK kv) : H' b = some o := by
  refine k _ _ e fun z => ?_
  obtain ⟨_, _, _, e2, _⟩ := hp
  rw [z, e2] at e
  exact hd _ (Option.some.inj e).symm
/-- all that was tracked is as it was, but for the pen and the tables -/
def UpP (p : Addr) (H H' : Hp) : Prop := ∀ b o, H b = some o → b ≠ p → (∀ q, o ≠ .tbl q) → H' b = some o
theorem UpP.refl (p : Addr) (H : Hp) : UpP p H H := fun _ _ e _ _ => e
theorem UpP.trans {p : Addr} {H H1 H2 : Hp} (a : UpP p H H1) (b : UpP p H1 H2) : UpP p H H2 := fun c o e n z => b c o (a c o e n z) n z
theorem UpP.of_up {p : Addr} {H H' : Hp} (u : UpN H H') : UpP p H H' := fun b o e _ z => u b o e z
theorem UpP.of_kept {p : Addr} {H H' : Hp} (k : Kept p H H') : UpP p H H' := fun b o e n _ => k b o e n
theorem UpP.set {p : Addr} {H J : Hp} {q : Addr} {o : HO} (u : UpP p H J) (n : H q = none) : UpP p H (upd J q o) := fun b r e h z => by rw [upd_ne (ne_of_none e n)]; exact u b r e h z
theorem tab_kept {K : PySem.W.Frag} {H H' : Hp} {p Pt : Addr} {t : Int} (h : GxR.TabG H Pt) (hp : isPen K H p t) (k : Kept p H H') : GxR.TabG H' Pt := let ⟨ps, e, r⟩ := h; ⟨ps, hp.kept k e (fun _ z => by cases z), r⟩
theorem tab_lay {H : Hp} {q Pt : Addr} {o : HO} (h : GxR.TabG H Pt) (n : H q = none) : GxR.TabG (upd H q o) Pt := tab_same h (same_lay n)
theorem tab_put {H : Hp} {q Pt : Addr} {l l2 : List V} (h : GxR.TabG H Pt) (n : H q = some (.lst l)) : GxR.TabG (upd H q (.lst l2)) Pt := by
  obtain ⟨ps, e, r⟩ := h
  refine ⟨ps, ?_, r⟩
  rw [upd_ne fun z => by rw [z, n] at e; cases e]
  exact e
/-- data, read through a heap that has lost nothing of it but the pen -/
def noPen (p : Addr) (H : Hp) : Prop := ∀ l, H p ≠ some (.lst l) ∧ H p ≠ some (.tup l) ∧ ∀ o u, H p ≠ some (.frz o u)
theorem isPen.noPen {K : PySem.W.Frag} {H : Hp} {p : Addr} {t : Int} (h : isPen K H p t) : noPen p H := by
  obtain ⟨_, _, _, e, _⟩ := h
  exact fun l => ⟨(fun z => by rw [e] at z; cases z), (fun z => by rw [e] at z; cases z), (fun o u z => by rw [e] at z; cases z)⟩
theorem sqL_p {K : PySem.W.Frag} {H H' : Hp} {p a : Addr} {xs : List V} (hp : HM.noPen p H) (u : UpP p H H') (h : SqL K H a xs) : SqL K H' a xs := by
  rcases h with (h | ⟨o, h⟩) | h
  · exact .inl (.inl (u _ _ h (fun z => by rw [z] at h; exact (hp xs).1 h) fun q z => by cases z))
  · exact .inl (.inr ⟨o, u _ _ h (fun z => by rw [z] at h; exact (hp xs).2.2 _ _ h) fun q z => by cases z⟩)
  · exact .inr h
theorem sqT_p {K : PySem.W.Frag} {H H' : Hp} {p a : Addr} {xs : List V} (hp : HM.noPen p H) (u : UpP p H H') (h : SqT K H a xs) : SqT K H' a xs := by
  rcases h with (h | ⟨o, h⟩) | h
  · exact .inl (.inl (u _ _ h (fun z => by rw [z] at h; exact (hp xs).2.1 h) fun q z => by cases z))
  · exact .inl (.inr ⟨o, u _ _ h (fun z => by rw [z] at h; exact (hp xs).2.2 _ _ h) fun q z => by cases z⟩)
  · exact .inr h
mutual
theorem dp_p {K : PySem.W.Frag} {H H' : Hp} {p : Addr} (hp : HM.noPen p H) (u : UpP p H H') : ∀ {v : V} {d : PyData}, Dp K H v d → Dp K H' v d
  | _, _, .non => .non
  | _, _, .bl b => .bl b
  | _, _, .int i => .int i
  | _, _, .str x => .str x
  | _, _, .lst h t => .lst (sqL_p hp u h) (dps_p hp u t)
  | _, _, .tup h t => .tup (sqT_p hp u h) (dps_p hp u t)
theorem dps_p {K : PySem.W.Frag} {H H' : Hp} {p : Addr} (hp : HM.noPen p H) (u : UpP p H H') : ∀ {vs : List V} {ds : List PyData}, DpAll K H vs ds → DpAll K H' vs ds
  | _, _, .nil => .nil
  | _, _, .cons h t => .cons (dp_p hp u h) (dps_p hp u t)
end
theorem TF.p {H H' : Hp} {p a : Addr} {xs : List V} (hp : HM.noPen p H) (u : UpP p H H') (h : TF H a xs) : TF H' a xs := let ⟨o, h1, h2⟩ := h; ⟨o, h1, u _ _ h2 (fun z => by rw [z] at h2; exact (hp xs).2.2 _ _ h2) fun q z => by cases z⟩
theorem lst_p {H H' : Hp} {p a : Addr} {xs : List V} (hp : HM.noPen p H) (u : UpP p H H') (h : H a = some (.lst xs)) : H' a = some (.lst xs) := u _ _ h (fun z => by rw [z] at h; exact (hp xs).1 h) fun q z => by cases z
end HM
namespace HM
open PySem PySem.Spec PyProof.Rows L2
/-! ### l[a:c] = l2, c perhaps beyond the end -/
theorem bounds_cut {a c n : Nat} (hac : a ≤ c) (ha : a ≤ n) : sliceBounds (some (a : Int)) (some (c : Int)) none n = ((a : Int), ((min c n : Nat) : Int), 1) := by
  simp only [sliceBounds, Option.getD_none]
  have n1 : ¬ ((a : Int) < 0) := by omega
  have n2 : ¬ ((c : Int) < 0) := by omega
  simp only [n1, n2, if_false, show (1 : Int) > 0 by decide, if_true]
  congr 1
  · omega
  · congr 1
    omega
section
variable {prog : Program} {w : World} {A : Around} {E : Value → Shared → Prop} {s : Shared}
theorem setItem_cut {l b sl : Addr} {items new : Array Value} {n n2 : Nat} {vl vu : Value} {a c : Nat} {Q : Unit → Shared → Prop} (e : s.heap.get? l = some { cls := .type "list", data := .seq items n }) (e2 : s.heap.get? b = some { cls := .type "list", data := .seq new n2 }) (hne : l ≠ b)
    (hs : s.heap.IsSliceOf sl vl vu .none) (pl : IsPart vl (some (a : Int))) (pu : IsPart vu (some (c : Int))) (hac : a ≤ c) (ha : a ≤ items.size) (hsz : items.size + new.size ≤ sizeLine)
    (h : Q () { s with heap := s.heap.update l (Obj.mapSeq fun xs => xs.extract 0 a ++ new ++ xs.extract (min c items.size) xs.size) }) : wpAny (model prog w) A (setItem (.ref l) (.ref sl) (.ref b)) Q E s := by
  have hl : s.heap.IsList l items := PySem.IsL.isList e
  have hb : s.heap.IsList b new := PySem.IsL.isList e2
  obtain ⟨os, hos, hcs, hds⟩ := _root_.id hs
  have tS : s.TypeIs (.ref sl) "slice" := ⟨os, hos, hcs⟩
  have noStep : ¬ ((rawPart none == rawInt 0) = true) := Bool.false_ne_true
  have apart : Builtin.List.listSameRef (.ref l) (.ref b) = false := by
    unfold Builtin.List.listSameRef
    exact beq_eq_false_iff_ne.mpr hne
  have hmx : (max (a : Int) ((min c items.size : Nat) : Int)).toNat = min c items.size := by omega
  have hz2 : ((fun xs : Array Value => xs.extract 0 a ++ new ++ xs.extract (min c items.size) xs.size) items).size ≤ sizeLine + 1 := by
    simp only [Array.size_append, Array.size_extract]
    omega
  unfold setItem
  try with_reducible refine wpAny_holding ?_
  first | refine wpAny_bind (wpAny_pure ?_) | skip
  refine wpAny_bind (wpAny_sequenceKey hl.typeIs (by decide) ?_)
  refine wpAny_bind (wpAny_callSpecial?_slot (name := Str.ofString "__setitem__") hl.typeIs slot_list_setitem (wpAny_call_entry slot_list_setitem hl.typeIs entry_list_setitem ?_ (args_list_setitem _ _ _)))
  show wpAny _ _ (Builtin.List.listSubscript? (.ref sl) >>= _) _ _ s
  refine wpAny_bind ?_
  unfold Builtin.List.listSubscript?
  refine wpAny_bind (wpAny_specialOf tS slice_no_index ?_)
  simp only [Option.isNone_none, if_true]
  refine wpAny_pure ?_
  show wpAny _ _ (typeOf (.ref sl) >>= _) _ _ s
  refine wpAny_bind (wpAny_typeOf tS ?_)
  first
    | rw [if_neg (by decide)]
    | refine PySem.W.KFB.if_not (by decide) ?_
  rw [listSliceParts_eq]
  refine wpAny_bind (wpAny_bind (wpAny_field hos hds (x := .none) rfl (wpAny_bind (wpAny_listPart .none ?_))))
  rw [if_neg noStep]
  refine wpAny_bind (wpAny_field hos hds (x := vl) rfl (wpAny_bind (wpAny_listPart pl ?_)))
  refine wpAny_bind (wpAny_field hos hds (x := vu) rfl (wpAny_bind (wpAny_listPart pu (wpAny_pure ?_))))
  first
    | simp only [apart, Bool.false_eq_true, if_false]
    | refine PySem.W.KFB.if_not apart ?_
    | (dsimp only
       rw [if_neg (by rw [apart]; exact Bool.false_ne_true)])
  refine wpAny_bind (m := Builtin.List.listAllItems (.ref b) "must assign iterable to extended slice") ?_
  unfold Builtin.List.listAllItems
  refine wpAny_bind (wpAny_typeOf hb.typeIs ?_)
  first
    | refine PySem.W.KFB.if_so (by decide) ?_
    | rw [if_pos (by decide)]
    | simp only [beq_self_eq_true, Bool.true_or, if_true]
  unfold Builtin.List.listItems
  refine wpAny_bind (wpAny_seqItems e2 rfl (wpAny_pure ?_))
  refine wpAny_bind (wpAny_bind (wpAny_seqItems e rfl (wpAny_pure ?_)))
  refine wpAny_bind (wpAny_of_eq ((sliceIndices_raw (some (a : Int)) (some (c : Int)) none items.size (by simp)).trans (congrArg (pure : Int × Int × Int → Sem (Int × Int × Int)) (bounds_cut hac ha))) ?_)
  show wpAny _ _ (if ((1 : Int) == 1) = true then _ else _) _ _ s
  rw [if_pos (by decide)]
  refine wpAny_bind (wpAny_rule ?_)
  first
    | simp only [notLongL hsz, Bool.false_eq_true, if_false]
    | refine PySem.W.KFB.if_not (notLongL hsz) ?_
  first | refine wpAny_bind (wpAny_pure ?_) | skip
  show wpAny _ _ (updateSeq l (fun xs => xs.extract 0 ((a : Int)).toNat ++ new ++ xs.extract (max (a : Int) ((min c items.size : Nat) : Int)).toNat xs.size) >>= _) _ _ s
  rw [hmx, Int.toNat_natCast]
  refine wpAny_bind (wpAny_updateSeq (hz := Nat.le_trans (Nat.le_add_right _ _) hsz) (_hz' := hz2) e rfl ?_)
  refine wpAny_bind (wpAny_letGo ?_)
  first
    | exact wpAny_bind (wpAny_pure (wpAny_pure ⟨.none, rfl, wpAny_pure h⟩))
    | exact wpAny_pure ⟨.none, rfl, wpAny_pure h⟩
end
section
variable {X : Cx}
theorem set_cut {pins : List (Addr × Obj)} {s : Shared} {σ : L2.St} {H : Hp} {l b sl : Addr} {xs ys : List V} {a c : Nat} {vl vu : Value} {Q : Unit → Shared → Prop} (I : Inv X pins σ H s) (hH : H l = some (.lst xs)) (hB : H b = some (.lst ys)) (hne : l ≠ b)
    (hs : s.heap.IsSliceOf sl vl vu .none) (pl : IsPart vl (some (a : Int))) (pu : IsPart vu (some (c : Int))) (hac : a ≤ c) (ha : a ≤ xs.length) (hz : xs.length + ys.length ≤ sizeLine) (h : ∀ s', Inv X pins σ (upd H l (.lst (xs.take a ++ ys ++ xs.drop c))) s' → Q () s') :
    wpAny (model X.prog X.w) X.A (setItem (.ref l) (.ref sl) (.ref b)) Q X.xe s := by
  obtain ⟨z, its, n, r, hl, e⟩ := I.lstM hH
  obtain ⟨z2, its2, n2, r2, hl2, e2⟩ := I.lstM hB
  refine setItem_cut (a := a) (c := c) e e2 hne hs pl pu hac (by rw [List.size_toArray]; omega) (by rw [List.size_toArray, List.size_toArray]; omega) (h _ ?_)
  refine I.lset (its' := its.take a ++ its2 ++ its.drop c) (t' := s.toks) hH e ?_ (Vals.append (Vals.append (r.take _) r2) (r.drop _)) ?_
  · refine (splice_eq its its2 a (min c its.toArray.size)).trans ?_
    congr 1
    congr 1
    rw [List.size_toArray]
    by_cases hc : c ≤ its.length
    · rw [Nat.min_eq_left hc]
    · rw [Nat.min_eq_right (by omega), List.drop_length, List.drop_of_length_le (by omega)]
  · rw [List.length_append, List.length_append, List.length_take, List.length_drop]
    omega
def gCut (to : TE) (tl th : TO) : TG := fun v σ H Q => to σ H fun x H1 => tl σ H1 fun lo H2 => th σ H2 fun hi H3 => ∃ (l b : Addr) (xs ys : List V) (a c : Nat), x = .ref l ∧ v = .ref b ∧ lo = some (a : Int) ∧ hi = some (c : Int) ∧ l ≠ b ∧ H3 l = some (.lst xs) ∧ H3 b = some (.lst ys) ∧ a ≤ c ∧ a ≤ xs.length ∧ xs.length + ys.length ≤ sizeLine ∧
  Q σ (upd H3 l (.lst (xs.take a ++ ys ++ xs.drop c)))
theorem pg_cut {o : Expr} {lo hi : Option Expr} {to : TE} {tl th : TO} {p2 pos : Pos} (ho : PE X o to) (hl : PO X lo tl) (hu : PO X hi th)
    (ha : ∀ v, assign (.Subscript o (.Slice lo hi none p2) pos) X.env v = (do
      let ov ← holding [v] (eval o X.env)
      let iv ← holding [v, ov] (eval (.Slice lo hi none p2) X.env)
      standAt pos
      holding [v, ov, iv] (setItem ov iv v)
      release [iv, v, ov] []) := by intro _; rfl) : PG X (.Subscript o (.Slice lo hi none p2) pos) (gCut to tl th) := by
  refine ⟨fun pins s σ H v u Q I r h => ?_⟩
  rw [ha]
  refine wpAny_bind (wpAny_holding (thn (ho.run pins s σ H _ I h) fun ov s1 hx => ?_))
  obtain ⟨x, H1, I1, r1, q1⟩ := hx
  refine wpAny_bind (wpAny_holding (wpAny_Slice (thn (hl.run pins s1 σ H1 _ I1 q1) fun vl s2 h2 => ?_)))
  obtain ⟨l0, H2, I2, pl, q2⟩ := h2
  refine thn (hu.run pins s2 σ H2 _ I2 q2) fun vu s3 h3 => ?_
  obtain ⟨u0, H3, I3, pu, q3⟩ := h3
  rw [evalPart_none]
  refine wpAny_pure ?_
  have I4 : Inv X pins σ H3 { s3 with heap := s3.heap.push { cls := .type "slice", data := .fields #[vl, vu, .none] } } := I3.kept (t' := s3.toks) fun b ob q => Heap.get?_push_of_some _ q
  obtain ⟨l, b, xs, ys, a, c, rfl, rfl, rfl, rfl, hne, hH, hB, hac, hal, hz, q⟩ := q3
  obtain rfl : ov = Value.ref l := r1
  obtain rfl : u = Value.ref b := r
  refine wpAny_bind (wpAny_standAt (wpAny_bind (wpAny_holding ?_)))
  exact set_cut I4 hH hB hne (Heap.IsSliceOf.new ..) pl pu hac hal hz fun s' J => wpAny_release ⟨σ, _, J, q⟩
end
end HM
namespace HM
open PySem PySem.Spec PyProof.Rows L2
/-- a def of the text as the top has left it -/
structure DefAt (K : PySem.W.Frag) (x : Str) (st : Stmt) (f : Addr) (oc : Value) (od : Option Addr) (kV doc pm : Value) (an : Option Addr) (cdv ct : Value) (sl : Array (Option Value)) : Prop where
  a : PySem.W.nsIn K mainGlobals x = some (some (.ref f))
  l : K.lookup f = some ⟨oc, od, .func (PySem.W.fnOf x x (defArgs st) (defBody st) (defScope st) .none kV doc pm an cdv ct), sl⟩
  c : PySem.W.codeIn K cdv x = true
  k : PySem.W.keepIn K (.ref f) = true
theorem DefAt.fn {K : PySem.W.Frag} {x : Str} {st : Stmt} {f : Addr} {oc : Value} {od : Option Addr} {kV doc pm : Value} {an : Option Addr} {cdv ct : Value} {sl : Array (Option Value)} (D : DefAt K x st f oc od kV doc pm an cdv ct sl) : Fun K x x st f (PySem.W.fnOf x x (defArgs st) (defBody st) (defScope st) .none kV doc pm an cdv ct) := fun_mk D.l D.c D.k
/-- what is asked of a class of refusals whose objects are kept and asked -/
structure ExAt (K : PySem.W.Frag) (C Mk : Addr) : Prop where
  te : PySem.W.exmOne K (.ref C) (.ref Mk) = some true
  kC : PySem.W.kitOne K (.ref C) (.ref C) = some true
  kV : PySem.W.kitOne K (.ref C) (.type "ValueError") = some true
  xg : PySem.W.findIn K (.ref C) "__getattribute__" = some (some (.builtin "BaseException.__getattribute__"))
  xk : PySem.W.findIn K (.ref C) "__getattr__" = some none
  xs : PySem.W.subIn K (.ref C) (.type "BaseException") = some true
  xd : PySem.W.hasDictIn K C = true
  xa : PySem.W.findIn K (.ref C) "__class__" = some (some (.builtin "object.__class__"))
  xn : PySem.W.specialIn K (.builtin "object.__class__") "__get__" = some (some (.builtin "getset_descriptor.__get__"))
  xt : PySem.W.takesIn K (.builtin "object.__class__") = some true
  xm : PySem.W.mroIn K C (.type "object") = some true
theorem ExAt.X {K : PySem.W.Frag} {C Mk : Addr} (R : ExAt K C Mk) : ExcC K C := ⟨R.xg, R.xk, R.xs, R.xd, R.xa, R.xn, R.xt, R.xm⟩
theorem ExAt.F {K : PySem.W.Frag} {C Mk : Addr} (R : ExAt K C Mk) : XfC K C := ⟨R.xg, R.xk, R.xs, R.xd⟩
/-- a refusal with one field and its __init__, by the written part -/
structure InitAt (K : PySem.W.Frag) (st : Stmt) (qual : Str) (C fI cda cc : Addr) (nm q : Str) (N : Addr) (bs bm : List Value) (sn : List Str) (sub : List Value) (ab : Bool) (col : Option Bool) (dd : Option Addr) (k0 k1 k2 k3 k5 : Option Value) (oc : Value) (od : Option Addr) (kV doc pm : Value) (an : Option Addr) (ct : Value) (osl : Array (Option Value)) (ccl : Value) (cdd : Option Addr) (vs : Array Value) (ccs : Array (Option Value)) (tf : Tok) (cl : Value) (cld : Option Addr) (csl : Array (Option Value)) : Prop where
  c : K.lookup C = some (excClassObj nm q C N bs bm true sn sub ab col dd k0 k1 k2 k3 k5 "ValueError.__new__")
  bm : HandSPX.refsVE bm = true
  sa : PySem.W.findIn K (.ref C) "__setattr__" = some (some (.builtin "object.__setattr__"))
  veC : PySem.W.subIn K (.ref C) (.type "ValueError") = some true
  tyC : PySem.W.typeIn K (.ref C) = some (.type "type")
  kC : PySem.W.keepIn K (.ref C) = true
  iC : PySem.W.findIn K (.ref C) "__init__" = some (some (.ref fI))
  tI : PySem.W.typeIn K (.ref fI) = some (.type "function")
  lI : K.lookup fI = some ⟨oc, od, .func (PySem.W.ksFn "__init__" qual (defArgs st) (defBody st) (defScope st) .none kV doc pm an (.ref cda) ct cc), osl⟩
  hcd : PySem.W.codeIn K (.ref cda) qual = true
  hco : K.lookup cda = some ⟨ccl, cdd, .fields vs, ccs⟩
  hvs : vs[2]? = some (.str "/claim/cut.py" tf)
  hcc : K.lookup cc = some ⟨cl, cld, .cell (some (.ref C)), csl⟩
  su : PySem.W.nsIn K mainGlobals "super" = some none
  tp : PySem.W.nsIn K cStatics "thirdparty.any" = some none
  si : PySem.W.ks_superIn K C C "__init__" = some (some (.builtin "ValueError.__init__"))
  mr : PySem.W.mroIn K C (.ref C) = some true
  no : PySem.W.findIn K (.ref C) "at" = some none
theorem InitAt.noT {P : Program} {K : PySem.W.Frag} {st : Stmt} {qual : Str} {C Mk fI cda cc : Addr} {nm q : Str} {N : Addr} {bs bm : List Value} {sn : List Str} {sub : List Value} {ab : Bool} {col : Option Bool} {dd : Option Addr} {k0 k1 k2 k3 k5 : Option Value} {oc : Value} {od : Option Addr} {kV doc pm : Value} {an : Option Addr} {ct : Value} {osl : Array (Option Value)} {ccl : Value} {cdd : Option Addr} {vs : Array Value} {ccs : Array (Option Value)} {tf : Tok} {cl : Value} {cld : Option Addr} {csl : Array (Option Value)}
    (I : InitAt K st qual C fI cda cc nm q N bs bm sn sub ab col dd k0 k1 k2 k3 k5 oc od kV doc pm an ct osl ccl cdd vs ccs tf cl cld csl) (R : ExAt K C Mk) (hf : ((P.main.file : Str) == "/claim/cut.py") = true) (hsn : (P.main.scope.names.lookup ("super" : Str)).isSome = false) : NoT P st qual K C fI where
  T := ⟨⟨_, _, _, _, _, _, _, _, _, _, _, _, _, _, _, I.c, I.bm⟩, I.sa, R.xs, I.tyC, I.kC⟩
  iC := I.iC
  tI := I.tI
  fn := ⟨_, _, _, _, _, _, _, _, _, _, _, _, _, _, _, _, _, _, _, I.lI, I.hcd, I.hco, I.hvs, hf, I.hcc⟩
  veC := I.veC
  su := I.su
  tp := I.tp
  si := I.si
  mr := I.mr
  no := I.no
  tn := hsn
/-- the table of a def's generator expressions, by the written part -/
structure TbAt (K : PySem.W.Frag) (c Pt : Addr) (e : Value) (dd : Option Addr) (vs : Array Value) (sl : Array (Option Value)) : Prop where
  l : K.lookup c = some ⟨e, dd, .fields vs, sl⟩
  p : vs[11]? = some (.ref Pt)
  n : K.lookup Pt = none
theorem tab_got {K : PySem.W.Frag} {h : Heap} {mg : Str → Option Value} {gs : List Str} {x : Str} {st : Stmt} {f c Pt : Addr} {oc : Value} {od : Option Addr} {kV doc pm : Value} {an : Option Addr} {ct : Value} {sl : Array (Option Value)} {e : Value} {dd : Option Addr} {vs : Array Value} {sl2 : Array (Option Value)}
    (X : K.In h) (G : h.Ns mainGlobals mg) (tabs : ∀ g ∈ gs, ∃ c Pt, TabOf mg h g c Pt) (hx : x ∈ gs) (D : DefAt K x st f oc od kV doc pm an (.ref c) ct sl) (T : TbAt K c Pt e dd vs sl2) : h.get? Pt = some tabObj ∧ PySem.W.CodeHd h c Pt := by
  obtain ⟨c0, P2, f0, o, fd, h1, h2, h3, h4, h5, h6⟩ := tabs x hx
  have e1 := h1.symm.trans (PySem.W.mg_of X G D.a)
  cases e1
  rw [X _ _ D.l] at h2
  cases h2
  cases h3
  have e2 : Value.ref c = .ref c0 := h4
  cases e2
  have e3 : Pt = P2 := by
    obtain ⟨o2, us, _, _, _, _, _, _, _, g1, _, g2, g3, _⟩ := h5
    rw [X _ _ T.l] at g1
    cases g1
    cases g2
    rw [T.p] at g3
    cases g3
    rfl
  subst e3
  exact ⟨h6, h5⟩
end HM
namespace HM
open PySem PySem.Spec PyProof.Rows L2
/-- all that was tracked is as it was, but for the one table at P -/
def UpK (P : Addr) (H H' : Hp) : Prop := ∀ b o, H b = some o → b ≠ P → H' b = some o
theorem UpK.refl (P : Addr) (H : Hp) : UpK P H H := fun _ _ e _ => e
theorem UpK.of_same {P : Addr} {H H' : Hp} (s : Same H H') : UpK P H H' := fun b o e _ => s b o e
theorem UpK.trans {P : Addr} {H H1 H2 : Hp} (a : UpK P H H1) (b : UpK P H1 H2) : UpK P H H2 := fun c o e n => b c o (a c o e n) n
theorem UpK.lay {P : Addr} {H J : Hp} {q : Addr} {o : HO} (u : UpK P H J) (n : J q = none) : UpK P H (upd J q o) := u.trans (.of_same (same_lay n))
theorem UpK.set {P : Addr} {H J : Hp} {q : Addr} {o : HO} (u : UpK P H J) (n : H q = none) : UpK P H (upd J q o) := fun b p e z => by rw [upd_ne (ne_of_none e n)]; exact u b p e z
theorem UpK.of_tab {P : Addr} {H H' : Hp} (t : GxR.TabG H P) (h : GxR.Tabbed P H H') : UpK P H H' := fun b o e n => by rw [h.2 b n]; exact e
theorem UpK.n {P : Addr} {H H' : Hp} (u : UpK P H H') (t : GxR.TabG H P) : UpN H H' := fun b o e z => u b o e fun q => by
  obtain ⟨ps, e2, _⟩ := t
  rw [q, e2] at e
  exact z ps (Option.some.inj e).symm
/-- another table -/
theorem UpK.tab {P Q : Addr} {H H' : Hp} (u : UpK P H H') (tP : GxR.TabG H' P) (tQ : GxR.TabG H Q) : GxR.TabG H' Q := by
  by_cases e : Q = P
  · rw [e]
    exact tP
  · obtain ⟨ps, e2, r⟩ := tQ
    exact ⟨ps, u _ _ e2 e, r⟩
end HM
namespace HM
open PySem PySem.Spec PyProof.Rows L2
/-! ### sets of tuples of ints: asked, added to, written out -/
section
variable {P : Program} {w : World} {A : Around} {E : Value → Shared → Prop} {s : Shared} {a : Addr} {L : List (Addr × List Int)} {es : Array (Int × Value)} {ep : Nat} {t : SetTable}
abbrev wk (m : Nat) (h : Int) (c : Nat) : SetTable.Probe := nth m (runAt m (SetTable.bits h % (m + 1)) (SetTable.bits h)) c
theorem wk_dummy (m : Nat) (h : Int) (c : Nat) : (wk m h c).dummy = none := by
  have go : ∀ (n : Nat) (p : SetTable.Probe), p.dummy = none → (nth m p n).dummy = none := fun n => by
    induction n with
    | zero => exact fun _ z => z
    | succ n ih =>
      refine fun p z => ih _ ?_
      unfold adv
      split <;> exact z
  exact go c _ rfl
theorem wk_add (m : Nat) (h : Int) (c q : Nat) : nth m (wk m h c) q = wk m h (c + q) := (nth_add m c _ q).symm
/-- the search as 'in' asks for it -/
theorem look_from (R : SetTR P w s.heap a L es ep t) {x : Addr} {k : List Int} (hx : IsT P w s.heap k x) (hu : A.units < cLine) {K : Nat} (kf : K < 10 * SetTable.turns t.mask) (k1 : way t.mask (thash P w k) K ∉ t.place.toList)
    (k2 : ∀ c, c < K → way t.mask (thash P w k) c ∈ t.place.toList) {Q : SetFound → Shared → Prop} (yes : k ∈ L.map (·.2) → ∀ i, Q (.there (some i)) s) (no : k ∉ L.map (·.2) → ∀ j, Q (.free j false) s) :
    ∀ (f c : Nat) (st : Option SetTable.Probe), st.getD (t.probeStart (thash P w k)) = wk t.mask (thash P w k) c → c ≤ K → K - c < f →
      (∀ (i : Nat) p, L[i]? = some p → p.2 = k → ∃ c', c ≤ c' ∧ c' < K ∧ t.place.toList[i]? = some (way t.mask (thash P w k) c')) → wpAny (model P w) A (setSearchFrom a (.ref x) (thash P w k) false f st) Q E s := by
  obtain ⟨H, eH⟩ : ∃ H, H = thash P w k := ⟨_, rfl⟩
  rw [← eH] at k1 k2 ⊢
  obtain ⟨o, g1, g2, g3⟩ := R.ob
  intro f
  induction f with
  | zero => exact fun c st _ _ z => absurd z (Nat.not_lt_zero _)
  | succ f ih =>
    intro c st e0 hc hf left
    rw [setSearchFrom_succ]
    refine wpAny_bind (wpAny_setState_of g1 g3 R.fits ?_)
    dsimp only
    refine wp_if_neg R.gw ?_
    try refine wpAny_bind (wpAny_pure ?_)
    have jj : ∀ q, (nth t.mask (wk t.mask H c) q).j = way t.mask H (c + q) := fun q => congrArg SetTable.Probe.j (wk_add _ _ c q)
    have eK : c + (K - c) = K := by omega
    have sp := go_spec t R.tab.ris R.tab.dm (fun i => (es[i]?.map (·.1)).getD 0) H (10 * SetTable.turns t.mask) (K - c) (wk t.mask H c) (wk_dummy _ _ c) (by omega) (fun q hq => by rw [jj]; exact k2 _ (by omega)) (by rw [jj, eK]; exact k1)
    have hs : ∀ (i : Nat) p, L[i]? = some p → (es[i]?.map (·.1)).getD 0 = thash P w p.2 := fun i p z => by
      rw [R.entry z]
      all_goals rfl
    have miss : ∀ (q : Nat), (∀ (k' i' : Nat), k' < q → t.place.toList[i']? = some (nth t.mask (wk t.mask H c) k').j → (es[i']?.map (·.1)).getD 0 ≠ H) → ∀ (i : Nat) (p : Addr × List Int) (c' : Nat), L[i]? = some p → p.2 = k → c ≤ c' → t.place.toList[i]? = some (way t.mask H c') → c + q ≤ c' := fun q hn i p c' z1 z2 z3 z4 => by
      refine Nat.le_of_not_lt fun z5 => ?_
      refine hn (c' - c) i (by omega) ?_ ?_
      · rw [jj, z4]
        congr 2
        omega
      · rw [hs i p z1, z2, eH]
    rcases sp with ⟨q, i, hq, hi, hh, hn, pr⟩ | ⟨hn, pr⟩
    · have pr2 : t.probe (fun i => (es[i]?.map (·.1)).getD 0) H (st.getD (t.probeStart H)) = some (.candidate (way t.mask H (c + q)) i (wk t.mask H (c + (q + 1)))) := by
        rw [e0, ← jj, ← wk_add]
        exact pr
      rw [pr2]
      dsimp only
      rw [jj] at hi
      have hil : i < L.length := by
        have z1 := (List.getElem?_eq_some_iff.mp hi).1
        have z2 := R.tab.sz
        rw [List.length_map] at z2
        rw [Array.length_toList, z2] at z1
        exact z1
      obtain ⟨p, hp⟩ : ∃ p, L[i]? = some p := ⟨_, List.getElem?_eq_getElem hil⟩
      have hm := List.mem_of_getElem? hp
      have sl : t.slot (way t.mask H (c + q)) = .live i := slot_live R.tab.ris hi
      have tail : wpAny (model P w) A (searchRest a (.ref x) H false f es t (way t.mask H (c + q)) i (wk t.mask H (c + (q + 1)))) Q E s := by
        unfold searchRest
        rw [R.entry hp]
        dsimp only
        refine wpAny_bind (wpAny_holding (wpAny_eqBool_tuple hu (R.tup p hm) hx ?_))
        refine wpAny_bind (wpAny_setState_of g1 g3 R.fits ?_)
        dsimp only
        refine wp_if_neg (by simp) ?_
        try refine wpAny_bind (wpAny_pure ?_)
        rw [sameMem]
        dsimp only
        simp only [if_true, sl, R.entry hp]
        refine wpAny_bind (wpAny_isSame_ref_self (wpAny_bind (wpAny_pure ?_)))
        simp only [if_true]
        by_cases hk : p.2 = k
        · refine wp_if_pos (by simp [hk]) ?_
          exact wpAny_pure (yes (List.mem_map.mpr ⟨p, hm, hk⟩) i)
        · refine wp_if_neg (by simp [hk]) ?_
          refine ih (c + (q + 1)) _ rfl (by omega) (by omega) fun i0 p0 z1 z2 => ?_
          obtain ⟨c', y1, y2, y3⟩ := left i0 p0 z1 z2
          refine ⟨c', ?_, y2, y3⟩
          have y4 := miss q hn i0 p0 c' z1 z2 y1 y3
          rcases Nat.lt_or_ge (c + q) c' with y5 | y5
          · omega
          · have y6 : c' = c + q := by omega
            rw [y6] at y3
            have y7 := slot_live R.tab.ris y3
            rw [sl] at y7
            injection y7 with y7
            rw [← y7, hp] at z1
            cases z1
            exact absurd z2 hk
      by_cases hl : t.led = true
      · refine wp_if_neg (by simp [hl]) ?_
        try refine wpAny_bind (wpAny_pure ?_)
        exact tail
      · refine wp_if_pos (by simp [hl]) ?_
        refine wpAny_bind (seen_tup hx (fun y hy => ?_) ?_)
        · obtain ⟨u, hu1, hu2⟩ := List.mem_map.mp hy
          have hu3 : u ∈ es ∧ u.1 = H := by simpa using hu1
          have hu4 : u ∈ es.toList := by simpa using hu3.1
          rw [R.rows] at hu4
          obtain ⟨v, hv1, hv2⟩ := List.mem_map.mp hu4
          exact ⟨v.2, v.1, by rw [← hu2, ← hv2], R.tup v hv1⟩
        · refine wp_if_neg (by decide) ?_
          try refine wpAny_bind (wpAny_pure ?_)
          exact tail
    · have pr2 : t.probe (fun i => (es[i]?.map (·.1)).getD 0) H (st.getD (t.probeStart H)) = some (.empty (way t.mask H K) none) := by
        have z : way t.mask H K = (nth t.mask (wk t.mask H c) (K - c)).j := by rw [jj, eK]
        rw [e0, z]
        exact pr
      rw [pr2]
      dsimp only
      refine wpAny_pure (no (fun z => ?_) _)
      obtain ⟨p, hp, hk⟩ := List.mem_map.mp z
      obtain ⟨i, hi, e1⟩ := List.getElem_of_mem hp
      have e2 : L[i]? = some p := by rw [List.getElem?_eq_getElem hi, e1]
      obtain ⟨c', y1, y2, y3⟩ := left i p e2 hk
      have := miss (K - c) hn i p c' e2 hk y1 y3
      omega
theorem look_at (R : SetTR P w s.heap a L es ep t) {x : Addr} {k : List Int} (hx : IsT P w s.heap k x) (hu : A.units < cLine) {Q : SetFound → Shared → Prop} (yes : k ∈ L.map (·.2) → ∀ i, Q (.there (some i)) s) (no : k ∉ L.map (·.2) → ∀ j, Q (.free j false) s) :
    wpAny (model P w) A (setSearch a (.ref x) (thash P w k)) Q E s := by
  have hr := R.room
  obtain ⟨K, z1, z2, z3⟩ := R.tab.first (by rw [List.length_map]; omega) (thash P w k)
  have hb : K < 100000 := by
    have : 10 * SetTable.turns t.mask ≤ 1420 := by
      unfold SetTable.turns
      rcases R.tab.mok with e | e | e <;> omega
    omega
  unfold setSearch
  refine look_from R hx hu z1 z2 z3 yes no 100000 0 none rfl (Nat.zero_le _) (by omega) fun i p y1 y2 => ?_
  have y3 : (L.map fun p => thash P w p.2)[i]? = some (thash P w k) := by
    rw [List.getElem?_map, y1, ← y2]
    all_goals rfl
  have y4 : i < t.place.toList.length := by
    have y5 := (List.getElem?_eq_some_iff.mp y1).1
    have y6 := R.tab.sz
    rw [List.length_map] at y6
    rw [Array.length_toList, y6]
    exact y5
  have y7 := List.getElem?_eq_getElem y4
  obtain ⟨c, y8, y9⟩ := R.tab.before z2 y3 y7
  exact ⟨c, Nat.zero_le _, y8, by rw [y7, y9]⟩
theorem has_at (R : SetTR P w s.heap a L es ep t) {x : Addr} {k : List Int} (hx : IsT P w s.heap k x) (hu : A.units < cLine) {Q : Bool → Shared → Prop} (h : ∀ tk, Q (decide (k ∈ L.map (·.2))) { s with toks := tk }) : wpAny (model P w) A (setContains a (.ref x)) Q E s := by
  unfold setContains
  refine wpAny_holding ?_
  refine wpAny_bind (wpAny_pyHash_tuple hu hx ?_)
  obtain ⟨s', es'⟩ : ∃ s', s' = { s with toks := s.toks + (k.length + 1) } := ⟨_, rfl⟩
  have R' : SetTR P w s'.heap a L es ep t := by rw [es']; exact R
  have hx' : IsT P w s'.heap k x := by rw [es']; exact hx
  have h' : Q (decide (k ∈ L.map (·.2))) s' := by rw [es']; exact h _
  rw [← es']
  obtain ⟨o, g1, g2, g3⟩ := R'.ob
  unfold setFind
  rw [show (100000 : Nat) = 99999 + 1 from rfl]
  unfold setFindIn
  refine wpAny_bind (wpAny_bind (wpAny_setState_of g1 g3 R'.fits ?_))
  dsimp only
  refine wp_if_neg (by simp [byScan, Value.scannable]) ?_
  try refine wpAny_bind (wpAny_pure ?_)
  refine wpAny_bind (look_at R' hx' hu (fun z i => ?_) fun z j => ?_)
  · dsimp only
    rw [decide_eq_true z] at h'
    exact wpAny_pure (wpAny_pure h')
  · dsimp only
    rw [decide_eq_false z] at h'
    exact wpAny_pure (wpAny_pure h')
theorem setTR_type (R : SetTR P w s.heap a L es ep t) : s.TypeIs (.ref a) "set" := let ⟨o, g1, g2, _⟩ := R.ob; ⟨o, g1, g2.1⟩
theorem notin_at (R : SetTR P w s.heap a L es ep t) {x : Addr} {k : List Int} (hx : IsT P w s.heap k x) (hu : A.units + 8 < cLine) {Q : Value → Shared → Prop} (h : ∀ tk, Q (.bool (!decide (k ∈ L.map (·.2)))) { s with toks := tk }) : wpAny (model P w) A (compareOp .NotIn (.ref x) (.ref a)) Q E s := by
  have hT := setTR_type R
  show wpAny _ _ (do return .bool (!(← contains (.ref a) (.ref x)))) Q E s
  refine wpAny_bind ?_
  unfold contains
  try with_reducible refine wpAny_holding ?_
  refine wpAny_bind (wpAny_specialOf hT F.slot_set_contains.lookup ?_)
  rw [if_neg (by rw [beq_builtin_none]; exact Bool.false_ne_true)]
  refine wpAny_bind (wpAny_callSpecialUnlessNone?_slot (name := Str.ofString "__contains__") hT F.slot_set_contains (wpAny_call_entry F.slot_set_contains hT entry_set_contains ?_ (F.args_set_contains_2 _ _)))
  unfold Builtin.«frozenset.__contains__» Builtin.Frozenset.oneOther
  simp only [List.isEmpty_nil, bind_assoc]
  unfold Builtin.Frozenset.addrOf Builtin.Frozenset.withSetAsKey
  refine wpAny_bind (wpAny_pure ?_)
  try dsimp only
  refine wpAny_bind (wpAny_pure ?_)
  try dsimp only
  refine wpAny_bind (wpAny_tryCatch ?_)
  refine has_at (A := A.in1) R hx (by show A.units + 1 < cLine; omega) fun tk => ?_
  refine wpAny_pure ⟨_, rfl, wpAny_truthy_bool (wpAny_pure (h tk))⟩
theorem addT_at (R : SetTR P w s.heap a L es ep t) {x : Addr} {k : List Int} (hx : IsT P w s.heap k x) (hu : A.units + 8 < cLine) (few : L.length + 1 < 64) {Q : Bool → Shared → Prop}
    (h : ∀ b h' L' tk, Heap.SameBut a s.heap h' → SetT0 P w h' a L' → (k ∈ L.map (·.2) → L' = L) → (k ∉ L.map (·.2) → L'.Perm ((x, k) :: L)) → Q b { s with heap := h', toks := tk }) : wpAny (model P w) A (setAdd a (.ref x)) Q E s := by
  unfold setAdd
  refine wpAny_holding ?_
  refine wpAny_bind (wpAny_pyHash_tuple (by omega) hx ?_)
  exact add_at (s := { s with toks := s.toks + (k.length + 1) }) R hx (by omega) few fun b h' L' es' ep' t' z1 z2 z3 z4 => h b h' L' _ z1 z2.t0 z3 z4
theorem callT_add (R : SetTR P w s.heap a L es ep t) {x : Addr} {k : List Int} (hx : IsT P w s.heap k x) (hu : A.units + 16 < cLine) (few : L.length + 1 < 64) {Q : Value → Shared → Prop}
    (h : ∀ h' L' tk, Heap.SameBut a s.heap h' → SetT0 P w h' a L' → (k ∈ L.map (·.2) → L' = L) → (k ∉ L.map (·.2) → L'.Perm ((x, k) :: L)) → Q .none { s with heap := h', toks := tk }) : wpAny (model P w) A (call (.builtin "set.add") [.ref a, .ref x]) Q E s := by
  have hT := setTR_type R
  refine wpAny_call_entry F.slot_set_add hT F.entry_set_add ?_ (F.args_set_add_2 _ _)
  unfold Builtin.«set.add» Builtin.Frozenset.oneOther
  simp only [List.isEmpty_nil, bind_assoc]
  unfold Builtin.Frozenset.addrOf
  refine wpAny_bind (wpAny_pure ?_)
  try dsimp only
  refine wpAny_bind (wpAny_pure ?_)
  try dsimp only
  refine wpAny_bind (addT_at (A := A.in1) R hx (by show A.units + 1 + 8 < cLine; omega) few fun b h' L' tk z1 z2 z3 z4 => ?_)
  exact wpAny_pure ⟨_, rfl, h h' L' tk z1 z2 z3 z4⟩
end
section
variable {X : Cx} {pins : List (Addr × Obj)} {σ : L2.St} {H : Hp} {s : Shared}
/-- the tuples of L stand -/
def Tups (K : PySem.W.Frag) (H : Hp) (L : List (Addr × List Int)) : Prop := ∀ p ∈ L, SqT K H p.1 (p.2.map V.int)
theorem setT_get {a : Addr} {L : List (Addr × List Int)} (I : Inv X pins σ H s) (e : H a = some (SetTO X.prog X.w a L)) (ht : Tups X.K H L) : ∃ es ep t, SetTR X.prog X.w s.heap a L es ep t := by
  have R0 : SetT0 X.prog X.w s.heap a L := (I.hok a _ e).1
  exact R0.full fun p hp => I.isT (ht p hp)
/-- x not in seen -/
def rNotInT (K : PySem.W.Frag) (P : Program) (w : World) : R2 := fun x y H Q => ∃ (xa a : Addr) (k : List Int) (L : List (Addr × List Int)), x = .ref xa ∧ y = .ref a ∧ SqT K H xa (k.map V.int) ∧ H a = some (SetTO P w a L) ∧ Tups K H L ∧ Q (.bl (!decide (k ∈ L.map (·.2)))) H
theorem or_notinT (hu : X.A.units + 64 < cLine) : OpR X (compareOp .NotIn) (rNotInT X.K X.prog X.w) := by
  intro pins s σ H x y v u Q I rx ry h
  obtain ⟨xa, a, k, L, rfl, rfl, hx, ha, ht, q⟩ := h
  cases rx
  cases ry
  obtain ⟨es, ep, t, R⟩ := setT_get I ha ht
  exact notin_at R (I.isT hx) (by omega) fun tk => ⟨.bl _, H, I.tok tk, rfl, q⟩
/-- seen.add(x) -/
def tAddT (K : PySem.W.Frag) (P : Program) (w : World) (to : TE) (t : TA) : TE := fun σ H Q => to σ H fun x H1 => (∃ a L, x = V.ref a ∧ H1 a = some (SetTO P w a L) ∧ Tups K H1 L) ∧ t σ H1 fun xs H2 => ∃ (xa a : Addr) (k : List Int) (L : List (Addr × List Int)), x = .ref a ∧ xs = [.ref xa] ∧ SqT K H2 xa (k.map V.int) ∧ H2 a = some (SetTO P w a L) ∧ Tups K H2 L ∧ L.length + 1 < 64 ∧
  ∀ L', (k ∈ L.map (·.2) → L' = L) → (k ∉ L.map (·.2) → L'.Perm ((xa, k) :: L)) → Q .non (upd H2 a (SetTO P w a L'))
theorem pe_addT {o e : Expr} {es : List Expr} {to : TE} {t : TA} {apos cpos : Pos} (hu : X.A.units + 64 < cLine) (ho : PE X o to) (ha : PA X (e :: es) t)
    (hbase : attributeBase o "add" X.env (eval o X.env) = eval o X.env := by rfl)
    (hfew : ((backTo cpos (starEach (e :: es) X.env)).all (fun x => !x.1) && (backToKw cpos (keywordEach [] X.env)).all (fun x => x.1.isSome) && decide ((e :: es).length + ([] : List Keyword).length + (if ([] : List Keyword).isEmpty then 0 else 1) < 30)) = true := by rfl)
    (hline : (apos.endLine == cpos.line) = true := by rfl) (hs : starEach (e :: es) X.env = (false, eval e X.env) :: starEach es X.env := by rfl) (hplain : (backTo cpos (starEach es X.env)).any (·.1) = false := by rfl) :
    PE X (.Call (.Attribute o "add" apos) (e :: es) [] cpos) (tAddT X.K X.prog X.w to t) := by
  refine ⟨fun pins s σ H Q I h => ?_⟩
  refine wpAny_Call_method_late hbase hfew hline rfl (thn (ho.run pins s σ H _ I h) fun v s1 hv => ?_)
  obtain ⟨x, H1, I1, r1, ⟨a, L, rfl, ea, ht⟩, q1⟩ := hv
  cases r1
  obtain ⟨es1, ep1, t1, R1⟩ := setT_get I1 ea ht
  obtain ⟨o1, z1, z2, z3⟩ := R1.ob
  refine ⟨"set", "set.add", F.plainAttrs_set, F.slot_set_add, F.type_set_add, ⟨o1, z1, z2.1⟩, fun b z => ?_, ?_⟩
  · cases z
    exact ⟨o1, z1, z2.2.1⟩
  have hA := ha.run cpos pins s1 σ H1 _ I1 q1
  rw [hs] at hA ⊢
  refine Calls.callWith_builtin (by show (false || (backTo cpos (starEach es X.env)).any (·.1)) = false; rw [hplain] <;> rfl) (Calls.evalArgs_plain (thn hA fun us s2 hu2 => ?_))
  obtain ⟨vs, H2, I2, r2, xa, a2, k, L2, e1, rfl, hx, ea2, ht2, few, q⟩ := hu2
  cases e1
  cases r2 with
  | cons ry rt =>
    cases rt
    cases ry
    obtain ⟨es2, ep2, t2, R2⟩ := setT_get I2 ea2 ht2
    refine callT_add R2 (I2.isT hx) (by omega) few fun h' L' tk sb new z3 z4 => ?_
    have he : ∃ u, h'.get? a = some u := by
      obtain ⟨_, _, _, ⟨o9, y9, _⟩, _⟩ := new.ex
      exact ⟨o9, y9⟩
    exact ⟨.non, upd H2 a (SetTO X.prog X.w a L'), I2.write (e := a) (t' := tk) (by rw [ea2]; trivial) (.inl rfl) (fun b u hb hu => (sb.2 b hb).trans hu) he (setTO_new new), rfl, q L' z3 z4⟩
/-- {x}, x a tuple -/
def tSet1 (K : PySem.W.Frag) (P : Program) (w : World) (te : TE) : TE := fun σ H Q => te σ H fun x H1 => ∃ (xa : Addr) (k : List Int), x = .ref xa ∧ SqT K H1 xa (k.map V.int) ∧ ∀ a, H1 a = none → Q (.ref a) (upd H1 a (SetTO P w a [(xa, k)]))
end
end HM
namespace HM
open PySem PySem.Spec PyProof.Rows L2
section
variable {X : Cx}
/-- {e}, e a tuple of ints -/
def tSetOne (K : PySem.W.Frag) (P : Program) (w : World) (te : TE) : TE := fun σ H Q => ∀ a, H a = none → te σ (upd H a (SetTO P w a [])) fun x H1 => ∃ (xa : Addr) (k : List Int), x = .ref xa ∧ SqT K H1 xa (k.map V.int) ∧ H1 a = some (SetTO P w a []) ∧ Q (.ref a) (upd H1 a (SetTO P w a [(xa, k)]))
theorem pe_setOne {e : Expr} {te : TE} {pos : Pos} (hu : X.A.units + 64 < cLine) (hcd : PySem.W.kdsCode X.K X.env.code = true) (he : PE X e te) (hs : starEach [e] X.env = [(false, eval e X.env)] := by rfl) : PE X (.Set [e] 0 pos) (tSetOne X.K X.prog X.w te) := by
  refine ⟨fun pins s σ H Q I h => ?_⟩
  rw [arm_eval_Set]
  refine wpAny_bind (wpAny_standAt ?_)
  refine wpAny_bind (PySem.W.kds_main I.kIn hcd fun b => ?_)
  rw [hs]
  unfold setDisplay
  try dsimp only
  refine PySem.W.KFB.if_not (by rfl) ?_
  refine wpAny_bind (PySem.wpAny_newSet_raw fun led el => ?_)
  subst el
  have new := setTR_fresh (P := X.prog) (w := X.w) (h := s.heap.push { cls := .type "set", dict := none, data := .set #[] 0 (.fresh 0 0 (!X.w.params.followText "set-order")) }) (a := s.heap.objs.size) (Heap.get?_push_size _ rfl)
  have hn : H s.heap.objs.size = none := I.hok.fresh (Nat.le_refl _)
  have I1 := I.laid (t' := s.toks) (fun b u e => Heap.get?_push_of_some _ e) (Nat.le_refl _) (setTO_new (H := upd H s.heap.objs.size (SetTO X.prog X.w s.heap.objs.size [])) new.t0)
  dsimp only
  refine wpAny_bind (wpAny_holding ?_)
  show wpAny _ _ (evalAll [do let v ← eval e X.env; standAt pos; pure v] >>= _) _ _ _
  refine wpAny_bind ?_
  unfold evalAll
  refine wpAny_bind (wpAny_bind (thn (he.run pins _ σ _ _ I1 (h _ hn)) fun v s2 hv => wpAny_bind (wpAny_standAt (wpAny_pure ?_))))
  refine wpAny_bind (wpAny_holding ?_)
  unfold evalAll
  refine wpAny_pure (wpAny_pure ?_)
  obtain ⟨x, H2, I2, r2, xa, k, rfl, hx, ea, q⟩ := hv
  cases r2
  refine wpAny_bind (wpAny_holding ?_)
  simp only [List.forIn_cons, List.forIn_nil]
  obtain ⟨es, ep, t, R⟩ := setT_get I2 ea fun p hp => by cases hp
  refine wpAny_bind (wpAny_bind (wpAny_bind (addT_at R (I2.isT hx) (by omega) (by show 0 + 1 < 64; decide) fun b h' L' tk sb new2 z3 z4 => wpAny_pure ?_)))
  dsimp only
  refine wpAny_pure ?_
  refine PySem.W.KFB.if_not (by rfl) ?_
  refine wpAny_pure ?_
  have hL : L' = [(xa, k)] := List.perm_singleton.mp (z4 (by simp))
  subst hL
  show wpAny _ _ (do forIn ([] : List (Bool × Sem Value)) PUnit.unit _; pure ()) _ _ _
  rw [List.forIn_nil]
  refine wpAny_bind (wpAny_pure (wpAny_pure (wpAny_pure ?_)))
  have he2 : ∃ u, h'.get? s.heap.objs.size = some u := by
    obtain ⟨_, _, _, ⟨o9, y9, _⟩, _⟩ := new2.ex
    exact ⟨o9, y9⟩
  exact ⟨.ref s.heap.objs.size, _, I2.write (e := s.heap.objs.size) (t' := tk) (by rw [ea]; trivial) (.inl rfl) (fun b u hb hu => (sb.2 b hb).trans hu) he2 (setTO_new new2), rfl, q⟩
end
end HM
namespace VL
open PySem PySem.Spec PyProof.Rows L2 HM
/-! ### data, as trees -/
inductive Dt where
  | non | bl (b : Bool) | int (i : Int) | str (x : Str) | ty (n : String) | obj (a : Addr)
  | lst (ds : List Dt) | tup (ds : List Dt)
mutual
inductive Rp (F : Hp) : V → Dt → Prop
  | non : Rp F .non .non
  | bl (b : Bool) : Rp F (.bl b) (.bl b)
  | int (i : Int) : Rp F (.int i) (.int i)
  | str (x : Str) : Rp F (.str x) (.str x)
  | ty (n : String) : Rp F (.ty n) (.ty n)
  | obj (a : Addr) : Rp F (.ref a) (.obj a)
  | lst {a : Addr} {xs : List V} {ds : List Dt} : F a = some (.lst xs) → Rps F xs ds → Rp F (.ref a) (.lst ds)
  | tup {a : Addr} {xs : List V} {ds : List Dt} : F a = some (.tup xs) → Rps F xs ds → Rp F (.ref a) (.tup ds)
inductive Rps (F : Hp) : List V → List Dt → Prop
  | nil : Rps F [] []
  | cons {v : V} {vs : List V} {d : Dt} {ds : List Dt} : Rp F v d → Rps F vs ds → Rps F (v :: vs) (d :: ds)
end
/-- all of F is in F' -/
def Up (F F' : Hp) : Prop := ∀ a o, F a = some o → F' a = some o
theorem Up.refl (F : Hp) : Up F F := fun _ _ e => e
theorem Up.trans {a b c : Hp} (x : Up a b) (y : Up b c) : Up a c := fun q o e => y q o (x q o e)
theorem up_lay {H : Hp} {q : Addr} {o : HO} (n : H q = none) : Up H (upd H q o) := fun b u e => by rw [upd_ne (ne_of_none e n)]; exact e
mutual
theorem Rp.up {F F' : Hp} (u : Up F F') : ∀ {v : V} {d : Dt}, Rp F v d → Rp F' v d
  | _, _, .non => .non
  | _, _, .bl b => .bl b
  | _, _, .int i => .int i
  | _, _, .str x => .str x
  | _, _, .ty x => .ty x
  | _, _, .obj x => .obj x
  | _, _, .lst h t => .lst (u _ _ h) (Rps.up u t)
  | _, _, .tup h t => .tup (u _ _ h) (Rps.up u t)
theorem Rps.up {F F' : Hp} (u : Up F F') : ∀ {v : List V} {d : List Dt}, Rps F v d → Rps F' v d
  | _, _, .nil => .nil
  | _, _, .cons h t => .cons (Rp.up u h) (Rps.up u t)
end
mutual
/-- no lists in it -/
def flat : Dt → Bool
  | .lst _ => false
  | .tup ds => flats ds
  | _ => true
def flats : List Dt → Bool
  | [] => true
  | d :: ds => flat d && flats ds
end
mutual
theorem Rp.flat {F F' : Hp} (u : ∀ a xs, F a = some (.tup xs) → F' a = some (.tup xs)) : ∀ {v : V} {d : Dt}, Rp F v d → flat d = true → Rp F' v d
  | _, _, .non, _ => .non
  | _, _, .bl b, _ => .bl b
  | _, _, .int i, _ => .int i
  | _, _, .str x, _ => .str x
  | _, _, .ty x, _ => .ty x
  | _, _, .obj x, _ => .obj x
  | _, _, .lst h t, e => by simp [VL.flat] at e
  | _, _, .tup h t, e => .tup (u _ _ h) (Rps.flat u t (by simpa [VL.flat] using e))
theorem Rps.flat {F F' : Hp} (u : ∀ a xs, F a = some (.tup xs) → F' a = some (.tup xs)) : ∀ {v : List V} {d : List Dt}, Rps F v d → flats d = true → Rps F' v d
  | _, _, .nil, _ => .nil
  | _, d :: ds, .cons h t, e => by
    have e' : (VL.flat d && flats ds) = true := by simpa [flats] using e
    rw [Bool.and_eq_true] at e'
    exact .cons (Rp.flat u h e'.1) (Rps.flat u t e'.2)
end
theorem Rps.len {F : Hp} : ∀ {vs : List V} {ds : List Dt}, Rps F vs ds → vs.length = ds.length
  | _, _, .nil => rfl
  | _, _, .cons _ t => by rw [List.length_cons, List.length_cons, Rps.len t]
theorem Rps.get {F : Hp} : ∀ {vs : List V} {ds : List Dt} {i : Nat} {d : Dt}, Rps F vs ds → ds[i]? = some d → ∃ v, vs[i]? = some v ∧ Rp F v d
  | _, _, _, _, .nil, e => by simp at e
  | _, _, 0, _, .cons r _, e => by simp at e; subst e; exact ⟨_, rfl, r⟩
  | _, _, i + 1, d, .cons _ t, e => by
    obtain ⟨u, h1, h2⟩ := Rps.get (i := i) (d := d) t (by simpa using e)
    exact ⟨u, by simpa using h1, h2⟩
theorem Rps.gets {F : Hp} : ∀ {vs : List V} {ds : List Dt} {i : Nat} {v : V}, Rps F vs ds → vs[i]? = some v → ∃ d, ds[i]? = some d ∧ Rp F v d
  | _, _, _, _, .nil, e => by simp at e
  | _, _, 0, _, .cons r _, e => by simp at e; subst e; exact ⟨_, rfl, r⟩
  | _, _, i + 1, d, .cons _ t, e => by
    obtain ⟨u, h1, h2⟩ := Rps.gets (i := i) (v := d) t (by simpa using e)
    exact ⟨u, by simpa using h1, h2⟩
theorem Rps.append {F : Hp} : ∀ {vs ws : List V} {ds es : List Dt}, Rps F vs ds → Rps F ws es → Rps F (vs ++ ws) (ds ++ es)
  | _, _, _, _, .nil, s => s
  | _, _, _, _, .cons r t, s => .cons r (Rps.append t s)
theorem Rps.set {F : Hp} {v : V} {d : Dt} (r : Rp F v d) : ∀ {vs : List V} {ds : List Dt} (i : Nat), Rps F vs ds → Rps F (vs.set i v) (ds.set i d)
  | _, _, _, .nil => .nil
  | _, _, 0, .cons _ t => .cons r t
  | _, _, i + 1, .cons q t => .cons q (Rps.set r i t)
theorem Rps.erase {F : Hp} : ∀ {vs : List V} {ds : List Dt} (i : Nat), Rps F vs ds → Rps F (vs.eraseIdx i) (ds.eraseIdx i)
  | _, _, _, .nil => .nil
  | _, _, 0, .cons _ t => t
  | _, _, i + 1, .cons q t => .cons q (Rps.erase i t)
theorem Rps.dropLast {F : Hp} : ∀ {vs : List V} {ds : List Dt}, Rps F vs ds → Rps F vs.dropLast ds.dropLast
  | _, _, .nil => .nil
  | _, _, .cons _ .nil => .nil
  | _, _, .cons q (.cons r t) => .cons q (Rps.dropLast (.cons r t))
theorem Rps.take {F : Hp} : ∀ {vs : List V} {ds : List Dt} (i : Nat), Rps F vs ds → Rps F (vs.take i) (ds.take i)
  | _, _, 0, _ => .nil
  | _, _, _ + 1, .nil => .nil
  | _, _, i + 1, .cons q t => .cons q (Rps.take i t)
theorem Rps.drop {F : Hp} : ∀ {vs : List V} {ds : List Dt} (i : Nat), Rps F vs ds → Rps F (vs.drop i) (ds.drop i)
  | _, _, 0, r => r
  | _, _, _ + 1, .nil => .nil
  | _, _, i + 1, .cons q t => Rps.drop i t
theorem Rps.reverse {F : Hp} : ∀ {vs : List V} {ds : List Dt}, Rps F vs ds → Rps F vs.reverse ds.reverse
  | _, _, .nil => .nil
  | _, _, .cons q t => by
    rw [List.reverse_cons, List.reverse_cons]
    exact Rps.append (Rps.reverse t) (.cons q .nil)
theorem Rps.ints {F : Hp} : ∀ (ns : List Int), Rps F (ns.map V.int) (ns.map Dt.int)
  | [] => .nil
  | n :: ns => .cons (.int n) (Rps.ints ns)
theorem Rps.of_ints {F : Hp} : ∀ {vs : List V} {ns : List Int}, Rps F vs (ns.map Dt.int) → vs = ns.map V.int
  | _, [], .nil => rfl
  | _, n :: ns, .cons (.int _) t => by rw [List.map_cons, Rps.of_ints t]
theorem Rps.bools {F : Hp} : ∀ (ns : List Bool), Rps F (ns.map V.bl) (ns.map Dt.bl)
  | [] => .nil
  | n :: ns => .cons (.bl n) (Rps.bools ns)
theorem Rps.of_bools {F : Hp} : ∀ {vs : List V} {ns : List Bool}, Rps F vs (ns.map Dt.bl) → vs = ns.map V.bl
  | _, [], .nil => rfl
  | _, n :: ns, .cons (.bl _) t => by rw [List.map_cons, Rps.of_bools t]
/-! ### what a slot holds -/
/-- a thing that only its slot holds, and that may be written -/
inductive Con where
  | lst (ds : List Dt)
  | dK (kvs : List (Key × Dt))
  | dT (kvs : List (List Key × Dt))
  | set (w : World) (S : Int → Bool) (n : Nat)
  | setT (P : Program) (w : World) (ks : List (List Int))
inductive Sl where
  | no | fz (d : Dt) | ow (c : Con)
abbrev Ev := List Sl
def PrK {κ : Type} (F : Hp) : List (κ × V) → List (κ × Dt) → Prop := Paired fun (p : κ × V) (q : κ × Dt) => p.1 = q.1 ∧ Rp F p.2 q.2
def OwOk (F : Hp) (a : Addr) (o : HO) : Con → Prop
  | .lst ds => ∃ xs, o = .lst xs ∧ Rps F xs ds
  | .dK kvs => ∃ ks, o = .dK ks ∧ PrK F ks kvs
  | .dT kvs => ∃ ks, o = .dT ks ∧ PrK F ks kvs
  | .set w S n => o = SetO w a S n
  | .setT P w ks => ∃ L : List (Addr × List Int), o = SetTO P w a L ∧ L.map (·.2) = ks ∧ ∀ p ∈ L, F p.1 = some (.tup (p.2.map V.int))
theorem PrK.up {κ : Type} {F F' : Hp} {a : List (κ × V)} {b : List (κ × Dt)} (u : Up F F') (h : PrK F a b) : PrK F' a b := Paired.mapP h fun _ _ z => ⟨z.1, z.2.up u⟩
theorem OwOk.up {F F' : Hp} {a : Addr} {o : HO} (u : Up F F') : ∀ {c : Con}, OwOk F a o c → OwOk F' a o c
  | .lst _, ⟨xs, e, r⟩ => ⟨xs, e, r.up u⟩
  | .dK _, ⟨ks, e, r⟩ => ⟨ks, e, PrK.up u r⟩
  | .dT _, ⟨ks, e, r⟩ => ⟨ks, e, PrK.up u r⟩
  | .set _ _ _, e => e
  | .setT _ _ _, ⟨L, e, h, r⟩ => ⟨L, e, h, fun p hp => u _ _ (r p hp)⟩
/-- no tuple -/
def NT (o : HO) : Prop := ∀ xs, o ≠ .tup xs
theorem OwOk.nt {F : Hp} {a : Addr} {o : HO} : ∀ {c : Con}, OwOk F a o c → NT o
  | .lst _, ⟨_, e, _⟩, _, z => by rw [e] at z; cases z
  | .dK _, ⟨_, e, _⟩, _, z => by rw [e] at z; cases z
  | .dT _, ⟨_, e, _⟩, _, z => by rw [e] at z; cases z
  | .set _ _ _, e, _, z => by
    have e' : o = SetO _ _ _ _ := e
    rw [e'] at z; cases z
  | .setT _ _ _, ⟨_, e, _⟩, _, z => by rw [e] at z; cases z
/-- what runs along: the pen, the tables of generators -/
structure Am where
  sp : Addr → Prop
  ok : Nat → Hp → Prop
  trk : ∀ {n H a}, ok n H → sp a → H a ≠ none
  ntp : ∀ {n H a xs}, ok n H → sp a → H a ≠ some (.tup xs)
  mono : ∀ {n H H'}, ok n H → (∀ b, sp b → H' b = H b) → ok n H'
/-- where a def was entered: what was still, what stood -/
structure Fc where
  am : Am
  F0 : Hp
  H0 : Hp
def SlOk (c : Fc) (F H : Hp) (x : Option (Option V)) : Sl → Prop
  | .no => True
  | .fz d => ∃ v, x = some (some v) ∧ Rp F v d
  | .ow k => ∃ a o, x = some (some (.ref a)) ∧ F a = none ∧ c.H0 a = none ∧ ¬ c.am.sp a ∧ H a = some o ∧ OwOk F a o k
structure Rel (c : Fc) (F H : Hp) (σ : L2.St) (env : Ev) (n : Nat) : Prop where
  sub : Up F H
  spf : ∀ a, c.am.sp a → F a = none
  amb : c.am.ok n H
  up0 : Up c.F0 F
  out0 : ∀ a o, c.H0 a = some o → NT o → c.F0 a = none → F a = none
  keep0 : ∀ a o, c.H0 a = some o → ¬ c.am.sp a → H a = some o
  len : σ.length = env.length
  sl : ∀ (i : Nat) (s : Sl), env[i]? = some s → SlOk c F H σ[i]? s
  apart : ∀ (i j : Nat) (a : Addr) (k k' : Con), i ≠ j → env[i]? = some (.ow k) → env[j]? = some (.ow k') → σ[i]? = some (some (.ref a)) → σ[j]? ≠ some (some (.ref a))
section
variable {c : Fc} {F H : Hp} {σ : L2.St} {env : Ev} {n : Nat} {p a : Addr} {o : HO}
theorem Rel.new0 (r : Rel c F H σ env n) (hp : H p = none) : c.H0 p = none ∧ ¬ c.am.sp p ∧ F p = none := by
  have h2 : ¬ c.am.sp p := fun z => c.am.trk r.amb z hp
  refine ⟨?_, h2, ?_⟩
  · cases e : c.H0 p with
    | none => rfl
    | some o => rw [r.keep0 p o e h2] at hp; cases hp
  · cases e : F p with
    | none => rfl
    | some o => rw [r.sub p o e] at hp; cases hp
theorem Rel.amb' (r : Rel c F H σ env n) {H' : Hp} (h : ∀ b, c.am.sp b → H' b = H b) : c.am.ok n H' := c.am.mono r.amb h
theorem SlOk.up {F' H' : Hp} {x : Option (Option V)} (u : Up F F') (k : ∀ a o, F a = none → H a = some o → c.H0 a = none → ¬ c.am.sp a → F' a = none ∧ H' a = some o) : ∀ {s : Sl}, SlOk c F H x s → SlOk c F' H' x s
  | .no, _ => trivial
  | .fz _, ⟨v, e, r⟩ => ⟨v, e, r.up u⟩
  | .ow _, ⟨a, o, e, f, h0, ns, h, w⟩ => ⟨a, o, e, (k a o f h h0 ns).1, h0, ns, (k a o f h h0 ns).2, w.up u⟩
/-- a new thing, not still -/
theorem Rel.lay (r : Rel c F H σ env n) (hp : H p = none) (o : HO) : Rel c F (upd H p o) σ env n := by
  obtain ⟨h0, ns, hf⟩ := r.new0 hp
  exact ⟨fun b u e => up_lay hp b u (r.sub b u e), r.spf, r.amb' fun b hb => upd_ne fun z => ns (z ▸ hb), r.up0, r.out0, fun b u e nb => up_lay hp b u (r.keep0 b u e nb), r.len,
    fun i s e => (r.sl i s e).up (Up.refl F) fun b u fb hb _ _ => ⟨fb, up_lay hp b u hb⟩, r.apart⟩
/-- a new thing, still from now on -/
theorem Rel.layF (r : Rel c F H σ env n) (hp : H p = none) (o : HO) : Rel c (upd F p o) (upd H p o) σ env n := by
  obtain ⟨h0, ns, hf⟩ := r.new0 hp
  have r2 := r.lay hp o
  refine ⟨fun b u e => ?_, fun b hb => ?_, r2.amb, r.up0.trans (up_lay hf), fun b ob h1 nt h2 => ?_, r2.keep0, r.len, fun i s e => (r.sl i s e).up (up_lay hf) fun b u fb hb h0 nb => ?_, r.apart⟩
  · by_cases z : b = p
    · subst z; rw [upd_same] at e ⊢; exact e
    · rw [upd_ne z] at e ⊢; exact r.sub b u e
  · rw [upd_ne (fun (z : b = _) => ns (by rw [← z]; exact hb))]; exact r.spf b hb
  · rw [upd_ne (fun (z : b = _) => by rw [z, h0] at h1; cases h1)]; exact r.out0 b ob h1 nt h2
  · have z : b ≠ p := fun z => by rw [z, hp] at hb; cases hb
    rw [upd_ne z, upd_ne z]
    exact ⟨fb, hb⟩
/-- what is still may grow by what stands nowhere -/
theorem Rel.setF {v : V} {d : Dt} {i : Nat} (r : Rel c F H σ env n) (h : Rp F v d) : Rel c F H (σ.set i (some v)) (env.set i (.fz d)) n := by
  refine ⟨r.sub, r.spf, r.amb, r.up0, r.out0, r.keep0, by rw [List.length_set, List.length_set]; exact r.len, fun j s e => ?_, fun j l b k k' hjl e1 e2 e3 => ?_⟩
  · by_cases z : j = i
    · subst z
      have hl : j < env.length := by
        have := (List.getElem?_eq_some_iff.mp e).1
        rwa [List.length_set] at this
      rw [List.getElem?_set_self hl] at e
      cases e
      exact ⟨v, by rw [List.getElem?_set_self (by rw [r.len]; exact hl)], h⟩
    · rw [List.getElem?_set_ne (Ne.symm z)] at e ⊢
      exact r.sl j s e
  · have f : ∀ {j : Nat} {k : Con}, (env.set i (.fz d))[j]? = some (.ow k) → j ≠ i ∧ env[j]? = some (.ow k) := fun {j k} e => by
      by_cases z : j = i
      · subst z
        have hl : j < env.length := by
          have := (List.getElem?_eq_some_iff.mp e).1
          rwa [List.length_set] at this
        rw [List.getElem?_set_self hl] at e
        cases e
      · rw [List.getElem?_set_ne (Ne.symm z)] at e
        exact ⟨z, e⟩
    obtain ⟨n1, f1⟩ := f e1
    obtain ⟨n2, f2⟩ := f e2
    rw [List.getElem?_set_ne (Ne.symm n1)] at e3
    rw [List.getElem?_set_ne (Ne.symm n2)]
    exact r.apart j l b k k' hjl f1 f2 e3
/-- a new thing goes to its own slot -/
theorem Rel.setO {k : Con} {i : Nat} (r : Rel c F H σ env n) (hF : F a = none) (h0 : c.H0 a = none) (ns : ¬ c.am.sp a) (hH : H a = some o) (w : OwOk F a o k) (ha : ∀ (j : Nat) k', env[j]? = some (.ow k') → σ[j]? ≠ some (some (.ref a))) : Rel c F H (σ.set i (some (.ref a))) (env.set i (.ow k)) n := by
  refine ⟨r.sub, r.spf, r.amb, r.up0, r.out0, r.keep0, by rw [List.length_set, List.length_set]; exact r.len, fun j s e => ?_, fun j l b k1 k2 hjl e1 e2 e3 => ?_⟩
  · by_cases z : j = i
    · subst z
      have hl : j < env.length := by
        have := (List.getElem?_eq_some_iff.mp e).1
        rwa [List.length_set] at this
      rw [List.getElem?_set_self hl] at e
      cases e
      exact ⟨a, o, by rw [List.getElem?_set_self (by rw [r.len]; exact hl)], hF, h0, ns, hH, w⟩
    · rw [List.getElem?_set_ne (Ne.symm z)] at e ⊢
      exact r.sl j s e
  · by_cases zj : j = i
    · subst zj
      have hl : j < env.length := by
        have := (List.getElem?_eq_some_iff.mp e1).1
        rwa [List.length_set] at this
      rw [List.getElem?_set_self (by rw [r.len]; exact hl)] at e3
      cases e3
      rw [List.getElem?_set_ne hjl] at e2 ⊢
      exact ha l k2 e2
    · rw [List.getElem?_set_ne (Ne.symm zj)] at e1 e3
      by_cases zl : l = i
      · subst zl
        have hl : l < env.length := by
          have := (List.getElem?_eq_some_iff.mp e2).1
          rwa [List.length_set] at this
        rw [List.getElem?_set_self (by rw [r.len]; exact hl)]
        intro z
        cases z
        exact ha j k1 e1 e3
      · rw [List.getElem?_set_ne (Ne.symm zl)] at e2 ⊢
        exact r.apart j l b k1 k2 hjl e1 e2 e3
/-- the thing of a slot is written -/
theorem Rel.write {k k' : Con} {o' : HO} {i : Nat} (r : Rel c F H σ env n) (hi : env[i]? = some (.ow k)) (ha : σ[i]? = some (some (.ref a))) (w : OwOk F a o' k') : Rel c F (upd H a o') σ (env.set i (.ow k')) n := by
  obtain ⟨a', o, e1, hF, h0, ns, hH, _⟩ := r.sl i _ hi
  rw [ha] at e1
  cases e1
  refine ⟨fun b u e => ?_, r.spf, r.amb' fun b hb => upd_ne fun z => ns (z ▸ hb), r.up0, r.out0, fun b u e nb => ?_, by rw [List.length_set]; exact r.len, fun j s e => ?_, fun j l b k1 k2 hjl e1 e2 e3 => ?_⟩
  · rw [upd_ne fun z => by rw [z, hF] at e; cases e]; exact r.sub b u e
  · rw [upd_ne fun z => by rw [z, h0] at e; cases e]; exact r.keep0 b u e nb
  · by_cases z : j = i
    · subst z
      rw [List.getElem?_set_self (List.getElem?_eq_some_iff.mp hi).1] at e
      cases e
      exact ⟨a, o', ha, hF, h0, ns, upd_same, w⟩
    · rw [List.getElem?_set_ne (Ne.symm z)] at e
      have q := r.sl j s e
      cases s with
      | no => trivial
      | fz d => exact q
      | ow kk =>
        obtain ⟨a2, o2, g1, g2, g3, g4, g5, g6⟩ := q
        refine ⟨a2, o2, g1, g2, g3, g4, ?_, g6⟩
        rw [upd_ne fun z2 => r.apart i j a k kk (Ne.symm z) hi e ha (by rw [g1, z2])]
        exact g5
  · have f : ∀ {j : Nat} {k1 : Con}, (env.set i (.ow k'))[j]? = some (.ow k1) → ∃ k2, env[j]? = some (.ow k2) := fun {j k1} e => by
      by_cases z : j = i
      · exact ⟨k, z ▸ hi⟩
      · rw [List.getElem?_set_ne (Ne.symm z)] at e
        exact ⟨_, e⟩
    obtain ⟨_, f1⟩ := f e1
    obtain ⟨_, f2⟩ := f e2
    exact r.apart j l b _ _ hjl f1 f2 e3
/-- the thing of a slot is still from now on -/
theorem Rel.freeze {ds : List Dt} {i : Nat} (r : Rel c F H σ env n) (hi : env[i]? = some (.ow (.lst ds))) : ∃ a F', σ[i]? = some (some (.ref a)) ∧ Up F F' ∧ Rp F' (.ref a) (.lst ds) ∧ Rel c F' H σ (env.set i (.fz (.lst ds))) n := by
  obtain ⟨a, o, e1, hF, h0, ns, hH, xs, rfl, rx⟩ := r.sl i _ hi
  have hrp : Rp (upd F a (.lst xs)) (.ref a) (.lst ds) := .lst upd_same (rx.up (up_lay hF))
  refine ⟨a, upd F a (.lst xs), e1, up_lay hF, hrp, ?_⟩
  refine ⟨fun b u e => ?_, fun b hb => ?_, r.amb, r.up0.trans (up_lay hF), fun b ob h1 nt h2 => ?_, r.keep0, by rw [List.length_set]; exact r.len, fun j s e => ?_, fun j l b k1 k2 hjl e1 e2 e3 => ?_⟩
  · by_cases z : b = a
    · subst z; rw [upd_same] at e; cases e; exact hH
    · rw [upd_ne z] at e; exact r.sub b u e
  · rw [upd_ne (fun (z : b = _) => ns (by rw [← z]; exact hb))]; exact r.spf b hb
  · rw [upd_ne (fun (z : b = _) => by rw [z, h0] at h1; cases h1)]; exact r.out0 b ob h1 nt h2
  · by_cases z : j = i
    · subst z
      rw [List.getElem?_set_self (List.getElem?_eq_some_iff.mp hi).1] at e
      cases e
      exact ⟨_, e1, hrp⟩
    · rw [List.getElem?_set_ne (Ne.symm z)] at e
      have q := r.sl j s e
      cases s with
      | no => trivial
      | fz d => exact let ⟨v, g1, g2⟩ := q; ⟨v, g1, g2.up (up_lay hF)⟩
      | ow kk =>
        obtain ⟨a2, o2, g1, g2, g3, g4, g5, g6⟩ := q
        refine ⟨a2, o2, g1, ?_, g3, g4, g5, g6.up (up_lay hF)⟩
        rw [upd_ne fun z2 => r.apart i j a _ kk (Ne.symm z) hi e e1 (by rw [g1, z2])]
        exact g2
  · have f : ∀ {j : Nat} {k1 : Con}, (env.set i (.fz (.lst ds)))[j]? = some (.ow k1) → env[j]? = some (.ow k1) := fun {j k1} e => by
      by_cases z : j = i
      · subst z
        rw [List.getElem?_set_self (List.getElem?_eq_some_iff.mp hi).1] at e
        cases e
      · rw [List.getElem?_set_ne (Ne.symm z)] at e
        exact e
    exact r.apart j l b k1 k2 hjl (f e1) (f e2) e3
/-- slots may be forgotten -/
theorem Rel.weak {σ' : L2.St} {env' : Ev} (r : Rel c F H σ env n) (hl : σ'.length = env'.length) (h : ∀ (i : Nat) s, env'[i]? = some s → s = .no ∨ (env[i]? = some s ∧ σ'[i]? = σ[i]?)) : Rel c F H σ' env' n := by
  refine ⟨r.sub, r.spf, r.amb, r.up0, r.out0, r.keep0, hl, fun i s e => ?_, fun j l b k1 k2 hjl e1 e2 e3 => ?_⟩
  · rcases h i s e with rfl | ⟨h1, h2⟩
    · trivial
    · rw [h2]; exact r.sl i s h1
  · rcases h j _ e1 with z | ⟨h1, h2⟩
    · cases z
    · rcases h l _ e2 with z | ⟨h3, h4⟩
      · cases z
      · rw [h2] at e3
        rw [h4]
        exact r.apart j l b k1 k2 hjl h1 h3 e3
/-- behind a call that wrote nothing of ours -/
theorem Rel.call {F' H' : Hp} {n' : Nat} (r : Rel c F H σ env n) (u : Up F F') (sb : Up F' H') (sf : ∀ a, c.am.sp a → F' a = none) (ot : ∀ a o, H a = some o → NT o → F a = none → F' a = none) (kp : ∀ a o, H a = some o → ¬ c.am.sp a → H' a = some o) (am : c.am.ok n' H') : Rel c F' H' σ env n' := by
  refine ⟨sb, sf, am, r.up0.trans u, fun b ob h1 nt h2 => ?_, fun b o e nb => kp b o (r.keep0 b o e nb) nb, r.len, fun i s e => ?_, r.apart⟩
  · by_cases hs : c.am.sp b
    · exact sf b hs
    · exact ot b ob (r.keep0 b ob h1 hs) nt (r.out0 b ob h1 nt h2)
  · have q := r.sl i s e
    cases s with
    | no => trivial
    | fz d => exact let ⟨v, g1, g2⟩ := q; ⟨v, g1, g2.up u⟩
    | ow k =>
      obtain ⟨a, o, g1, g2, g3, g4, g5, g6⟩ := q
      exact ⟨a, o, g1, ot a o g5 g6.nt g2, g3, g4, kp a o g5 g4, g6.up u⟩
/-- a tuple that stands may be held still -/
theorem Rel.addT {xs : List V} (r : Rel c F H σ env n) (h : H a = some (.tup xs)) : Rel c (upd F a (.tup xs)) H σ env n ∧ Up F (upd F a (.tup xs)) := by
  have up : Up F (upd F a (.tup xs)) := fun b o e => by
    by_cases z : b = a
    · subst z
      rw [r.sub _ _ e] at h
      cases h
      exact upd_same
    · rw [upd_ne z]; exact e
  refine ⟨⟨fun b o e => ?_, fun b hb => ?_, r.amb, r.up0.trans up, fun b ob h1 nt h2 => ?_, r.keep0, r.len, fun i s e => ?_, r.apart⟩, up⟩
  · by_cases z : b = a
    · subst z; rw [upd_same] at e; cases e; exact h
    · rw [upd_ne z] at e; exact r.sub b o e
  · rw [upd_ne (fun (z : b = a) => c.am.ntp r.amb hb (by rw [z]; exact h))]; exact r.spf b hb
  · by_cases z : b = a
    · subst z
      by_cases hs : c.am.sp b
      · exact absurd h (c.am.ntp r.amb hs)
      · have := r.keep0 b ob h1 hs
        rw [h] at this
        cases this
        exact absurd rfl (nt xs)
    · rw [upd_ne z]; exact r.out0 b ob h1 nt h2
  · have q := r.sl i s e
    cases s with
    | no => trivial
    | fz d => exact let ⟨v, g1, g2⟩ := q; ⟨v, g1, g2.up up⟩
    | ow k =>
      obtain ⟨a2, o, g1, g2, g3, g4, g5, g6⟩ := q
      refine ⟨a2, o, g1, ?_, g3, g4, g5, g6.up up⟩
      rw [upd_ne fun z => by
        rw [z, h] at g5
        cases g5
        exact absurd rfl (g6.nt xs)]
      exact g2
end
end VL
namespace VL
open PySem PySem.Spec PyProof.Rows L2 HM
/-! ### readings by trees -/
abbrev VTE := Ev → Nat → (Dt → Ev → Nat → Prop) → Prop
abbrev VTT := Ev → Nat → (Bool → Ev → Nat → Prop) → Prop
abbrev VTA := Ev → Nat → (List Dt → Ev → Nat → Prop) → Prop
abbrev VTN := Ev → Nat → (Con → Ev → Nat → Prop) → Prop
structure VEn where
  nx : Ev → Nat → Prop
  rt : Dt → Nat → Prop
  bk : Ev → Nat → Prop := fun _ _ => False
  ct : Ev → Nat → Prop := fun _ _ => False
abbrev VTS := VEn → Ev → Nat → Prop
abbrev VTG := Dt → Ev → Nat → (Ev → Nat → Prop) → Prop
abbrev VTGs := List Dt → Ev → Nat → (Ev → Nat → Prop) → Prop
abbrev VTI := Ev → Nat → (List Dt → Ev → Nat → Prop) → Prop
/-- a still value -/
def tOf (c : Fc) (te : VTE) : TE := fun σ H R => ∃ F env n Q, Rel c F H σ env n ∧ te env n Q ∧ ∀ v H' F' d env' n', Rel c F' H' σ env' n' → Up F F' → Rp F' v d → Q d env' n' → R v H'
/-- what is still, and some lists of one's own beside -/
structure Gx (c : Fc) (F H G : Hp) : Prop where
  u1 : Up F G
  u2 : Up G H
  sp : ∀ a, c.am.sp a → G a = none
  tp : ∀ a xs, G a = some (.tup xs) → F a = some (.tup xs)
theorem Rel.gx {c : Fc} {F H : Hp} {σ : L2.St} {env : Ev} {n : Nat} (r : Rel c F H σ env n) : Gx c F H F := ⟨Up.refl F, r.sub, r.spf, fun _ _ e => e⟩
/-- a value that is read at once -/
def rOf (c : Fc) (te : VTE) : TE := fun σ H R => ∃ F env n Q, Rel c F H σ env n ∧ te env n Q ∧ ∀ v H' F' G d env' n', Rel c F' H' σ env' n' → Up F F' → Gx c F' H' G → Rp G v d → Q d env' n' → R v H'
/-- a new thing -/
def nOf (c : Fc) (te : VTN) : TE := fun σ H R => ∃ F env n Q, Rel c F H σ env n ∧ te env n Q ∧ ∀ a o H' F' k env' n', Rel c F' H' σ env' n' → Up F F' → F' a = none → c.H0 a = none → ¬ c.am.sp a → H' a = some o → OwOk F' a o k → (∀ (j : Nat) k', env'[j]? = some (.ow k') → σ[j]? ≠ some (some (.ref a))) → Q k env' n' → R (.ref a) H'
def aOf (c : Fc) (ta : VTA) : TA := fun σ H R => ∃ F env n Q, Rel c F H σ env n ∧ ta env n Q ∧ ∀ vs H' F' ds env' n', Rel c F' H' σ env' n' → Up F F' → Rps F' vs ds → Q ds env' n' → R vs H'
def bOf (c : Fc) (ta : VTA) : TA := fun σ H R => ∃ F env n Q, Rel c F H σ env n ∧ ta env n Q ∧ ∀ vs H' F' G ds env' n', Rel c F' H' σ env' n' → Up F F' → Gx c F' H' G → Rps G vs ds → Q ds env' n' → R vs H'
def cOf (c : Fc) (tt : VTT) : TT := fun σ H R => ∃ F env n Q, Rel c F H σ env n ∧ tt env n Q ∧ ∀ b H' F' env' n', Rel c F' H' σ env' n' → Up F F' → Q b env' n' → R b H'
structure EnOk (c : Fc) (F : Hp) (V : VEn) (D : Ends) : Prop where
  nx : ∀ F' H' σ' env' n', Rel c F' H' σ' env' n' → Up F F' → V.nx env' n' → D.nx σ' H'
  rt : ∀ F' H' σ' env' n' v d, Rel c F' H' σ' env' n' → Up F F' → Rp F' v d → V.rt d n' → D.rt v H'
  bk : ∀ F' H' σ' env' n', Rel c F' H' σ' env' n' → Up F F' → V.bk env' n' → D.bk σ' H'
  ct : ∀ F' H' σ' env' n', Rel c F' H' σ' env' n' → Up F F' → V.ct env' n' → D.ct σ' H'
theorem EnOk.up {c : Fc} {F F' : Hp} {V : VEn} {D : Ends} (h : EnOk c F V D) (u : Up F F') : EnOk c F' V D :=
  ⟨fun F2 H' σ' env' n' r w => h.nx F2 H' σ' env' n' r (u.trans w), fun F2 H' σ' env' n' v d r w => h.rt F2 H' σ' env' n' v d r (u.trans w), fun F2 H' σ' env' n' r w => h.bk F2 H' σ' env' n' r (u.trans w), fun F2 H' σ' env' n' r w => h.ct F2 H' σ' env' n' r (u.trans w)⟩
def sOf (c : Fc) (ts : VTS) : TS := fun D σ H => ∃ F env n V, Rel c F H σ env n ∧ ts V env n ∧ EnOk c F V D
def gOf (c : Fc) (g : VTG) : TG := fun v σ H R => ∃ F env n d Q, Rel c F H σ env n ∧ Rp F v d ∧ g d env n Q ∧ ∀ σ' H' F' env' n', Rel c F' H' σ' env' n' → Up F F' → Q env' n' → R σ' H'
def gsOf (c : Fc) (g : VTGs) : TGs := fun vs σ H R => ∃ F env n ds Q, Rel c F H σ env n ∧ Rps F vs ds ∧ g ds env n Q ∧ ∀ σ' H' F' env' n', Rel c F' H' σ' env' n' → Up F F' → Q env' n' → R σ' H'
/-- what is walked: the things xs, one by one -/
def Wk (am : Am) (J : It) (F0 : Hp) (xs : List Dt) : Prop := ∀ (c : Fc), c.am = am → ∀ F H σ env n, Rel c F H σ env n → Up F0 F → ∀ i : Nat,
  (i < xs.length → J.go i H ∧ ∀ x H', J.yld i H x H' → ∃ F' d, Rel c F' H' σ env n ∧ Up F F' ∧ xs[i]? = some d ∧ Rp F' x d) ∧ (xs.length ≤ i → J.stop i H)
def iOf (c : Fc) (wi : VTI) : TI := fun σ H R => ∃ F env n Q, Rel c F H σ env n ∧ wi env n Q ∧ ∀ J H' F' xs env' n', Rel c F' H' σ env' n' → Up F F' → Wk c.am J F' xs → Q xs env' n' → R J H'

theorem PE.imp {X : Cx} {e : Expr} {t t' : TE} (h : PE X e t) (k : ∀ σ H R, t' σ H R → t σ H R) : PE X e t' := ⟨fun pins s σ H Q I q => h.run pins s σ H Q I (k _ _ _ q)⟩
theorem PT.imp {X : Cx} {e : Expr} {t t' : TT} (h : PT X e t) (k : ∀ σ H R, t' σ H R → t σ H R) : PT X e t' := ⟨fun pins s σ H Q I q => h.run pins s σ H Q I (k _ _ _ q)⟩
theorem PW.imp {X : Cx} {e : Expr} {t t' : TT} (h : PW X e t) (k : ∀ σ H R, t' σ H R → t σ H R) : PW X e t' := ⟨fun wh pins s σ H Q I q => h.run wh pins s σ H Q I (k _ _ _ q)⟩
theorem PA.imp {X : Cx} {e : List Expr} {t t' : TA} (h : PA X e t) (k : ∀ σ H R, t' σ H R → t σ H R) : PA X e t' := ⟨fun pos pins s σ H Q I q => h.run pos pins s σ H Q I (k _ _ _ q)⟩
theorem PS.imp {X : Cx} {e : Stmt} {t t' : TS} (h : PS X e t) (k : ∀ D σ H, t' D σ H → t D σ H) : PS X e t' := ⟨fun pins s σ H D I q => h.run pins s σ H D I (k _ _ _ q)⟩
theorem PSs.imp {X : Cx} {e : List Stmt} {t t' : TS} (h : PSs X e t) (k : ∀ D σ H, t' D σ H → t D σ H) : PSs X e t' := ⟨fun pins s σ H D I q => h.run pins s σ H D I (k _ _ _ q)⟩
theorem PG.imp {X : Cx} {e : Expr} {t t' : TG} (h : PG X e t) (k : ∀ v σ H R, t' v σ H R → t v σ H R) : PG X e t' := ⟨fun pins s σ H v u Q I r q => h.run pins s σ H v u Q I r (k _ _ _ _ q)⟩
theorem PGs.imp {X : Cx} {e : List Expr} {t t' : TGs} (h : PGs X e t) (k : ∀ v σ H R, t' v σ H R → t v σ H R) : PGs X e t' := ⟨fun pins s σ H v u Q I r q => h.run pins s σ H v u Q I r (k _ _ _ _ q)⟩
theorem PI.imp {X : Cx} {tg e : Expr} {t t' : TI} (h : PI X tg e t) (k : ∀ σ H R, t' σ H R → t σ H R) : PI X tg e t' := ⟨fun pins s σ H Q I q => h.run pins s σ H Q I (k _ _ _ q)⟩

section
variable {c : Fc} {X : Cx} {a b : Expr} {ta tb : VTE} {pos : Pos}
/-! ### names and constants -/
def vVar (i : Nat) : VTE := fun env n Q => ∃ d, env[i]? = some (.fz d) ∧ Q d env n
/-- a thing of one's own, still from now on -/
def vMv (i : Nat) : VTE := fun env n Q => ∃ ds, env[i]? = some (.ow (.lst ds)) ∧ Q (.lst ds) (env.set i (.fz (.lst ds))) n
/-- a thing of one's own, or a still one, just read -/
def vRd (i : Nat) : VTE := fun env n Q => ∃ d, (env[i]? = some (.fz d) ∨ ∃ ds, env[i]? = some (.ow (.lst ds)) ∧ d = .lst ds) ∧ Q d env n
def vC (d : Dt) : VTE := fun env n Q => Q d env n
theorem tVar_of {i : Nat} {σ : L2.St} {H : Hp} {R : VK} (h : tOf c (vVar i) σ H R) : tVar i σ H R := by
  obtain ⟨F, env, n, Q, r, ⟨d, e, q⟩, k⟩ := h
  obtain ⟨v, e2, rp⟩ := r.sl i _ e
  exact ⟨v, e2, k v H F d env n r (Up.refl F) rp q⟩
theorem ve_var {i : Nat} {x : Str} (h : PE X (.Name x pos) (tVar i)) : PE X (.Name x pos) (tOf c (vVar i)) := PE.imp h fun _ _ _ => tVar_of
theorem ve_mv {i : Nat} {x : Str} (h : PE X (.Name x pos) (tVar i)) : PE X (.Name x pos) (tOf c (vMv i)) := PE.imp h fun σ H R ⟨F, env, n, Q, r, ⟨ds, e, q⟩, k⟩ => by
  obtain ⟨a, F', e2, u, rp, r'⟩ := r.freeze e
  exact ⟨.ref a, e2, k _ H F' _ _ n r' u rp q⟩
theorem Rel.rdOwn {F H : Hp} {σ : L2.St} {env : Ev} {n : Nat} {i : Nat} {ds : List Dt} (r : Rel c F H σ env n) (e : env[i]? = some (.ow (.lst ds))) : ∃ a xs, σ[i]? = some (some (.ref a)) ∧ H a = some (.lst xs) ∧ Rps F xs ds := by
  obtain ⟨a, o, e2, _, _, _, hH, xs, rfl, rx⟩ := r.sl i _ e
  exact ⟨a, xs, e2, hH, rx⟩
/-- a list of one's own beside what is still -/
theorem Gx.add {F H G : Hp} {σ : L2.St} {env : Ev} {n : Nat} {i : Nat} {ds : List Dt} (r : Rel c F H σ env n) (g : Gx c F H G) (e : env[i]? = some (.ow (.lst ds))) : ∃ a G', σ[i]? = some (some (.ref a)) ∧ Gx c F H G' ∧ Up G G' ∧ Rp G' (.ref a) (.lst ds) := by
  obtain ⟨a, o, e2, hF, h0, ns, hH, xs, rfl, rx⟩ := r.sl i _ e
  have up : Up G (upd G a (.lst xs)) := fun b u q => by
    by_cases z : b = a
    · subst z
      rw [g.u2 _ _ q] at hH
      cases hH
      exact upd_same
    · rw [upd_ne z]; exact q
  refine ⟨a, upd G a (.lst xs), e2, ⟨g.u1.trans up, fun b u q => ?_, fun b hb => ?_, fun b ys q => ?_⟩, up, .lst upd_same (rx.up (g.u1.trans up))⟩
  · by_cases z : b = a
    · subst z; rw [upd_same] at q; cases q; exact hH
    · rw [upd_ne z] at q; exact g.u2 b u q
  · rw [upd_ne (fun (z : b = a) => ns (by rw [← z]; exact hb))]; exact g.sp b hb
  · by_cases z : b = a
    · subst z; rw [upd_same] at q; cases q
    · rw [upd_ne z] at q; exact g.tp b ys q
theorem vr_var {i : Nat} {x : Str} (h : PE X (.Name x pos) (tVar i)) : PE X (.Name x pos) (rOf c (vRd i)) := PE.imp h fun σ H R ⟨F, env, n, Q, r, ⟨d, e, q⟩, k⟩ => by
  rcases e with e | ⟨ds, e, rfl⟩
  · obtain ⟨v, e2, rp⟩ := r.sl i _ e
    exact ⟨v, e2, k v H F F d env n r (Up.refl F) r.gx rp q⟩
  · obtain ⟨a, G, e2, g, _, rp⟩ := r.gx.add r e
    exact ⟨_, e2, k _ H F G _ env n r (Up.refl F) g rp q⟩
theorem vr_of {te : VTE} {e : Expr} (h : PE X e (tOf c te)) : PE X e (rOf c te) := PE.imp h fun σ H R ⟨F, env, n, Q, r, h, k⟩ => ⟨F, env, n, Q, r, h, fun v H' F' d env' n' r' u rp q => k v H' F' F' d env' n' r' u r'.gx rp q⟩
theorem ve_c {e : Expr} {v : V} {d : Dt} (h : PE X e (tC v)) (hd : ∀ F, Rp F v d) : PE X e (tOf c (vC d)) := PE.imp h fun σ H R ⟨F, env, n, Q, r, q, k⟩ => k v H F d env n r (Up.refl F) (hd F) q
theorem ve_int {i j} : PE X (.Constant (.int i) j pos) (tOf c (vC (.int i))) := ve_c pe_int fun _ => .int i
theorem ve_bl {i j} : PE X (.Constant (.bool i) j pos) (tOf c (vC (.bl i))) := ve_c pe_bl fun _ => .bl i
theorem ve_non {j} : PE X (.Constant .none j pos) (tOf c (vC .non)) := ve_c pe_non fun _ => .non
theorem ve_str {i j} : PE X (.Constant (.str i) j pos) (tOf c (vC (.str i))) := ve_c pe_str fun _ => .str i
/-- a new list, still from now on -/
theorem ve_new {te : VTN} {e : Expr} (h : PE X e (nOf c te)) : PE X e (tOf c (fun env n Q => te env n fun k env' n' => ∃ ds, k = .lst ds ∧ Q (.lst ds) env' n')) := PE.imp h fun σ H R ⟨F, env, n, Q, r, h, k⟩ => ⟨F, env, n, _, r, h, fun a o H' F' kk env' n' r' u hF h0 ns hH w ha q => by
    obtain ⟨ds, rfl, q⟩ := q
    obtain ⟨xs, rfl, rx⟩ := w
    have rp : Rp (upd F' a (.lst xs)) (.ref a) (.lst ds) := .lst upd_same (rx.up (up_lay hF))
    refine k _ H' (upd F' a (.lst xs)) _ env' n' ⟨fun b ob e => ?_, fun b hb => ?_, r'.amb, r'.up0.trans (up_lay hF), fun b ob h1 nt h2 => ?_, r'.keep0, r'.len, fun i s e => ?_, r'.apart⟩ (u.trans (up_lay hF)) rp q
    · by_cases z : b = a
      · subst z; rw [upd_same] at e; cases e; exact hH
      · rw [upd_ne z] at e; exact r'.sub b ob e
    · rw [upd_ne (fun (z : b = a) => ns (by rw [← z]; exact hb))]; exact r'.spf b hb
    · rw [upd_ne (fun (z : b = a) => by rw [z, h0] at h1; cases h1)]; exact r'.out0 b ob h1 nt h2
    · have q := r'.sl i s e
      cases s with
      | no => trivial
      | fz d => exact let ⟨v, g1, g2⟩ := q; ⟨v, g1, g2.up (up_lay hF)⟩
      | ow kk =>
        obtain ⟨a2, o2, g1, g2, g3, g4, g5, g6⟩ := q
        refine ⟨a2, o2, g1, ?_, g3, g4, g5, g6.up (up_lay hF)⟩
        rw [upd_ne fun z2 => ha i kk e (by rw [g1, z2])]
        exact g2⟩
/-! ### two in a row -/
def v2 (ta tb : VTE) (k : Dt → Dt → Ev → Nat → Prop) : Ev → Nat → Prop := fun env n => ta env n fun x env1 n1 => tb env1 n1 fun y env2 n2 => k x y env2 n2
theorem t2_of {σ : L2.St} {H : Hp} {F : Hp} {env : Ev} {n : Nat} {k : Dt → Dt → Ev → Nat → Prop} {K : V → V → Hp → Prop} (r : Rel c F H σ env n) (h : v2 ta tb k env n)
    (hk : ∀ x y d1 d2 H' F' env' n', Rel c F' H' σ env' n' → Up F F' → Rp F' x d1 → Rp F' y d2 → k d1 d2 env' n' → K x y H') : tOf c ta σ H fun x H1 => tOf c tb σ H1 fun y H2 => K x y H2 :=
  ⟨F, env, n, _, r, h, fun x H1 F1 d1 env1 n1 r1 u1 p1 q1 => ⟨F1, env1, n1, _, r1, q1, fun y H2 F2 d2 env2 n2 r2 u2 p2 q2 => hk x y d1 d2 H2 F2 env2 n2 r2 (u1.trans u2) (p1.up u2) p2 q2⟩⟩
/-- an operator of two whole numbers -/
def vI (C : Int → Int → Prop) (g : Int → Int → Dt) (ta tb : VTE) : VTE := fun env n Q => v2 ta tb (fun x y env' n' => ∃ i j, x = .int i ∧ y = .int j ∧ C i j ∧ Q (g i j) env' n') env n
theorem Rp.int_inv {F : Hp} {v : V} {i : Int} (h : Rp F v (.int i)) : v = .int i := by cases h; rfl
theorem Rp.bl_inv {F : Hp} {v : V} {i : Bool} (h : Rp F v (.bl i)) : v = .bl i := by cases h; rfl
theorem Rp.non_inv {F : Hp} {v : V} (h : Rp F v .non) : v = .non := by cases h; rfl
theorem Rp.str_inv {F : Hp} {v : V} {i : Str} (h : Rp F v (.str i)) : v = .str i := by cases h; rfl
theorem Rp.lst_inv {F : Hp} {v : V} {ds : List Dt} (h : Rp F v (.lst ds)) : ∃ a xs, v = .ref a ∧ F a = some (.lst xs) ∧ Rps F xs ds := by cases h with | lst h t => exact ⟨_, _, rfl, h, t⟩
theorem Rp.tup_inv {F : Hp} {v : V} {ds : List Dt} (h : Rp F v (.tup ds)) : ∃ a xs, v = .ref a ∧ F a = some (.tup xs) ∧ Rps F xs ds := by cases h with | tup h t => exact ⟨_, _, rfl, h, t⟩
theorem ve_opI {op : Operator} {C : Int → Int → Prop} {gi : Int → Int → Int} (ho : OpR X (binaryOp op) (rI C fun i j => .int (gi i j))) (ha : PE X a (tOf c ta)) (hb : PE X b (tOf c tb)) : PE X (.BinOp a op b pos) (tOf c (vI C (fun i j => .int (gi i j)) ta tb)) :=
  PE.imp (pe_op ho ha hb) fun σ H R ⟨F, env, n, Q, r, h, k⟩ => t2_of r h fun x y d1 d2 H' F' env' n' r' u p1 p2 q => by
    obtain ⟨i, j, rfl, rfl, hc, q⟩ := q
    rw [p1.int_inv, p2.int_inv]
    exact ⟨i, j, rfl, rfl, hc, k _ _ _ _ _ _ r' u (.int _) q⟩
theorem ve_opI0 {op : Operator} {gi : Int → Int → Int} (ho : OpR X (binaryOp op) (rI0 fun i j => .int (gi i j))) (ha : PE X a (tOf c ta)) (hb : PE X b (tOf c tb)) : PE X (.BinOp a op b pos) (tOf c (vI (fun _ _ => True) (fun i j => .int (gi i j)) ta tb)) :=
  PE.imp (pe_op ho ha hb) fun σ H R ⟨F, env, n, Q, r, h, k⟩ => t2_of r h fun x y d1 d2 H' F' env' n' r' u p1 p2 q => by
    obtain ⟨i, j, rfl, rfl, _, q⟩ := q
    rw [p1.int_inv, p2.int_inv]
    exact ⟨i, j, rfl, rfl, k _ _ _ _ _ _ r' u (.int _) q⟩
end
end VL
namespace VL
open PySem PySem.Spec PyProof.Rows L2 HM
/-- things without parts -/
def atom : Dt → Bool
  | .lst _ => false
  | .tup _ => false
  | _ => true
theorem Rp.atom {F F' : Hp} {v : V} {d : Dt} (h : Rp F v d) (e : VL.atom d = true) : Rp F' v d := by
  cases h with
  | non => exact .non
  | bl b => exact .bl b
  | int b => exact .int b
  | str b => exact .str b
  | ty b => exact .ty b
  | obj b => exact .obj b
  | lst _ _ => cases e
  | tup _ _ => cases e
/-! ### operators by trees: nothing is written -/
abbrev R2D := Dt → Dt → (Dt → Prop) → Prop
def Lft2 (r : R2) (r' : R2D) : Prop := ∀ (F H : Hp) x y d1 d2 (Q : Dt → Prop) (R : VK), Up F H → Rp F x d1 → Rp F y d2 → r' d1 d2 Q → (∀ v d, Rp F v d → Q d → R v H) → r x y H R
def vOp (r' : R2D) (ta tb : VTE) : VTE := fun env n Q => v2 ta tb (fun x y env' n' => r' x y fun d => Q d env' n') env n
/-- what slot i holds, to be read -/
def rdS (env : Ev) (i : Nat) (d : Dt) : Prop := env[i]? = some (.fz d) ∨ ∃ ds, env[i]? = some (.ow (.lst ds)) ∧ d = .lst ds
/-- the left one a name whose thing is read at the end -/
def vOpN (r' : R2D) (i : Nat) (tb : VTE) : VTE := fun env n Q => (∃ d0, rdS env i d0) ∧ tb env n fun y env' n' => ∃ x, rdS env' i x ∧ r' x y fun d => flat d = true ∧ Q d env' n'
def vOpR (r' : R2D) (ta tb : VTE) : VTE := fun env n Q => v2 ta tb (fun x y env' n' => r' x y fun d => flat d = true ∧ Q d env' n') env n
section
variable {c : Fc} {X : Cx} {a b : Expr} {ta tb : VTE} {pos : Pos}
theorem Rel.rdS {F H G : Hp} {σ : L2.St} {env : Ev} {n : Nat} {i : Nat} {d : Dt} (r : Rel c F H σ env n) (g : Gx c F H G) (e : rdS env i d) : ∃ v G', σ[i]? = some (some v) ∧ Gx c F H G' ∧ Up G G' ∧ Rp G' v d := by
  rcases e with e | ⟨ds, e, rfl⟩
  · obtain ⟨v, e2, rp⟩ := r.sl i _ e
    exact ⟨v, G, e2, g, Up.refl G, rp.up g.u1⟩
  · obtain ⟨a, G', e2, g', u, rp⟩ := g.add r e
    exact ⟨_, G', e2, g', u, rp⟩
theorem op_of {r : R2} {r' : R2D} (L : Lft2 r r') {σ : L2.St} {H : Hp} {R : VK} (h : tOf c (vOp r' ta tb) σ H R) : tOp r (tOf c ta) (tOf c tb) σ H R := by
  obtain ⟨F, env, n, Q, rr, h, k⟩ := h
  exact t2_of rr h fun x y d1 d2 H' F' env' n' r' u p1 p2 q => L F' H' x y d1 d2 _ R r'.sub p1 p2 q fun v d rv qd => k v H' F' d env' n' r' u rv qd
/-- the right one just read -/
theorem opR_of {r : R2} {r' : R2D} (L : Lft2 r r') {σ : L2.St} {H : Hp} {R : VK} (h : tOf c (vOpR r' ta tb) σ H R) : tOp r (tOf c ta) (rOf c tb) σ H R := by
  obtain ⟨F, env, n, Q, rr, h, k⟩ := h
  exact ⟨F, env, n, _, rr, h, fun x H1 F1 d1 env1 n1 r1 u1 p1 q1 => ⟨F1, env1, n1, _, r1, q1, fun y H2 F2 G d2 env2 n2 r2 u2 g p2 q2 =>
    L G H2 x y d1 d2 _ R g.u2 ((p1.up u2).up g.u1) p2 q2 fun v d rv qd => k v H2 F2 d env2 n2 r2 (u1.trans u2) (rv.flat g.tp qd.1) qd.2⟩⟩
theorem opN_of {i : Nat} {r : R2} {r' : R2D} (L : Lft2 r r') {σ : L2.St} {H : Hp} {R : VK} (h : tOf c (vOpN r' i tb) σ H R) : tOp r (tVar i) (rOf c tb) σ H R := by
  obtain ⟨F, env, n, Q, rr, ⟨⟨d0, e0⟩, h⟩, k⟩ := h
  obtain ⟨v0, _, ev, _⟩ := rr.rdS rr.gx e0
  refine ⟨v0, ev, F, env, n, _, rr, h, fun y H2 F2 G d2 env2 n2 r2 u2 g p2 q2 => ?_⟩
  obtain ⟨x, ex, q2⟩ := q2
  obtain ⟨v1, G', ev1, g', ug, px⟩ := r2.rdS g ex
  rw [ev] at ev1
  cases ev1
  exact L G' H2 v0 y x d2 _ R g'.u2 px (p2.up ug) q2 fun v d rv qd => k v H2 F2 d env2 n2 r2 u2 (rv.flat g'.tp qd.1) qd.2
theorem ve_op {op : Operator} {r : R2} {r' : R2D} (ho : OpR X (binaryOp op) r) (L : Lft2 r r') (ha : PE X a (tOf c ta)) (hb : PE X b (tOf c tb)) : PE X (.BinOp a op b pos) (tOf c (vOp r' ta tb)) := PE.imp (pe_op ho ha hb) fun _ _ _ => op_of L
theorem ve_cmp {op : CmpOp} {r : R2} {r' : R2D} (ho : OpR X (compareOp op) r) (L : Lft2 r r') (ha : PE X a (tOf c ta)) (hb : PE X b (tOf c tb)) (hm : behindInMarks op b = false) : PE X (.Compare a [op] [b] pos) (tOf c (vOp r' ta tb)) := PE.imp (pe_cmpR ho ha hb hm) fun _ _ _ => op_of L
theorem ve_cmpR {op : CmpOp} {r : R2} {r' : R2D} (ho : OpR X (compareOp op) r) (L : Lft2 r r') (ha : PE X a (tOf c ta)) (hb : PE X b (rOf c tb)) (hm : behindInMarks op b = false) : PE X (.Compare a [op] [b] pos) (tOf c (vOpR r' ta tb)) := PE.imp (pe_cmpR ho ha hb hm) fun _ _ _ => opR_of L
theorem ve_cmpN {i : Nat} {op : CmpOp} {r : R2} {r' : R2D} (ho : OpR X (compareOp op) r) (L : Lft2 r r') (ha : PE X a (tVar i)) (hb : PE X b (rOf c tb)) (hm : behindInMarks op b = false) : PE X (.Compare a [op] [b] pos) (tOf c (vOpN r' i tb)) := PE.imp (pe_cmpR ho ha hb hm) fun _ _ _ => opN_of L
/-! tests -/
def vB (te : VTE) : VTT := fun env n Q => te env n fun d env' n' => ∃ b, d = .bl b ∧ Q b env' n'
theorem test_of {te : VTE} {t : TE} (h : ∀ {σ H R}, tOf c te σ H R → t σ H R) {σ : L2.St} {H : Hp} {R : Bool → Hp → Prop} (q : cOf c (vB te) σ H R) : tTest t σ H R := by
  obtain ⟨F, env, n, Q, rr, q, k⟩ := q
  refine h ⟨F, env, n, _, rr, q, fun v H' F' d env' n' r' u rp qd => ?_⟩
  obtain ⟨bb, rfl, qd⟩ := qd
  exact ⟨bb, rp.bl_inv, k bb H' F' env' n' r' u qd⟩
theorem vt_cmp {op : CmpOp} {r : R2} {r' : R2D} (ho : OpR X (compareOp op) r) (L : Lft2 r r') (ha : PE X a (tOf c ta)) (hb : PE X b (tOf c tb)) (hm : behindInMarks op b = false) : PT X (.Compare a [op] [b] pos) (cOf c (vB (vOp r' ta tb))) := PT.imp (pt_cmpR ho ha hb hm) fun _ _ _ => test_of (op_of L)
theorem vt_cmpR {op : CmpOp} {r : R2} {r' : R2D} (ho : OpR X (compareOp op) r) (L : Lft2 r r') (ha : PE X a (tOf c ta)) (hb : PE X b (rOf c tb)) (hm : behindInMarks op b = false) : PT X (.Compare a [op] [b] pos) (cOf c (vB (vOpR r' ta tb))) := PT.imp (pt_cmpR ho ha hb hm) fun _ _ _ => test_of (opR_of L)
theorem vt_cmpN {i : Nat} {op : CmpOp} {r : R2} {r' : R2D} (ho : OpR X (compareOp op) r) (L : Lft2 r r') (ha : PE X a (tVar i)) (hb : PE X b (rOf c tb)) (hm : behindInMarks op b = false) : PT X (.Compare a [op] [b] pos) (cOf c (vB (vOpN r' i tb))) := PT.imp (pt_cmpR ho ha hb hm) fun _ _ _ => test_of (opN_of L)
theorem vt_val {e : Expr} {te : VTE} (h : PE X e (tOf c te)) (he : ∀ whole, isTrue e X.env whole = (do let v ← whole; standAt e.pos; holding [v] (truthy v)) := by intro _; rfl) : PT X e (cOf c (vB te)) := PT.imp (pt_val h he) fun σ H R q => by
  obtain ⟨F, env, n, Q, rr, q, k⟩ := q
  refine ⟨F, env, n, _, rr, q, fun v H' F' d env' n' r' u rp qd => ?_⟩
  obtain ⟨bb, rfl, qd⟩ := qd
  exact ⟨bb, rp.bl_inv, k bb H' F' env' n' r' u qd⟩
def vAnd (t u : VTT) : VTT := fun env n Q => t env n fun b env1 n1 => if b = true then u env1 n1 Q else Q false env1 n1
def vOr (t u : VTT) : VTT := fun env n Q => t env n fun b env1 n1 => if b = true then Q true env1 n1 else u env1 n1 Q
def vNot (t : VTT) : VTT := fun env n Q => t env n fun b env1 n1 => Q (!b) env1 n1
variable {tA tB : VTT} {rest : List Expr}
theorem vt_and1 (h : PT X a (cOf c tA)) : PW X (.BoolOp .And [a] pos) (cOf c tA) := pw_and1 h
theorem vt_or1 (h : PT X a (cOf c tA)) : PW X (.BoolOp .Or [a] pos) (cOf c tA) := pw_or1 h
theorem vt_and (ha : PT X a (cOf c tA)) (hb : PW X (.BoolOp .And (b :: rest) pos) (cOf c tB)) : PW X (.BoolOp .And (a :: b :: rest) pos) (cOf c (vAnd tA tB)) := PW.imp (pw_and ha hb) fun σ H R q => by
  obtain ⟨F, env, n, Q, rr, q, k⟩ := q
  refine ⟨F, env, n, _, rr, q, fun b H' F' env' n' r' u qd => ?_⟩
  cases b with
  | true => exact ⟨F', env', n', _, r', qd, fun b2 H2 F2 env2 n2 r2 u2 q2 => k b2 H2 F2 env2 n2 r2 (u.trans u2) q2⟩
  | false => exact k false H' F' env' n' r' u qd
theorem vt_or (ha : PT X a (cOf c tA)) (hb : PW X (.BoolOp .Or (b :: rest) pos) (cOf c tB)) : PW X (.BoolOp .Or (a :: b :: rest) pos) (cOf c (vOr tA tB)) := PW.imp (pw_or ha hb) fun σ H R q => by
  obtain ⟨F, env, n, Q, rr, q, k⟩ := q
  refine ⟨F, env, n, _, rr, q, fun b H' F' env' n' r' u qd => ?_⟩
  cases b with
  | false => exact ⟨F', env', n', _, r', qd, fun b2 H2 F2 env2 n2 r2 u2 q2 => k b2 H2 F2 env2 n2 r2 (u.trans u2) q2⟩
  | true => exact k true H' F' env' n' r' u qd
theorem vt_not (ha : PT X a (cOf c tA)) : PT X (.UnaryOp .Not a pos) (cOf c (vNot tA)) := PT.imp (pt_not ha) fun σ H R q => by
  obtain ⟨F, env, n, Q, rr, q, k⟩ := q
  exact ⟨F, env, n, _, rr, q, fun b H' F' env' n' r' u qd => k (!b) H' F' env' n' r' u qd⟩
/-- and, or, not as values -/
def vAndV (ta tb : VTE) : VTE := fun env n Q => ta env n fun d env1 n1 => ∃ b, d = .bl b ∧ if b = true then tb env1 n1 Q else Q (.bl false) env1 n1
def vOrV (ta tb : VTE) : VTE := fun env n Q => ta env n fun d env1 n1 => ∃ b, d = .bl b ∧ if b = true then Q (.bl true) env1 n1 else tb env1 n1 Q
def vNotV (ta : VTE) : VTE := fun env n Q => ta env n fun d env1 n1 => ∃ b, d = .bl b ∧ Q (.bl (!b)) env1 n1
theorem ve_one {op} (h : PE X a (tOf c ta)) : PE X (.BoolOp op [a] pos) (tOf c ta) := pe_one h
theorem ve_and (ha : PE X a (tOf c ta)) (hb : PE X (.BoolOp .And (b :: rest) pos) (tOf c tb)) : PE X (.BoolOp .And (a :: b :: rest) pos) (tOf c (vAndV ta tb)) := PE.imp (pe_and ha hb) fun σ H R q => by
  obtain ⟨F, env, n, Q, rr, q, k⟩ := q
  refine ⟨F, env, n, _, rr, q, fun v H' F' d env' n' r' u rp qd => ?_⟩
  obtain ⟨bb, rfl, qd⟩ := qd
  refine ⟨bb, rp.bl_inv, ?_⟩
  cases bb with
  | true => exact ⟨F', env', n', _, r', qd, fun v2 H2 F2 d2 env2 n2 r2 u2 rp2 q2 => k v2 H2 F2 d2 env2 n2 r2 (u.trans u2) rp2 q2⟩
  | false => exact k _ H' F' _ env' n' r' u (.bl false) qd
theorem ve_or (ha : PE X a (tOf c ta)) (hb : PE X (.BoolOp .Or (b :: rest) pos) (tOf c tb)) : PE X (.BoolOp .Or (a :: b :: rest) pos) (tOf c (vOrV ta tb)) := PE.imp (pe_or ha hb) fun σ H R q => by
  obtain ⟨F, env, n, Q, rr, q, k⟩ := q
  refine ⟨F, env, n, _, rr, q, fun v H' F' d env' n' r' u rp qd => ?_⟩
  obtain ⟨bb, rfl, qd⟩ := qd
  refine ⟨bb, rp.bl_inv, ?_⟩
  cases bb with
  | false => exact ⟨F', env', n', _, r', qd, fun v2 H2 F2 d2 env2 n2 r2 u2 rp2 q2 => k v2 H2 F2 d2 env2 n2 r2 (u.trans u2) rp2 q2⟩
  | true => exact k _ H' F' _ env' n' r' u (.bl true) qd
theorem ve_not (ha : PE X a (tOf c ta)) : PE X (.UnaryOp .Not a pos) (tOf c (vNotV ta)) := PE.imp (pe_not ha) fun σ H R q => by
  obtain ⟨F, env, n, Q, rr, q, k⟩ := q
  refine ⟨F, env, n, _, rr, q, fun v H' F' d env' n' r' u rp qd => ?_⟩
  obtain ⟨bb, rfl, qd⟩ := qd
  exact ⟨bb, rp.bl_inv, k _ H' F' _ env' n' r' u (.bl _) qd⟩
def vIfE (t : VTT) (ta tb : VTE) : VTE := fun env n Q => t env n fun b env1 n1 => if b = true then ta env1 n1 Q else tb env1 n1 Q
theorem ve_ifE {e : Expr} (hc : PT X e (cOf c tA)) (ha : PE X a (tOf c ta)) (hb : PE X b (tOf c tb)) : PE X (.IfExp e a b pos) (tOf c (vIfE tA ta tb)) := PE.imp (pe_ifExp hc ha hb) fun σ H R q => by
  obtain ⟨F, env, n, Q, rr, q, k⟩ := q
  refine ⟨F, env, n, _, rr, q, fun bb H' F' env' n' r' u qd => ?_⟩
  cases bb with
  | true => exact ⟨F', env', n', _, r', qd, fun v2 H2 F2 d2 env2 n2 r2 u2 rp2 q2 => k v2 H2 F2 d2 env2 n2 r2 (u.trans u2) rp2 q2⟩
  | false => exact ⟨F', env', n', _, r', qd, fun v2 H2 F2 d2 env2 n2 r2 u2 rp2 q2 => k v2 H2 F2 d2 env2 n2 r2 (u.trans u2) rp2 q2⟩
/-! ### arguments -/
def vNil : VTA := fun env n Q => Q [] env n
def vCons (te : VTE) (ta : VTA) : VTA := fun env n Q => te env n fun d env1 n1 => ta env1 n1 fun ds env2 n2 => Q (d :: ds) env2 n2
/-- a name whose thing is read when all stand -/
def vConsR (i : Nat) (ta : VTA) : VTA := fun env n Q => (∃ d0, rdS env i d0) ∧ ta env n fun ds env2 n2 => ∃ d, rdS env2 i d ∧ Q (d :: ds) env2 n2
variable {te : VTE} {tas : VTA} {e : Expr} {es : List Expr}
theorem va_nil : PA X [] (aOf c vNil) := PA.imp pa_nil fun σ H R ⟨F, env, n, Q, rr, q, k⟩ => k [] H F [] env n rr (Up.refl F) .nil q
theorem va_cons (ha : PE X e (tOf c te)) (hr : PA X es (aOf c tas)) (hs : starEach (e :: es) X.env = (false, eval e X.env) :: starEach es X.env := by rfl) : PA X (e :: es) (aOf c (vCons te tas)) := PA.imp (pa_cons ha hr hs) fun σ H R ⟨F, env, n, Q, rr, q, k⟩ =>
  ⟨F, env, n, _, rr, q, fun v H1 F1 d env1 n1 r1 u1 p1 q1 => ⟨F1, env1, n1, _, r1, q1, fun vs H2 F2 ds env2 n2 r2 u2 p2 q2 => k _ H2 F2 _ env2 n2 r2 (u1.trans u2) (.cons (p1.up u2) p2) q2⟩⟩
theorem vb_of (h : PA X es (aOf c tas)) : PA X es (bOf c tas) := PA.imp h fun σ H R ⟨F, env, n, Q, rr, q, k⟩ => ⟨F, env, n, _, rr, q, fun vs H2 F2 ds env2 n2 r2 u2 p2 q2 => k _ H2 F2 F2 _ env2 n2 r2 u2 r2.gx p2 q2⟩
theorem vb_nil : PA X [] (bOf c vNil) := vb_of va_nil
theorem vb_cons (ha : PE X e (tOf c te)) (hr : PA X es (bOf c tas)) (hs : starEach (e :: es) X.env = (false, eval e X.env) :: starEach es X.env := by rfl) : PA X (e :: es) (bOf c (vCons te tas)) := PA.imp (pa_cons ha hr hs) fun σ H R ⟨F, env, n, Q, rr, q, k⟩ =>
  ⟨F, env, n, _, rr, q, fun v H1 F1 d env1 n1 r1 u1 p1 q1 => ⟨F1, env1, n1, _, r1, q1, fun vs H2 F2 G ds env2 n2 r2 u2 g p2 q2 => k _ H2 F2 G _ env2 n2 r2 (u1.trans u2) g (.cons ((p1.up u2).up g.u1) p2) q2⟩⟩
theorem vb_rd {i : Nat} (ha : PE X e (tVar i)) (hr : PA X es (bOf c tas)) (hs : starEach (e :: es) X.env = (false, eval e X.env) :: starEach es X.env := by rfl) : PA X (e :: es) (bOf c (vConsR i tas)) := PA.imp (pa_cons ha hr hs) fun σ H R ⟨F, env, n, Q, rr, ⟨⟨d0, e0⟩, q⟩, k⟩ => by
  obtain ⟨v0, _, ev, _⟩ := rr.rdS rr.gx e0
  refine ⟨v0, ev, F, env, n, _, rr, q, fun vs H2 F2 G ds env2 n2 r2 u2 g p2 q2 => ?_⟩
  obtain ⟨d, ed, q2⟩ := q2
  obtain ⟨v1, G', ev1, g', ug, pd⟩ := r2.rdS g ed
  rw [ev] at ev1
  cases ev1
  exact k _ H2 F2 G' _ env2 n2 r2 u2 g' (.cons pd (p2.up ug)) q2
/-! ### displays -/
theorem small1k {n : Nat} (h : n ≤ 1000) : n ≤ sizeLine := Nat.le_of_lt (small1000 h)
def vTup (ta : VTA) : VTE := fun env n Q => ta env n fun ds env1 n1 => ds.length ≤ 1000 ∧ Q (.tup ds) env1 n1
def vLst (ta : VTA) : VTN := fun env n Q => ta env n fun ds env1 n1 => ds.length ≤ 1000 ∧ Q (.lst ds) env1 n1
theorem ve_tup {x1} (h : PA X es (aOf c tas)) : PE X (.Tuple es x1 pos) (tOf c (vTup tas)) := PE.imp (pe_tup h) fun σ H R ⟨F, env, n, Q, rr, q, k⟩ => ⟨F, env, n, _, rr, q, fun vs H2 F2 ds env2 n2 r2 u2 p2 q2 => by
  refine ⟨small1k (by rw [p2.len]; exact q2.1), fun p np => ?_⟩
  obtain ⟨_, _, nf⟩ := r2.new0 np
  exact k _ _ (upd F2 p (.tup vs)) _ env2 n2 (r2.layF np _) (u2.trans (up_lay nf)) (.tup upd_same (p2.up (up_lay nf))) q2.2⟩
theorem nOf_new {σ : L2.St} {H F : Hp} {env : Ev} {n : Nat} {p : Addr} {o : HO} {kk : Con} {F0 : Hp} {Q : Con → Ev → Nat → Prop} {R : VK} (rr : Rel c F H σ env n) (u : Up F0 F) (np : H p = none) (w : OwOk F p o kk) (q : Q kk env n)
    (k : ∀ a o H' F' kk env' n', Rel c F' H' σ env' n' → Up F0 F' → F' a = none → c.H0 a = none → ¬ c.am.sp a → H' a = some o → OwOk F' a o kk → (∀ (j : Nat) k', env'[j]? = some (.ow k') → σ[j]? ≠ some (some (.ref a))) → Q kk env' n' → R (.ref a) H') : R (.ref p) (upd H p o) := by
  obtain ⟨h0, ns, nf⟩ := rr.new0 np
  refine k p o (upd H p o) F kk env n (rr.lay np o) u nf h0 ns upd_same w (fun j k' e z => ?_) q
  obtain ⟨a2, o2, g1, _, _, _, g5, _⟩ := rr.sl j _ e
  rw [g1] at z
  cases z
  rw [g5] at np
  cases np
theorem vn_lst (h : PA X es (aOf c tas)) : PE X (.List es pos) (nOf c (vLst tas)) := PE.imp (pe_lst h) fun σ H R ⟨F, env, n, Q, rr, q, k⟩ => ⟨F, env, n, _, rr, q, fun vs H2 F2 ds env2 n2 r2 u2 p2 q2 =>
  ⟨small1k (by rw [p2.len]; exact q2.1), fun p np => nOf_new r2 u2 np (kk := .lst ds) ⟨vs, rfl, p2⟩ q2.2 k⟩⟩
end
end VL
namespace VL
open PySem PySem.Spec PyProof.Rows L2 HM
section
variable {c : Fc} {X : Cx} {a b e : Expr} {es : List Expr} {te ta tb : VTE} {tas : VTA} {pos : Pos}
/-! ### statements -/
def vNext : VTS := fun V env n => V.nx env n
def vSeq (t u : VTS) : VTS := fun V env n => t { V with nx := u V } env n
theorem EnOk.seq {F : Hp} {V : VEn} {D : Ends} {u : VTS} {u' : TS} (h : EnOk c F V D) (k : ∀ F' H' σ' env' n', Rel c F' H' σ' env' n' → Up F F' → u V env' n' → u' D σ' H') : EnOk c F { V with nx := u V } { D with nx := u' D } :=
  ⟨fun F' H' σ' env' n' r w q => k F' H' σ' env' n' r w q, h.rt, h.bk, h.ct⟩
variable {st : Stmt} {rest body els : List Stmt} {t u : VTS}
theorem vss_nil : PSs X [] (sOf c vNext) := PSs.imp pss_nil fun D σ H ⟨F, env, n, V, r, q, k⟩ => k.nx F H σ env n r (Up.refl F) q
theorem vss_cons (h1 : PS X st (sOf c t)) (h2 : PSs X rest (sOf c u)) : PSs X (st :: rest) (sOf c (vSeq t u)) := PSs.imp (pss_cons h1 h2) fun D σ H ⟨F, env, n, V, r, q, k⟩ =>
  ⟨F, env, n, _, r, q, k.seq fun F' H' σ' env' n' r' w q' => ⟨F', env', n', V, r', q', k.up w⟩⟩
theorem vss_one (h1 : PS X st (sOf c t)) : PSs X [st] (sOf c t) := pss_one h1
theorem vs_pass : PS X (.Pass pos) (sOf c vNext) := PS.imp ps_pass fun D σ H ⟨F, env, n, V, r, q, k⟩ => k.nx F H σ env n r (Up.refl F) q
def vBreak : VTS := fun V env n => V.bk env n
def vCont : VTS := fun V env n => V.ct env n
theorem vs_break : PS X (.Break pos) (sOf c vBreak) := PS.imp ps_break fun D σ H ⟨F, env, n, V, r, q, k⟩ => k.bk F H σ env n r (Up.refl F) q
theorem vs_continue : PS X (.Continue pos) (sOf c vCont) := PS.imp ps_continue fun D σ H ⟨F, env, n, V, r, q, k⟩ => k.ct F H σ env n r (Up.refl F) q
def vNever : VTS := fun _ _ _ => False
theorem vs_never : PS X st (sOf c vNever) := PS.imp ps_never fun D σ H ⟨F, env, n, V, r, q, k⟩ => q
theorem vss_never {sts : List Stmt} : PSs X sts (sOf c vNever) := PSs.imp pss_never fun D σ H ⟨F, env, n, V, r, q, k⟩ => q
def vDrop (te : VTE) : VTS := fun V env n => te env n fun _ env1 n1 => V.nx env1 n1
theorem vs_expr (he : PE X e (tOf c te)) (hs : swapsWith e none pos.line X.env = pure false := by rfl) : PS X (.Expr e pos) (sOf c (vDrop te)) := PS.imp (ps_expr he hs) fun D σ H ⟨F, env, n, V, r, q, k⟩ =>
  ⟨F, env, n, _, r, q, fun v H' F' d env' n' r' u rp qd => k.nx F' H' σ env' n' r' u qd⟩
def vRet (te : VTE) : VTS := fun V env n => te env n fun d _ n1 => V.rt d n1
theorem vs_ret (he : PE X e (tOf c te)) : PS X (.Return (some e) pos) (sOf c (vRet te)) := PS.imp (ps_ret he) fun D σ H ⟨F, env, n, V, r, q, k⟩ =>
  ⟨F, env, n, _, r, q, fun v H' F' d env' n' r' u rp qd => k.rt F' H' σ env' n' v d r' u rp qd⟩
def vIf (tc : VTT) (t u : VTS) : VTS := fun V env n => tc env n fun b env1 n1 => if b = true then t V env1 n1 else u V env1 n1
theorem vs_if {tc : VTT} (hc : PT X e (cOf c tc)) (ha : PSs X body (sOf c t)) (hb : PSs X els (sOf c u)) : PS X (.If e body els pos) (sOf c (vIf tc t u)) := PS.imp (ps_if hc ha hb) fun D σ H ⟨F, env, n, V, r, q, k⟩ =>
  ⟨F, env, n, _, r, q, fun b H' F' env' n' r' w qd => by
    cases b with
    | true => exact ⟨F', env', n', V, r', qd, k.up w⟩
    | false => exact ⟨F', env', n', V, r', qd, k.up w⟩⟩
/-! targets -/
def vgName (i : Nat) : VTG := fun d env n Q => Q (env.set i (.fz d)) n
theorem vg_name {i : Nat} {x : Str} (h : PG X (.Name x pos) (gName i)) : PG X (.Name x pos) (gOf c (vgName i)) := PG.imp h fun v σ H R ⟨F, env, n, d, Q, r, rp, q, k⟩ => k _ H F _ n (r.setF rp) (Up.refl F) q
def vgNil : VTGs := fun ds env n Q => ds = [] ∧ Q env n
def vgCons (t : VTG) (u : VTGs) : VTGs := fun ds env n Q => ∃ d r, ds = d :: r ∧ t d env n fun env' n' => u r env' n' Q
theorem vgs_nil : PGs X [] (gsOf c vgNil) := PGs.imp pgs_nil fun v σ H R ⟨F, env, n, ds, Q, r, rp, ⟨e, q⟩, k⟩ => by
  subst e
  cases rp
  exact ⟨rfl, k _ H F _ n r (Up.refl F) q⟩
theorem vgs_cons {g : VTG} {gs : VTGs} (h1 : PG X e (gOf c g)) (h2 : PGs X es (gsOf c gs)) (hs : (assignEach (e :: es) X.env).map (·.2) = assign e X.env :: (assignEach es X.env).map (·.2) := by rfl) : PGs X (e :: es) (gsOf c (vgCons g gs)) := PGs.imp (pgs_cons h1 h2 hs) fun v σ H R ⟨F, env, n, ds, Q, r, rp, ⟨d, ds', e, q⟩, k⟩ => by
  subst e
  cases rp with
  | cons p ps => exact ⟨_, _, rfl, F, env, n, d, _, r, p, q, fun σ' H' F' env' n' r' w q' => ⟨F', env', n', ds', _, r', ps.up w, q', fun σ2 H2 F2 env2 n2 r2 w2 q2 => k σ2 H2 F2 env2 n2 r2 (w.trans w2) q2⟩⟩
def vgTup (m : Nat) (g : VTGs) : VTG := fun d env n Q => ∃ ds, d = .tup ds ∧ ds.length = m ∧ g ds env n Q
theorem vg_tup {k m : Nat} {gs : VTGs} (hc : X.calm = true) (h : PGs X es (gsOf c gs)) (hn : (assignEach es X.env).length = m := by rfl) (hst : (assignEach es X.env).findIdx? (·.1) = none := by rfl) : PG X (.Tuple es k pos) (gOf c (vgTup m gs)) := PG.imp (pg_tup hc h hn hst) fun v σ H R ⟨F, env, n, d, Q, r, rp, ⟨ds, e, hl, q⟩, k⟩ => by
  subst e
  obtain ⟨a, xs, rfl, hF, rx⟩ := rp.tup_inv
  exact ⟨a, xs, rfl, .inl (.inl (r.sub _ _ hF)), by rw [rx.len, hl], F, env, n, ds, Q, r, rx, q, k⟩
def vAsg (te : VTE) (g : VTG) : VTS := fun V env n => te env n fun d env1 n1 => g d env1 n1 V.nx
theorem asg_of {g : VTG} {σ : L2.St} {H : Hp} {D : Ends} (h : sOf c (vAsg te g) D σ H) : tAsg (tOf c te) (gOf c g) D σ H := by
  obtain ⟨F, env, n, V, r, q, k⟩ := h
  exact ⟨F, env, n, _, r, q, fun v H' F' d env' n' r' w rp qd => ⟨F', env', n', d, V.nx, r', rp, qd, fun σ2 H2 F2 env2 n2 r2 w2 q2 => k.nx F2 H2 σ2 env2 n2 r2 (w.trans w2) q2⟩⟩
theorem vs_asg {tg : Expr} {g : VTG} (he : PE X e (tOf c te)) (hg : PG X tg (gOf c g)) (hs : swapsWithSole [tg] e pos.line X.env = pure false := by rfl) (hw : swappedStores [tg] e X.env = pure none := by rfl)
    (h1 : (assignEach [tg] X.env).map (·.2) = [assign tg X.env] := by rfl) : PS X (.Assign [tg] e pos) (sOf c (vAsg te g)) := PS.imp (ps_asg he hg hs hw h1) fun D σ H => asg_of
/-- x = e -/
def vSet (i : Nat) (te : VTE) : VTS := fun V env n => te env n fun d env1 n1 => V.nx (env1.set i (.fz d)) n1
theorem set_of {i : Nat} {σ : L2.St} {H : Hp} {D : Ends} (h : sOf c (vSet i te) D σ H) : tAsg (tOf c te) (gName i) D σ H := by
  obtain ⟨F, env, n, V, r, q, k⟩ := h
  exact ⟨F, env, n, _, r, q, fun v H' F' d env' n' r' w rp qd => k.nx F' H' _ _ n' (r'.setF rp) w qd⟩
theorem vs_set {i : Nat} {x : Str} {pos' : Pos} (hN : X.N.Nodup) (hi : X.N[i]? = some x) (hx : Loc X.env.scope x) (he : PE X e (tOf c te)) (hs : swapsWith e (some (.Name x pos')) pos.line X.env = pure false := by rfl) (hf : X.fn x = true ∨ X.env.scope.names.lookup x = some .local := by first | exact .inl rfl | exact .inr rfl | assumption) :
    PS X (.Assign [.Name x pos'] e pos) (sOf c (vSet i te)) := PS.imp (ps_set hN hi hx he hs hf) fun D σ H => set_of
/-- x = a new thing -/
def vSetN (i : Nat) (tn : VTN) : VTS := fun V env n => tn env n fun k env1 n1 => V.nx (env1.set i (.ow k)) n1
theorem setN_of {i : Nat} {tn : VTN} {σ : L2.St} {H : Hp} {D : Ends} (h : sOf c (vSetN i tn) D σ H) : tAsg (nOf c tn) (gName i) D σ H := by
  obtain ⟨F, env, n, V, r, q, k⟩ := h
  exact ⟨F, env, n, _, r, q, fun a o H' F' kk env' n' r' w hF h0 ns hH ow ha qd => k.nx F' H' _ _ n' (r'.setO hF h0 ns hH ow ha) w qd⟩
theorem vs_setN {i : Nat} {tn : VTN} {x : Str} {pos' : Pos} (hN : X.N.Nodup) (hi : X.N[i]? = some x) (hx : Loc X.env.scope x) (he : PE X e (nOf c tn)) (hs : swapsWith e (some (.Name x pos')) pos.line X.env = pure false := by rfl) (hf : X.fn x = true ∨ X.env.scope.names.lookup x = some .local := by first | exact .inl rfl | exact .inr rfl | assumption) :
    PS X (.Assign [.Name x pos'] e pos) (sOf c (vSetN i tn)) := PS.imp (ps_set hN hi hx he hs hf) fun D σ H => setN_of
/-- x += e, whole numbers -/
def vAugI (i : Nat) (f : Int → Int → Int) (te : VTE) : VTS := fun V env n => ∃ x, env[i]? = some (.fz (.int x)) ∧ te env n fun d env1 n1 => ∃ y, d = .int y ∧ V.nx (env1.set i (.fz (.int (f x y)))) n1
theorem vs_augI {i : Nat} {x : Str} {op : Operator} {f : Int → Int → Int} {pos' : Pos} (hN : X.N.Nodup) (hi : X.N[i]? = some x) (hx : Loc X.env.scope x) (he : PE X e (tOf c te)) (ho : PIp X op (ipI f)) (hf : X.fn x = true ∨ X.env.scope.names.lookup x = some .local := by first | exact .inl rfl | exact .inr rfl | assumption) :
    PS X (.AugAssign (.Name x pos') op e pos) (sOf c (vAugI i f te)) := PS.imp (ps_aug hN hi hx he ho hf) fun D σ H ⟨F, env, n, V, r, ⟨x, ex, q⟩, k⟩ => by
  obtain ⟨v, e2, rp⟩ := r.sl i _ ex
  rw [rp.int_inv] at e2
  refine ⟨_, e2, F, env, n, _, r, q, fun v H' F' d env' n' r' w rp qd => ?_⟩
  obtain ⟨y, rfl, qd⟩ := qd
  exact ⟨_, _, rfl, rp.int_inv, k.nx F' H' _ _ n' (r'.setF (.int _)) w qd⟩
/-! ### while -/
def vWhile (tc : VTT) (tb : VTS) : VTS := fun V env n => ∃ W : Nat → Ev → Nat → Prop, (∃ m, W m env n) ∧ ∀ m env n, W m env n →
  tc env n fun b env1 n1 => if b = true then tb { nx := fun e' n' => ∃ m', m' < m ∧ W m' e' n', ct := fun e' n' => ∃ m', m' < m ∧ W m' e' n', bk := V.nx, rt := V.rt } env1 n1 else V.nx env1 n1
theorem vs_while {tc : VTT} {tb : VTS} (hp : PassesOwn (model X.prog X.w) X.A X.env X.xe) (hc : PT X e (cOf c tc)) (hb : PSs X body (sOf c tb)) : PS X (.While e body [] pos) (sOf c (vWhile tc tb)) := PS.imp (ps_while hp hc hb) fun D σ H ⟨F, env, n, V, r, ⟨W, ⟨m0, w0⟩, turn⟩, k⟩ => by
  refine ⟨fun m σ H => ∃ F' env n, Rel c F' H σ env n ∧ Up F F' ∧ W m env n, ⟨m0, F, env, n, r, Up.refl F, w0⟩, ?_⟩
  rintro m σ1 H1 ⟨F1, env1, n1, r1, u1, w1⟩
  refine ⟨F1, env1, n1, _, r1, turn m env1 n1 w1, fun b H2 F2 env2 n2 r2 u2 q2 => ?_⟩
  cases b with
  | true => exact ⟨fun σ' H' => ∃ m', m' < m ∧ ∃ F' env n, Rel c F' H' σ' env n ∧ Up F F' ∧ W m' env n, fun σ' H' h => h, F2, env2, n2, _, r2, q2,
      ⟨fun F3 H3 σ3 env3 n3 r3 u3 q3 => let ⟨m', hm, w'⟩ := q3; ⟨m', hm, F3, env3, n3, r3, (u1.trans u2).trans u3, w'⟩, (k.up (u1.trans u2)).rt, (k.up (u1.trans u2)).nx, fun F3 H3 σ3 env3 n3 r3 u3 q3 => let ⟨m', hm, w'⟩ := q3; ⟨m', hm, F3, env3, n3, r3, (u1.trans u2).trans u3, w'⟩⟩⟩
  | false => exact k.nx F2 H2 σ1 env2 n2 r2 (u1.trans u2) q2
/-! ### for -/
def vFor (wi : VTI) (g : VTG) (tb : VTS) : VTS := fun V env n => wi env n fun xs env1 n1 => ∃ P : Nat → Ev → Nat → Prop, P 0 env1 n1 ∧
  (∀ i x env n, xs[i]? = some x → P i env n → g x env n fun env2 n2 => tb { nx := P (i + 1), ct := P (i + 1), bk := V.nx, rt := V.rt } env2 n2) ∧ ∀ env n, P xs.length env n → V.nx env n
theorem vs_for {tg iter : Expr} {wi : VTI} {g : VTG} {tb : VTS} (hp : PassesOwn (model X.prog X.w) X.A X.env X.xe) (hc : X.calm = true) (hi : PI X tg iter (iOf c wi)) (hg : PG X tg (gOf c g)) (hb : PSs X body (sOf c tb))
    (hs : ∀ x, foldedSetIterable iter X.env x = pure x := by intro _; rfl) : PS X (.For tg iter body [] pos) (sOf c (vFor wi g tb)) := PS.imp (ps_for hp hc hi hg hb hs) fun D σ H ⟨F, env, n, V, r, q, k⟩ => by
  refine ⟨F, env, n, _, r, q, fun J H1 F1 xs env1 n1 r1 u1 wk q1 => ?_⟩
  obtain ⟨P, p0, turn, fin⟩ := q1
  refine ⟨fun i m σ H => m = xs.length - i ∧ i ≤ xs.length ∧ ∃ F' env n, Rel c F' H σ env n ∧ Up F1 F' ∧ P i env n, ⟨_, rfl, Nat.zero_le _, F1, env1, n1, r1, Up.refl F1, p0⟩, ?_⟩
  rintro i m σ2 H2 ⟨rfl, hi, F2, env2, n2, r2, u2, p2⟩
  obtain ⟨wg, ws⟩ := wk c rfl F2 H2 σ2 env2 n2 r2 u2 i
  by_cases hlt : i < xs.length
  · obtain ⟨go, yl⟩ := wg hlt
    refine .inr ⟨go, fun σ' H' => ∃ F' env n, Rel c F' H' σ' env n ∧ Up F1 F' ∧ P (i + 1) env n, fun σ' H' h => ⟨xs.length - (i + 1), by omega, rfl, hlt, h⟩, fun x H3 y => ?_⟩
    obtain ⟨F3, d, r3, u3, ed, rd⟩ := yl x H3 y
    refine ⟨F3, env2, n2, d, _, r3, rd, turn i d env2 n2 ed p2, fun σ4 H4 F4 env4 n4 r4 u4 q4 => ?_⟩
    have u14 := (u2.trans u3).trans u4
    exact ⟨F4, env4, n4, _, r4, q4, ⟨fun F5 H5 σ5 env5 n5 r5 u5 q5 => ⟨F5, env5, n5, r5, u14.trans u5, q5⟩, (k.up (u1.trans u14)).rt, (k.up (u1.trans u14)).nx, fun F5 H5 σ5 env5 n5 r5 u5 q5 => ⟨F5, env5, n5, r5, u14.trans u5, q5⟩⟩⟩
  · have e : i = xs.length := by omega
    subst e
    exact .inl ⟨ws (Nat.le_refl _), k.nx F2 H2 σ2 env2 n2 r2 (u1.trans u2) (fin env2 n2 p2)⟩
/-! what is walked -/
def viSeq (te : VTE) : VTI := fun env n Q => te env n fun d env1 n1 => ∃ ds, (d = .lst ds) ∧ Q ds env1 n1
def viTup (te : VTE) : VTI := fun env n Q => te env n fun d env1 n1 => ∃ ds, (d = .tup ds) ∧ Q ds env1 n1
theorem wk_list {K : PySem.W.Frag} {F : Hp} {a : Addr} {xs : List V} {ds : List Dt} (h : F a = some (.lst xs)) (rx : Rps F xs ds) : Wk c.am (Itl K a) F ds := fun c _ F1 H σ env n r u i => by
  have hH : SqL K H a xs := .inl (.inl (r.sub _ _ (u _ _ h)))
  refine ⟨fun hi => ?_, fun hi => ⟨xs, hH, by rw [rx.len]; exact hi⟩⟩
  obtain ⟨v, e1, e2⟩ := rx.get (List.getElem?_eq_getElem hi)
  refine ⟨⟨xs, v, hH, e1⟩, fun x H' y => ?_⟩
  obtain ⟨rfl, y⟩ := y
  have := y xs hH
  rw [e1] at this
  cases this
  exact ⟨F1, _, r, Up.refl F1, List.getElem?_eq_getElem hi, e2.up u⟩
theorem wk_tup {K : PySem.W.Frag} {F : Hp} {a : Addr} {xs : List V} {ds : List Dt} (h : F a = some (.tup xs)) (rx : Rps F xs ds) : Wk c.am (Itt K a) F ds := fun c _ F1 H σ env n r u i => by
  have hH : SqT K H a xs := .inl (.inl (r.sub _ _ (u _ _ h)))
  refine ⟨fun hi => ?_, fun hi => ⟨xs, hH, by rw [rx.len]; exact hi⟩⟩
  obtain ⟨v, e1, e2⟩ := rx.get (List.getElem?_eq_getElem hi)
  refine ⟨⟨xs, v, hH, e1⟩, fun x H' y => ?_⟩
  obtain ⟨rfl, y⟩ := y
  have := y xs hH
  rw [e1] at this
  cases this
  exact ⟨F1, _, r, Up.refl F1, List.getElem?_eq_getElem hi, e2.up u⟩
/-- lo, lo + 1, .., n of them -/
def rngD (lo : Int) (n : Nat) : List Dt := (List.range n).map fun i : Nat => Dt.int (lo + (i : Int))
theorem wk_range {F : Hp} {lo : Int} {n : Nat} : Wk c.am (Itr lo n) F (rngD lo n) := fun c _ F1 H σ env m r u i => by
  have hl : (rngD lo n).length = n := by simp [rngD]
  refine ⟨fun hi => ?_, fun hi => by rw [hl] at hi; exact hi⟩
  rw [hl] at hi
  refine ⟨hi, fun x H' y => ?_⟩
  obtain ⟨rfl, rfl⟩ := y
  exact ⟨F1,   .int (lo + (i : Int)), r, Up.refl F1, by simp [rngD, hi], .int _⟩
theorem vi_list {tg l : Expr} (hl : PE X l (tOf c te)) : PI X tg l (iOf c (viSeq te)) := PI.imp (pi_list hl) fun σ H R ⟨F, env, n, Q, r, q, k⟩ => ⟨F, env, n, _, r, q, fun v H' F' d env' n' r' w rp qd => by
  obtain ⟨ds, rfl, qd⟩ := qd
  obtain ⟨a, xs, rfl, hF, rx⟩ := rp.lst_inv
  exact ⟨a, rfl, ⟨xs, .inl (.inl (r'.sub _ _ hF))⟩, k _ H' F' ds env' n' r' w (wk_list hF rx) qd⟩⟩
theorem vi_tup {tg l : Expr} (hl : PE X l (tOf c te)) : PI X tg l (iOf c (viTup te)) := PI.imp (pi_tup hl) fun σ H R ⟨F, env, n, Q, r, q, k⟩ => ⟨F, env, n, _, r, q, fun v H' F' d env' n' r' w rp qd => by
  obtain ⟨ds, rfl, qd⟩ := qd
  obtain ⟨a, xs, rfl, hF, rx⟩ := rp.tup_inv
  exact ⟨a, rfl, ⟨xs, .inl (.inl (r'.sub _ _ hF))⟩, k _ H' F' ds env' n' r' w (wk_tup hF rx) qd⟩⟩
def viR1 (ta : VTA) : VTI := fun env n Q => ta env n fun ds env1 n1 => ∃ j : Int, ds = [.int j] ∧ (-1000000 ≤ j ∧ j ≤ 1000000) ∧ Q (rngD 0 j.toNat) env1 n1
def viR2 (ta : VTA) : VTI := fun env n Q => ta env n fun ds env1 n1 => ∃ i j : Int, ds = [.int i, .int j] ∧ (-1000000 ≤ i ∧ i ≤ 1000000 ∧ -1000000 ≤ j ∧ j ≤ 1000000) ∧ Q (rngD i (j - i).toNat) env1 n1
theorem vi_range1 {tg : Expr} {p : Pos} (hg : Gl X "range") (hm : X.mg "range" = none) (ha : PA X [a] (bOf c tas)) (hs : starEach [a] X.env = [(false, eval a X.env)] := by rfl) : PI X tg (.Call (.Name "range" p) [a] [] pos) (iOf c (viR1 tas)) := PI.imp (pi_range1 hg hm ha hs) fun σ H R ⟨F, env, n, Q, r, q, k⟩ =>
  ⟨F, env, n, _, r, q, fun vs H' F' G ds env' n' r' w g rp qd => by
    obtain ⟨j, rfl, hj, qd⟩ := qd
    cases rp with
    | cons p ps =>
      cases ps
      rw [p.int_inv]
      exact ⟨j, rfl, by omega, by omega, k _ H' F' _ env' n' r' w wk_range qd⟩⟩
theorem vi_range2 {tg : Expr} {p : Pos} (hg : Gl X "range") (hm : X.mg "range" = none) (ha : PA X [a, b] (bOf c tas)) (hs : starEach [a, b] X.env = [(false, eval a X.env), (false, eval b X.env)] := by rfl) (hs2 : starEach [b] X.env = [(false, eval b X.env)] := by rfl) : PI X tg (.Call (.Name "range" p) [a, b] [] pos) (iOf c (viR2 tas)) := PI.imp (pi_range2 hg hm ha hs hs2) fun σ H R ⟨F, env, n, Q, r, q, k⟩ =>
  ⟨F, env, n, _, r, q, fun vs H' F' G ds env' n' r' w g rp qd => by
    obtain ⟨i, j, rfl, hj, qd⟩ := qd
    cases rp with
    | cons p ps =>
      cases ps with
      | cons p2 ps =>
        cases ps
        rw [p.int_inv, p2.int_inv]
        exact ⟨i, j, rfl, ⟨by omega, by omega, by omega, by omega⟩, k _ H' F' _ env' n' r' w wk_range qd⟩⟩
/-! ### calls of built-ins: the answer stands already, is a new list, is a new tuple -/
abbrev RCD := List Dt → (Dt → Prop) → Prop
abbrev RCN := List Dt → (Con → Prop) → Prop
abbrev RC := List V → Hp → VK → Prop
def LftC (r : RC) (r' : RCD) : Prop := ∀ (F H : Hp) vs ds (Q : Dt → Prop) (R : VK), Up F H → Rps F vs ds → r' ds Q → (∀ v d, Rp F v d → Q d → R v H) → r vs H R
def LftN (r : RC) (r' : RCN) : Prop := ∀ (F H : Hp) vs ds (Q : Con → Prop) (R : VK), Up F H → Rps F vs ds → r' ds Q → (∀ p o k, H p = none → OwOk F p o k → Q k → R (.ref p) (upd H p o)) → r vs H R
def LftT (r : RC) (r' : RCD) : Prop := ∀ (F H : Hp) vs ds (Q : Dt → Prop) (R : VK), Up F H → Rps F vs ds → r' ds Q → (∀ p xs zs, H p = none → Rps F xs zs → Q (.tup zs) → R (.ref p) (upd H p (.tup xs))) → r vs H R
def vCB (r' : RCD) (ta : VTA) : VTE := fun env n Q => ta env n fun ds env1 n1 => r' ds fun d => Q d env1 n1
def vCBR (r' : RCD) (ta : VTA) : VTE := fun env n Q => ta env n fun ds env1 n1 => r' ds fun d => flat d = true ∧ Q d env1 n1
def vCN (r' : RCN) (ta : VTA) : VTN := fun env n Q => ta env n fun ds env1 n1 => r' ds fun d => Q d env1 n1
def flatC : Con → Bool
  | .lst ds => flats ds
  | .dK kvs => flats (kvs.map (·.2))
  | .dT kvs => flats (kvs.map (·.2))
  | .set _ _ _ => true
  | .setT _ _ _ => true
def vCNR (r' : RCN) (ta : VTA) : VTN := fun env n Q => ta env n fun ds env1 n1 => r' ds fun d => flatC d = true ∧ Q d env1 n1
variable {r : RC} {r' : RCD} {rn : RCN}
theorem PrK.flat {κ : Type} {F F' : Hp} (u : ∀ a xs, F a = some (.tup xs) → F' a = some (.tup xs)) : ∀ {a : List (κ × V)} {b : List (κ × Dt)}, PrK F a b → flats (b.map (·.2)) = true → PrK F' a b
  | _, _, .nil, _ => .nil
  | _, q :: qs, .cons h t, e => by
    have e' : (VL.flat q.2 && flats (qs.map (·.2))) = true := by simpa [flats] using e
    rw [Bool.and_eq_true] at e'
    exact .cons ⟨h.1, h.2.flat u e'.1⟩ (PrK.flat u t e'.2)
theorem OwOk.flat {F F' : Hp} (u : ∀ a xs, F a = some (.tup xs) → F' a = some (.tup xs)) {a : Addr} {o : HO} : ∀ {k : Con}, OwOk F a o k → flatC k = true → OwOk F' a o k
  | .lst _, ⟨xs, e, r⟩, h => ⟨xs, e, r.flat u h⟩
  | .dK _, ⟨xs, e, r⟩, h => ⟨xs, e, PrK.flat u r h⟩
  | .dT _, ⟨xs, e, r⟩, h => ⟨xs, e, PrK.flat u r h⟩
  | .set _ _ _, e, _ => e
  | .setT _ _ _, ⟨L, e, h, r⟩, _ => ⟨L, e, h, fun p hp => u _ _ (r p hp)⟩
theorem cb_of (L : LftC r r') {σ : L2.St} {H : Hp} {R : VK} (h : tOf c (vCB r' tas) σ H R) : tCB r (aOf c tas) σ H R := by
  obtain ⟨F, env, n, Q, rr, q, k⟩ := h
  exact ⟨F, env, n, _, rr, q, fun vs H' F' ds env' n' r2 w rp qd => L F' H' vs ds _ R r2.sub rp qd fun v d rv qv => k v H' F' d env' n' r2 w rv qv⟩
theorem cbR_of (L : LftC r r') {σ : L2.St} {H : Hp} {R : VK} (h : tOf c (vCBR r' tas) σ H R) : tCB r (bOf c tas) σ H R := by
  obtain ⟨F, env, n, Q, rr, q, k⟩ := h
  exact ⟨F, env, n, _, rr, q, fun vs H' F' G ds env' n' r2 w g rp qd => L G H' vs ds _ R g.u2 rp qd fun v d rv qv => k v H' F' d env' n' r2 w (rv.flat g.tp qv.1) qv.2⟩
theorem cn_of (L : LftN r rn) {σ : L2.St} {H : Hp} {R : VK} (h : nOf c (vCN rn tas) σ H R) : tCB r (aOf c tas) σ H R := by
  obtain ⟨F, env, n, Q, rr, q, k⟩ := h
  exact ⟨F, env, n, _, rr, q, fun vs H' F' ds env' n' r2 w rp qd => L F' H' vs ds _ R r2.sub rp qd fun p o kk np ow qv => nOf_new r2 w np ow qv k⟩
theorem cnR_of (L : LftN r rn) {σ : L2.St} {H : Hp} {R : VK} (h : nOf c (vCNR rn tas) σ H R) : tCB r (bOf c tas) σ H R := by
  obtain ⟨F, env, n, Q, rr, q, k⟩ := h
  exact ⟨F, env, n, _, rr, q, fun vs H' F' G ds env' n' r2 w g rp qd => L G H' vs ds _ R g.u2 rp qd fun p o kk np ow qv => nOf_new r2 w np (ow.flat g.tp qv.1) qv.2 k⟩
theorem ct_of (L : LftT r r') {σ : L2.St} {H : Hp} {R : VK} (h : tOf c (vCB r' tas) σ H R) : tCB r (aOf c tas) σ H R := by
  obtain ⟨F, env, n, Q, rr, q, k⟩ := h
  refine ⟨F, env, n, _, rr, q, fun vs H' F' ds env' n' r2 w rp qd => L F' H' vs ds _ R r2.sub rp qd fun p xs zs np rz qv => ?_⟩
  obtain ⟨_, _, nf⟩ := r2.new0 np
  exact k _ _ (upd F' p (.tup xs)) _ env' n' (r2.layF np _) (w.trans (up_lay nf)) (.tup upd_same (rz.up (up_lay nf))) qv
theorem ctR_of (L : LftT r r') {σ : L2.St} {H : Hp} {R : VK} (h : tOf c (vCBR r' tas) σ H R) : tCB r (bOf c tas) σ H R := by
  obtain ⟨F, env, n, Q, rr, q, k⟩ := h
  refine ⟨F, env, n, _, rr, q, fun vs H' F' G ds env' n' r2 w g rp qd => L G H' vs ds _ R g.u2 rp qd fun p xs zs np rz qv => ?_⟩
  obtain ⟨_, _, nf⟩ := r2.new0 np
  exact k _ _ (upd F' p (.tup xs)) _ env' n' (r2.layF np _) (w.trans (up_lay nf)) (.tup upd_same ((rz.flat g.tp (by have := qv.1; simpa [VL.flat] using this)).up (up_lay nf))) qv.2
end
end VL
namespace VL
open PySem PySem.Spec PyProof.Rows L2 HM
/-! ### what single built-ins do, by trees -/
theorem lft_add : Lft2 (rI0 fun i j => .int (i + j)) (fun x y Q => ∃ i j, x = .int i ∧ y = .int j ∧ Q (.int (i + j))) := fun F H x y d1 d2 Q R u p1 p2 h k => by
  obtain ⟨i, j, rfl, rfl, h⟩ := h
  rw [p1.int_inv, p2.int_inv]
  exact ⟨i, j, rfl, rfl, k _ _ (.int _) h⟩
def dI0 (g : Int → Int → Dt) : R2D := fun x y Q => ∃ i j, x = .int i ∧ y = .int j ∧ Q (g i j)
def dI (C : Int → Int → Prop) (g : Int → Int → Dt) : R2D := fun x y Q => ∃ i j, x = .int i ∧ y = .int j ∧ C i j ∧ Q (g i j)
theorem lft_I0 {g : Int → Int → Int} : Lft2 (rI0 fun i j => .int (g i j)) (dI0 fun i j => .int (g i j)) := fun F H x y d1 d2 Q R u p1 p2 h k => by
  obtain ⟨i, j, rfl, rfl, h⟩ := h
  rw [p1.int_inv, p2.int_inv]
  exact ⟨i, j, rfl, rfl, k _ _ (.int _) h⟩
theorem lft_I {C : Int → Int → Prop} {g : Int → Int → Int} : Lft2 (rI C fun i j => .int (g i j)) (dI C fun i j => .int (g i j)) := fun F H x y d1 d2 Q R u p1 p2 h k => by
  obtain ⟨i, j, rfl, rfl, hc, h⟩ := h
  rw [p1.int_inv, p2.int_inv]
  exact ⟨i, j, rfl, rfl, hc, k _ _ (.int _) h⟩
theorem lft_B0 {g : Int → Int → Bool} : Lft2 (rI0 fun i j => .bl (g i j)) (dI0 fun i j => .bl (g i j)) := fun F H x y d1 d2 Q R u p1 p2 h k => by
  obtain ⟨i, j, rfl, rfl, h⟩ := h
  rw [p1.int_inv, p2.int_inv]
  exact ⟨i, j, rfl, rfl, k _ _ (.bl _) h⟩
/-- == of two whole numbers, of two truths -/
def dEq : R2D := fun x y Q => (∃ i j, x = .int i ∧ y = .int j ∧ Q (.bl (decide (i = j)))) ∨ (∃ i j, x = .bl i ∧ y = .bl j ∧ Q (.bl (decide (i = j))))
def dNe : R2D := fun x y Q => (∃ i j, x = .int i ∧ y = .int j ∧ Q (.bl (!decide (i = j)))) ∨ (∃ i j, x = .bl i ∧ y = .bl j ∧ Q (.bl (!decide (i = j))))
theorem dec_int (i j : Int) : decide (V.int i = V.int j) = decide (i = j) := by
  by_cases e : i = j
  · subst e; simp
  · rw [decide_eq_false e, decide_eq_false fun z => e (V.int.inj z)]
theorem dec_bl (i j : Bool) : decide (V.bl i = V.bl j) = decide (i = j) := by
  by_cases e : i = j
  · subst e; simp
  · rw [decide_eq_false e, decide_eq_false fun z => e (V.bl.inj z)]
theorem lft_eq : Lft2 rEq dEq := fun F H x y d1 d2 Q R u p1 p2 h k => by
  rcases h with ⟨i, j, rfl, rfl, h⟩ | ⟨i, j, rfl, rfl, h⟩
  · rw [p1.int_inv, p2.int_inv]
    exact ⟨rfl, by rw [dec_int]; exact k _ _ (.bl _) h⟩
  · rw [p1.bl_inv, p2.bl_inv]
    exact ⟨rfl, by rw [dec_bl]; exact k _ _ (.bl _) h⟩
theorem lft_ne : Lft2 rNe dNe := fun F H x y d1 d2 Q R u p1 p2 h k => by
  rcases h with ⟨i, j, rfl, rfl, h⟩ | ⟨i, j, rfl, rfl, h⟩
  · rw [p1.int_inv, p2.int_inv]
    exact ⟨rfl, by rw [dec_int]; exact k _ _ (.bl _) h⟩
  · rw [p1.bl_inv, p2.bl_inv]
    exact ⟨rfl, by rw [dec_bl]; exact k _ _ (.bl _) h⟩
/-! data of the library -/
mutual
def py : Dt → PyData
  | .bl b => .bool b
  | .int i => .int i
  | .str x => .str x
  | .lst ds => .list (pys ds)
  | .tup ds => .tuple (pys ds)
  | _ => .none
def pys : List Dt → List PyData
  | [] => []
  | d :: ds => py d :: pys ds
end
mutual
def isPy : Dt → Bool
  | .obj _ => false
  | .ty _ => false
  | .lst ds => isPys ds
  | .tup ds => isPys ds
  | _ => true
def isPys : List Dt → Bool
  | [] => true
  | d :: ds => isPy d && isPys ds
end
mutual
theorem Rp.dp {K : PySem.W.Frag} {F H : Hp} (u : Up F H) : ∀ {v : V} {d : Dt}, Rp F v d → isPy d = true → Dp K H v (py d)
  | _, _, .non, _ => by rw [py]; exact .non; all_goals (intros; contradiction)
  | _, _, .bl b, _ => by rw [py]; exact .bl b
  | _, _, .int b, _ => by rw [py]; exact .int b
  | _, _, .str b, _ => by rw [py]; exact .str b
  | _, _, .ty b, h => by simp [isPy] at h
  | _, _, .obj b, h => by simp [isPy] at h
  | _, _, .lst e t, h => by rw [py]; exact .lst (.inl (.inl (u _ _ e))) (Rps.dps u t (by simpa [isPy] using h))
  | _, _, .tup e t, h => by rw [py]; exact .tup (.inl (.inl (u _ _ e))) (Rps.dps u t (by simpa [isPy] using h))
theorem Rps.dps {K : PySem.W.Frag} {F H : Hp} (u : Up F H) : ∀ {v : List V} {d : List Dt}, Rps F v d → isPys d = true → DpAll K H v (pys d)
  | _, _, .nil, _ => by rw [pys]; exact .nil
  | _, d :: ds, .cons e t, h => by
    have h' : (isPy d && isPys ds) = true := by simpa [isPys] using h
    rw [Bool.and_eq_true] at h'
    rw [pys]
    exact .cons (Rp.dp u e h'.1) (Rps.dps u t h'.2)
end
def dEqD : R2D := fun x y Q => isPy x = true ∧ isPy y = true ∧ SeqAt.shaped (py x) = true ∧ SeqAt.shaped (py y) = true ∧ Q (.bl (PyData.eqv (py x) (py y)))
def dNeD : R2D := fun x y Q => isPy x = true ∧ isPy y = true ∧ SeqAt.shaped (py x) = true ∧ SeqAt.shaped (py y) = true ∧ Q (.bl (!PyData.eqv (py x) (py y)))
theorem lft_eqD {K : PySem.W.Frag} : Lft2 (rEqD K) dEqD := fun F H x y d1 d2 Q R u p1 p2 ⟨h1, h2, h3, h4, h⟩ k => ⟨_, _, p1.dp u h1, p2.dp u h2, h3, h4, k _ _ (.bl _) h⟩
theorem lft_neD {K : PySem.W.Frag} : Lft2 (rNeD K) dNeD := fun F H x y d1 d2 Q R u p1 p2 ⟨h1, h2, h3, h4, h⟩ k => ⟨_, _, p1.dp u h1, p2.dp u h2, h3, h4, k _ _ (.bl _) h⟩
/-! places -/
theorem atI_rps {F : Hp} {xs : List V} {ds : List Dt} {i : Int} {d : Dt} (r : Rps F xs ds) (h : atI ds i = some d) : ∃ v, atI xs i = some v ∧ Rp F v d := by
  unfold atI at h ⊢
  rw [r.len]
  cases e : ixN ds.length i with
  | none => rw [e] at h; cases h
  | some j =>
    rw [e] at h
    obtain ⟨v, h1, h2⟩ := r.get (show ds[j]? = some d from h)
    exact ⟨v, h1, h2⟩
def dIxL : R2D := fun x y Q => ∃ ds i d, x = .lst ds ∧ y = .int i ∧ atI ds i = some d ∧ Q d
def dIxT : R2D := fun x y Q => ∃ ds i d, x = .tup ds ∧ y = .int i ∧ atI ds i = some d ∧ Q d
theorem lft_ixL {K : PySem.W.Frag} : Lft2 (rIxL K) dIxL := fun F H x y d1 d2 Q R u p1 p2 ⟨ds, i, d, e1, e2, h, q⟩ k => by
  subst e1 e2
  obtain ⟨a, xs, rfl, hF, rx⟩ := p1.lst_inv
  obtain ⟨v, h1, h2⟩ := atI_rps rx h
  exact ⟨a, xs, i, v, rfl, p2.int_inv, .inl (.inl (u _ _ hF)), h1, k _ _ h2 q⟩
theorem lft_ixT {K : PySem.W.Frag} : Lft2 (rIxT K) dIxT := fun F H x y d1 d2 Q R u p1 p2 ⟨ds, i, d, e1, e2, h, q⟩ k => by
  subst e1 e2
  obtain ⟨a, xs, rfl, hF, rx⟩ := p1.tup_inv
  obtain ⟨v, h1, h2⟩ := atI_rps rx h
  exact ⟨a, xs, i, v, rfl, p2.int_inv, .inl (.inl (u _ _ hF)), h1, k _ _ h2 q⟩
/-! in, not in, of flat things in a list or a tuple of such -/
def dIn (neg : Bool) : R2D := fun x y Q => ∃ (k : Int) (ns : List Int), x = .int k ∧ (y = .lst (ns.map Dt.int) ∨ y = .tup (ns.map Dt.int)) ∧ Q (.bl (if neg then !decide (k ∈ ns) else decide (k ∈ ns)))
theorem inV_ints (k : Int) : ∀ ns : List Int, inV (.int k) (ns.map V.int) = decide (k ∈ ns) := by
  intro ns
  induction ns with
  | nil => rfl
  | cons n ns ih =>
    have : inV (.int k) (V.int n :: ns.map V.int) = ((n == k) || inV (.int k) (ns.map V.int)) := rfl
    rw [List.map_cons, this, ih]
    by_cases h : n = k
    · subst h; simp
    · have h' : ¬ k = n := fun z => h z.symm
      simp [h, h']
theorem flat_ints (ns : List Int) : (ns.map V.int).all flatV = true := by
  rw [List.all_eq_true]
  intro x hx
  obtain ⟨n, _, rfl⟩ := List.mem_map.mp hx
  rfl
theorem lft_in {K : PySem.W.Frag} {neg : Bool} : Lft2 (rIn K neg) (dIn neg) := fun F H x y d1 d2 Q R u p1 p2 ⟨k, ns, e1, e2, q⟩ kk => by
  subst e1
  rcases e2 with rfl | rfl
  · obtain ⟨a, xs, rfl, hF, rx⟩ := p2.lst_inv
    rw [rx.of_ints] at hF
    rw [p1.int_inv]
    exact ⟨a, _, rfl, .inl (.inl (.inl (u _ _ hF))), rfl, flat_ints ns, by rw [inV_ints]; exact kk _ _ (.bl _) q⟩
  · obtain ⟨a, xs, rfl, hF, rx⟩ := p2.tup_inv
    rw [rx.of_ints] at hF
    rw [p1.int_inv]
    exact ⟨a, _, rfl, .inr (.inl (.inl (u _ _ hF))), rfl, flat_ints ns, by rw [inV_ints]; exact kk _ _ (.bl _) q⟩
/-! ### built-ins -/
def dLen : RCD := fun ds Q => ∃ zs, (ds = [.lst zs] ∨ ds = [.tup zs]) ∧ Q (.int zs.length)
theorem Rps.one {F : Hp} {vs : List V} {d : Dt} (h : Rps F vs [d]) : ∃ v, vs = [v] ∧ Rp F v d := by
  cases h with
  | cons p t => cases t; exact ⟨_, rfl, p⟩
theorem Rps.two {F : Hp} {vs : List V} {d e : Dt} (h : Rps F vs [d, e]) : ∃ v w, vs = [v, w] ∧ Rp F v d ∧ Rp F w e := by
  cases h with
  | cons p t =>
    obtain ⟨w, rfl, q⟩ := t.one
    exact ⟨_, _, rfl, p, q⟩
theorem lft_len {K : PySem.W.Frag} : LftC (fun xs H Q => ∃ p ys, xs = [.ref p] ∧ (SqL K H p ys ∨ SqT K H p ys) ∧ Q (.int ys.length) H) dLen := fun F H vs ds Q R u rp ⟨zs, h, q⟩ k => by
  rcases h with rfl | rfl
  · obtain ⟨v, rfl, p⟩ := rp.one
    obtain ⟨a, xs, rfl, hF, rx⟩ := p.lst_inv
    exact ⟨a, xs, rfl, .inl (.inl (.inl (u _ _ hF))), by rw [rx.len]; exact k _ _ (.int _) q⟩
  · obtain ⟨v, rfl, p⟩ := rp.one
    obtain ⟨a, xs, rfl, hF, rx⟩ := p.tup_inv
    exact ⟨a, xs, rfl, .inr (.inl (.inl (u _ _ hF))), by rw [rx.len]; exact k _ _ (.int _) q⟩
def dListOf : RCN := fun ds Q => ∃ zs, (ds = [.lst zs] ∨ ds = [.tup zs]) ∧ Q (.lst zs)
theorem lft_listOf {K : PySem.W.Frag} : LftN (fun xs H Q => ∃ p ys, xs = [.ref p] ∧ (SqL K H p ys ∨ SqT K H p ys) ∧ ∀ l, H l = none → Q (.ref l) (upd H l (.lst ys))) dListOf := fun F H vs ds Q R u rp ⟨zs, h, q⟩ k => by
  rcases h with rfl | rfl
  · obtain ⟨v, rfl, p⟩ := rp.one
    obtain ⟨a, xs, rfl, hF, rx⟩ := p.lst_inv
    exact ⟨a, xs, rfl, .inl (.inl (.inl (u _ _ hF))), fun l hl => k l _ (.lst zs) hl ⟨xs, rfl, rx⟩ q⟩
  · obtain ⟨v, rfl, p⟩ := rp.one
    obtain ⟨a, xs, rfl, hF, rx⟩ := p.tup_inv
    exact ⟨a, xs, rfl, .inr (.inl (.inl (u _ _ hF))), fun l hl => k l _ (.lst zs) hl ⟨xs, rfl, rx⟩ q⟩
def dTupleOf : RCD := fun ds Q => ∃ zs, ds = [.lst zs] ∧ Q (.tup zs)
theorem lft_tupleOf {K : PySem.W.Frag} : LftT (fun xs H Q => ∃ p ys, xs = [.ref p] ∧ ((SqL K H p ys ∧ ∀ l, H l = none → Q (.ref l) (upd H l (.tup ys))) ∨ (SqT K H p ys ∧ Q (.ref p) H))) dTupleOf := fun F H vs ds Q R u rp ⟨zs, h, q⟩ k => by
  subst h
  obtain ⟨v, rfl, p⟩ := rp.one
  obtain ⟨a, xs, rfl, hF, rx⟩ := p.lst_inv
  exact ⟨a, xs, rfl, .inl ⟨.inl (.inl (u _ _ hF)), fun l hl => k l xs zs hl rx q⟩⟩
/-- sorted of whole numbers -/
def dSorted : RCN := fun ds Q => ∃ ns : List Int, ds = [.lst (ns.map Dt.int)] ∧ ns.length < 64 ∧ ∀ ns' : List Int, ns'.Perm ns → ns'.Pairwise (· ≤ ·) → Q (.lst (ns'.map Dt.int))
theorem lft_sorted {K : PySem.W.Frag} : LftN (rSorted K) dSorted := fun F H vs ds Q R u rp ⟨ns, h, hl, q⟩ k => by
  subst h
  obtain ⟨v, rfl, p⟩ := rp.one
  obtain ⟨a, xs, rfl, hF, rx⟩ := p.lst_inv
  rw [rx.of_ints] at hF
  exact ⟨a, ns, rfl, .inl (.inl (u _ _ hF)), hl, fun ns' l h1 h2 h3 => k l _ (.lst (ns'.map Dt.int)) h3 ⟨_, rfl, Rps.ints ns'⟩ (q ns' h1 h2)⟩
def dAll : RCD := fun ds Q => ∃ bs : List Bool, ds = [.lst (bs.map Dt.bl)] ∧ Q (.bl (bs.all id))
theorem lft_all {K : PySem.W.Frag} : LftC (rAll K) dAll := fun F H vs ds Q R u rp ⟨ns, h, q⟩ k => by
  subst h
  obtain ⟨v, rfl, p⟩ := rp.one
  obtain ⟨a, xs, rfl, hF, rx⟩ := p.lst_inv
  rw [rx.of_bools] at hF
  exact ⟨a, ns, rfl, .inl (.inl (u _ _ hF)), k _ _ (.bl _) q⟩
def dSum : RCD := fun ds Q => ∃ ns : List Int, ds = [.lst (ns.map Dt.int)] ∧ Q (.int ns.sum)
theorem lft_sum {K : PySem.W.Frag} : LftC (rSum K) dSum := fun F H vs ds Q R u rp ⟨ns, h, q⟩ k => by
  subst h
  obtain ⟨v, rfl, p⟩ := rp.one
  obtain ⟨a, xs, rfl, hF, rx⟩ := p.lst_inv
  rw [rx.of_ints] at hF
  exact ⟨a, ns, rfl, .inl (.inl (u _ _ hF)), k _ _ (.int _) q⟩
section
variable {c : Fc} {X : Cx} {a b e : Expr} {es : List Expr} {te ta tb : VTE} {tas : VTA} {pos p : Pos} {x : Str} {r : RC} {r' : RCD} {rn : RCN} {id T : String}
theorem ve_cb (hc : CallR X (.builtin id) r) (L : LftC r r') (hg : Gl X x) (hm : X.mg x = none) (hv : bootBuiltins x = some (.builtin id)) (ha : PA X (e :: es) (aOf c tas)) (hn : x ≠ "__name__" := by decide) (hdb : (x == ("__debug__" : Str)) = false := by decide)
    (he : starEach (e :: es) X.env = (false, eval e X.env) :: starEach es X.env := by rfl) (hpl : (backTo pos (starEach es X.env)).any (·.1) = false := by rfl) : PE X (.Call (.Name x p) (e :: es) [] pos) (tOf c (vCB r' tas)) := PE.imp (pe_callB hc hg hm hv ha hn hdb he hpl) fun _ _ _ => cb_of L
theorem ve_cbR (hc : CallR X (.builtin id) r) (L : LftC r r') (hg : Gl X x) (hm : X.mg x = none) (hv : bootBuiltins x = some (.builtin id)) (ha : PA X (e :: es) (bOf c tas)) (hn : x ≠ "__name__" := by decide) (hdb : (x == ("__debug__" : Str)) = false := by decide)
    (he : starEach (e :: es) X.env = (false, eval e X.env) :: starEach es X.env := by rfl) (hpl : (backTo pos (starEach es X.env)).any (·.1) = false := by rfl) : PE X (.Call (.Name x p) (e :: es) [] pos) (tOf c (vCBR r' tas)) := PE.imp (pe_callB hc hg hm hv ha hn hdb he hpl) fun _ _ _ => cbR_of L
theorem vn_cb (hc : CallR X (.builtin id) r) (L : LftN r rn) (hg : Gl X x) (hm : X.mg x = none) (hv : bootBuiltins x = some (.builtin id)) (ha : PA X (e :: es) (aOf c tas)) (hn : x ≠ "__name__" := by decide) (hdb : (x == ("__debug__" : Str)) = false := by decide)
    (he : starEach (e :: es) X.env = (false, eval e X.env) :: starEach es X.env := by rfl) (hpl : (backTo pos (starEach es X.env)).any (·.1) = false := by rfl) : PE X (.Call (.Name x p) (e :: es) [] pos) (nOf c (vCN rn tas)) := PE.imp (pe_callB hc hg hm hv ha hn hdb he hpl) fun _ _ _ => cn_of L
theorem vn_cbR (hc : CallR X (.builtin id) r) (L : LftN r rn) (hg : Gl X x) (hm : X.mg x = none) (hv : bootBuiltins x = some (.builtin id)) (ha : PA X (e :: es) (bOf c tas)) (hn : x ≠ "__name__" := by decide) (hdb : (x == ("__debug__" : Str)) = false := by decide)
    (he : starEach (e :: es) X.env = (false, eval e X.env) :: starEach es X.env := by rfl) (hpl : (backTo pos (starEach es X.env)).any (·.1) = false := by rfl) : PE X (.Call (.Name x p) (e :: es) [] pos) (nOf c (vCNR rn tas)) := PE.imp (pe_callB hc hg hm hv ha hn hdb he hpl) fun _ _ _ => cnR_of L
theorem vn_ty (hc : CallR X (.type T) r) (L : LftN r rn) (hg : Gl X x) (hm : X.mg x = none) (hv : bootBuiltins x = some (.type T)) (ha : PA X (e :: es) (aOf c tas)) (hn : x ≠ "__name__" := by decide) (hdb : (x == ("__debug__" : Str)) = false := by decide)
    (he : starEach (e :: es) X.env = (false, eval e X.env) :: starEach es X.env := by rfl) (hpl : (backTo pos (starEach es X.env)).any (·.1) = false := by rfl) : PE X (.Call (.Name x p) (e :: es) [] pos) (nOf c (vCN rn tas)) := PE.imp (pe_callTy hc hg hm hv ha hn hdb he hpl) fun _ _ _ => cn_of L
theorem vn_tyR (hc : CallR X (.type T) r) (L : LftN r rn) (hg : Gl X x) (hm : X.mg x = none) (hv : bootBuiltins x = some (.type T)) (ha : PA X (e :: es) (bOf c tas)) (hn : x ≠ "__name__" := by decide) (hdb : (x == ("__debug__" : Str)) = false := by decide)
    (he : starEach (e :: es) X.env = (false, eval e X.env) :: starEach es X.env := by rfl) (hpl : (backTo pos (starEach es X.env)).any (·.1) = false := by rfl) : PE X (.Call (.Name x p) (e :: es) [] pos) (nOf c (vCNR rn tas)) := PE.imp (pe_callTy hc hg hm hv ha hn hdb he hpl) fun _ _ _ => cnR_of L
theorem ve_tyT (hc : CallR X (.type T) r) (L : LftT r r') (hg : Gl X x) (hm : X.mg x = none) (hv : bootBuiltins x = some (.type T)) (ha : PA X (e :: es) (aOf c tas)) (hn : x ≠ "__name__" := by decide) (hdb : (x == ("__debug__" : Str)) = false := by decide)
    (he : starEach (e :: es) X.env = (false, eval e X.env) :: starEach es X.env := by rfl) (hpl : (backTo pos (starEach es X.env)).any (·.1) = false := by rfl) : PE X (.Call (.Name x p) (e :: es) [] pos) (tOf c (vCB r' tas)) := PE.imp (pe_callTy hc hg hm hv ha hn hdb he hpl) fun _ _ _ => ct_of L
theorem ve_tyTR (hc : CallR X (.type T) r) (L : LftT r r') (hg : Gl X x) (hm : X.mg x = none) (hv : bootBuiltins x = some (.type T)) (ha : PA X (e :: es) (bOf c tas)) (hn : x ≠ "__name__" := by decide) (hdb : (x == ("__debug__" : Str)) = false := by decide)
    (he : starEach (e :: es) X.env = (false, eval e X.env) :: starEach es X.env := by rfl) (hpl : (backTo pos (starEach es X.env)).any (·.1) = false := by rfl) : PE X (.Call (.Name x p) (e :: es) [] pos) (tOf c (vCBR r' tas)) := PE.imp (pe_callTy hc hg hm hv ha hn hdb he hpl) fun _ _ _ => ctR_of L
theorem ve_tyC (hc : CallR X (.type T) r) (L : LftC r r') (hg : Gl X x) (hm : X.mg x = none) (hv : bootBuiltins x = some (.type T)) (ha : PA X (e :: es) (aOf c tas)) (hn : x ≠ "__name__" := by decide) (hdb : (x == ("__debug__" : Str)) = false := by decide)
    (he : starEach (e :: es) X.env = (false, eval e X.env) :: starEach es X.env := by rfl) (hpl : (backTo pos (starEach es X.env)).any (·.1) = false := by rfl) : PE X (.Call (.Name x p) (e :: es) [] pos) (tOf c (vCB r' tas)) := PE.imp (pe_callTy hc hg hm hv ha hn hdb he hpl) fun _ _ _ => cb_of L
/-! places of lists -/
theorem ve_ix {r : R2} {rd : R2D} (hr : IxR X r) (L : Lft2 r rd) (ha : PE X a (tOf c ta)) (hb : PE X b (tOf c tb)) (hs : PlainIx b) : PE X (.Subscript a b pos) (tOf c (vOp rd ta tb)) := PE.imp (pe_ix hr ha hb hs) fun _ _ _ => op_of L
/-- of a list of one's own -/
def vIxO (i : Nat) (tb : VTE) : VTE := fun env n Q => (∃ d0, rdS env i d0) ∧ tb env n fun y env' n' => ∃ ds k d, rdS env' i (.lst ds) ∧ y = .int k ∧ atI ds k = some d ∧ Q d env' n'
theorem Rel.rdL {F H : Hp} {σ : L2.St} {env : Ev} {n : Nat} {i : Nat} {ds : List Dt} (r : Rel c F H σ env n) (e : VL.rdS env i (.lst ds)) : ∃ a xs, σ[i]? = some (some (.ref a)) ∧ H a = some (.lst xs) ∧ Rps F xs ds := by
  rcases e with e | ⟨ds', e, h⟩
  · obtain ⟨v, e2, rp⟩ := r.sl i _ e
    obtain ⟨a, xs, rfl, hF, rx⟩ := rp.lst_inv
    exact ⟨a, xs, e2, r.sub _ _ hF, rx⟩
  · cases h
    exact r.rdOwn e
theorem ve_ixO {i : Nat} (ha : PE X a (tVar i)) (hb : PE X b (tOf c tb)) (hs : PlainIx b) : PE X (.Subscript a b pos) (tOf c (vIxO i tb)) := PE.imp (pe_ix ix_list ha hb hs) fun σ H R ⟨F, env, n, Q, r, ⟨⟨d0, e0⟩, q⟩, k⟩ => by
  obtain ⟨v0, _, ev, _⟩ := r.rdS r.gx e0
  refine ⟨v0, ev, F, env, n, _, r, q, fun y H2 F2 d2 env2 n2 r2 u2 p2 q2 => ?_⟩
  obtain ⟨ds, kk, d, ed, rfl, hat, q2⟩ := q2
  obtain ⟨a, xs, ea, hH, rx⟩ := r2.rdL ed
  rw [ev] at ea
  cases ea
  obtain ⟨v, h1, h2⟩ := atI_rps rx hat
  exact ⟨a, xs, kk, v, rfl, p2.int_inv, .inl (.inl hH), h1, k _ H2 F2 d env2 n2 r2 u2 h2 q2⟩
end
end VL
namespace VL
open PySem PySem.Spec PyProof.Rows L2 HM
/-! ### promises of defs, by trees -/
/-- from F, H to F', H': nothing that stood is written, but what runs along -/
structure Out (am : Am) (F H F' H' : Hp) (n' : Nat) : Prop where
  u : Up F F'
  s : Up F' H'
  f : ∀ a, am.sp a → F' a = none
  o : ∀ a ob, H a = some ob → NT ob → F a = none → F' a = none
  k : ∀ a o, H a = some o → ¬ am.sp a → H' a = some o
  a : am.ok n' H'
abbrev VXK := Value → Option (List (Str × V)) → Nat → Prop
abbrev VSp := List Dt → Nat → (Dt → Nat → Prop) → VXK → Prop
/-- how an exception's own dict lies -/
def XOk (H H' F' : Hp) (od : Option Addr) (fs : Option (List (Str × V))) : Prop := (od = none ∧ fs = none) ∨ ∃ d l, od = some d ∧ fs = some l ∧ H d = none ∧ H' d = some (.xd l) ∧ F' d = none
def vsp (am : Am) (sp : VSp) : Sp := fun vs H Q E => ∃ F ds n Q' E', Up F H ∧ (∀ a, am.sp a → F a = none) ∧ am.ok n H ∧ Rps F vs ds ∧ sp ds n Q' E' ∧ (∀ v F' H' d n', Out am F H F' H' n' → Rp F' v d → Q' d n' → Q v H') ∧
  ∀ cls od fs F' H' n', Out am F H F' H' n' → XOk H H' F' od fs → E' cls fs n' → E cls od H'
abbrev VFn (gd : Around → Prop) (P : Program) (w : World) (K : PySem.W.Frag) (mg : Str → Option Value) (base : Heap) (CX : CXT) (k : Nat) (f : Addr) (fd : FuncData) (ps : List Str) (am : Am) (sp : VSp) : Prop := PFn gd P w K mg base CX k f fd ps (vsp am sp)
def startE (N : List Str) (ds : List Dt) : Ev := ds.map Sl.fz ++ List.replicate (N.length - ds.length) Sl.no
theorem rel_start {am : Am} {F H : Hp} {N : List Str} {vs : List V} {ds : List Dt} {n : Nat} (u : Up F H) (hs : ∀ a, am.sp a → F a = none) (ha : am.ok n H) (r : Rps F vs ds) : Rel ⟨am, F, H⟩ F H (L2.start N vs) (startE N ds) n := by
  have hl := r.len
  refine ⟨u, hs, ha, Up.refl F, fun _ _ _ _ e => e, fun _ _ e _ => e, by simp [L2.start, startE, hl], fun i s e => ?_, fun i j a k k' _ e1 _ _ => ?_⟩
  · unfold startE at e
    by_cases hi : i < ds.length
    · rw [List.getElem?_append_left (by simpa using hi), List.getElem?_map] at e
      obtain ⟨d, hd, rfl⟩ := Option.map_eq_some_iff.mp e
      obtain ⟨v, hv, rv⟩ := r.get hd
      refine ⟨v, ?_, rv⟩
      unfold L2.start
      rw [List.getElem?_append_left (by simp; omega), List.getElem?_map, hv]
      rfl
    · rw [List.getElem?_append_right (by simp; omega)] at e
      have := List.mem_of_getElem? e
      rw [List.mem_replicate] at this
      rw [this.2]
      trivial
  · unfold startE at e1
    by_cases hi : i < ds.length
    · rw [List.getElem?_append_left (by simpa using hi), List.getElem?_map] at e1
      obtain ⟨d, hd, z⟩ := Option.map_eq_some_iff.mp e1
      cases z
    · rw [List.getElem?_append_right (by simp; omega)] at e1
      have := List.mem_of_getElem? e1
      rw [List.mem_replicate] at this
      cases this.2
theorem Rel.out {am : Am} {F0 H0 F H : Hp} {σ : L2.St} {env : Ev} {n : Nat} (r : Rel ⟨am, F0, H0⟩ F H σ env n) : Out am F0 H0 F H n := ⟨r.up0, r.sub, r.spf, r.out0, r.keep0, r.amb⟩
section
variable {P : Program} {w : World} {K : PySem.W.Frag} {mg : Str → Option Value} {base : Heap} {am : Am} {gd : Around → Prop} {x qual : Str} {st : Stmt} {f : Addr} {fd : FuncData} {N ps : List Str} {k : Nat} {sp : VSp}
/-- a def that lets no exception out -/
theorem vfn_of (F : Fun K x qual st f fd) (S : FnScope N ps (defScope st)) (len : ∀ ds n Q E, sp ds n Q E → ds.length = ps.length)
    (body : ∃ ts : VTS, (∀ (cdv : Value) (A : Around) (out : List Env) (s : Shared) (H : Hp) (E : XK) (F0 H0 : Hp), fd.code = cdv → gd A → Room k (A.deeper (envOfC qual (defScope st) s.heap.objs.size f cdv)) → PSs (cxOf CX0 P w K mg base N qual (defScope st) f cdv A out s H E).nox (defBody st) (sOf ⟨am, F0, H0⟩ ts)) ∧
      ∀ ds n Q E, sp ds n Q E → ts { nx := fun _ n' => Q .non n', rt := Q } (startE N ds) n) : VFn gd P w K mg base CX0 (k + 1) f fd ps am sp := by
  obtain ⟨ts, hts, hsp⟩ := body
  refine pfn_of F S (fun vs H Q E h => ?_) (fun cdv A out s H vs Q E hcd hgd hr h => ?_)
  · obtain ⟨F0, ds, n, Q', E', _, _, _, r, h, _⟩ := h
    rw [r.len]
    exact len ds n Q' E' h
  · obtain ⟨F0, ds, n, Q', E', u, hs, ha, r, h, kq, ke⟩ := h
    refine ⟨_, hts cdv A out s H E F0 H hcd hgd hr, F0, startE N ds, n, _, rel_start u hs ha r, hsp ds n Q' E' h, ⟨fun F' H' σ' env' n' r' _ q => kq .non F' H' .non n' r'.out .non q, fun F' H' σ' env' n' v d r' _ rv q => kq v F' H' d n' r'.out rv q, fun _ _ _ _ _ _ _ z => z.elim, fun _ _ _ _ _ _ _ z => z.elim⟩⟩
variable {X : Cx} {c : Fc} {CX : CXT} {E : XK} {p pos : Pos} {e : Expr} {es : List Expr} {tas : VTA}
/-- f(..) -/
def vCall (sp : VSp) (ta : VTA) : VTE := fun env n Q => ta env n fun ds env1 n1 => sp ds n1 (fun d n2 => Q d env1 n2) fun _ _ _ => False
/-- f(..) of things just read: a flat answer -/
def vCallR (sp : VSp) (ta : VTA) : VTE := fun env n Q => ta env n fun ds env1 n1 => sp ds n1 (fun d n2 => flat d = true ∧ Q d env1 n2) fun _ _ _ => False
theorem call_of {σ : L2.St} {H : Hp} {R : VK} (h : tOf c (vCall sp tas) σ H R) : tCall (vsp c.am sp) [] E (aOf c tas) σ H R := by
  obtain ⟨F, env, n, Q, r, q, k⟩ := h
  refine ⟨F, env, n, _, r, q, fun vs H1 F1 ds env1 n1 r1 u1 p1 q1 => ?_⟩
  show vsp c.am sp (vs ++ []) H1 R E
  rw [List.append_nil]
  exact ⟨F1, ds, n1, _, _, r1.sub, r1.spf, r1.amb, p1, q1, fun v F' H' d n' o rv qv => k v H' F' d env1 n' (r1.call o.u o.s o.f o.o o.k o.a) (u1.trans o.u) rv qv, fun _ _ _ _ _ _ _ _ z => z.elim⟩
theorem callR_of {σ : L2.St} {H : Hp} {R : VK} (h : tOf c (vCallR sp tas) σ H R) : tCall (vsp c.am sp) [] E (bOf c tas) σ H R := by
  obtain ⟨F, env, n, Q, r, q, k⟩ := h
  refine ⟨F, env, n, _, r, q, fun vs H1 F1 G ds env1 n1 r1 u1 g p1 q1 => ?_⟩
  show vsp c.am sp (vs ++ []) H1 R E
  rw [List.append_nil]
  refine ⟨G, ds, n1, _, _, g.u2, g.sp, r1.amb, p1, q1, fun v F' H' d n' o rv qv => ?_, fun _ _ _ _ _ _ _ _ z => z.elim⟩
  -- of what the callee left still, the tuples alone
  let F3 : Hp := fun a => match F' a with
    | some (.tup xs) => some (.tup xs)
    | _ => F1 a
  have tpl : ∀ a xs, F' a = some (.tup xs) → F3 a = some (.tup xs) := fun a xs e => by simp only [F3, e]
  have inv : ∀ a o, F3 a = some o → (∃ xs, o = .tup xs ∧ F' a = some (.tup xs)) ∨ F1 a = some o := fun a ob e => by
    simp only [F3] at e
    split at e
    · rename_i xs e2
      exact .inl ⟨xs, (Option.some.inj e).symm, e2⟩
    · exact .inr e
  have up : Up F1 F3 := fun a ob e => by
    have e2 := o.u _ _ (g.u1 _ _ e)
    simp only [F3]
    split
    · rename_i xs e3
      rw [e3] at e2
      exact e2
    · exact e
  have r3 : Rel c F3 H' σ env1 n' := by
    refine r1.call up (fun a ob e => ?_) (fun a ha => ?_) (fun a oa h1 nt h2 => ?_) o.k o.a
    · rcases inv a ob e with ⟨xs, rfl, e2⟩ | e2
      · exact o.s _ _ e2
      · exact o.s _ _ (o.u _ _ (g.u1 _ _ e2))
    · cases e : F3 a with
      | none => rfl
      | some ob =>
        rcases inv a ob e with ⟨xs, rfl, e2⟩ | e2
        · rw [o.f a ha] at e2; cases e2
        · rw [r1.spf a ha] at e2; cases e2
    · cases e : F3 a with
      | none => rfl
      | some ob =>
        rcases inv a ob e with ⟨xs, rfl, e2⟩ | e2
        · cases eg : G a with
          | none => rw [o.o a oa h1 nt eg] at e2; cases e2
          | some og =>
            have e3 := o.u _ _ eg
            rw [e2] at e3
            cases e3
            rw [g.tp a xs eg] at h2
            cases h2
        · rw [h2] at e2; cases e2
  exact k v H' F3 d env1 n' r3 (u1.trans up) (rv.flat tpl qv.1) qv.2
theorem ve_call (G : VFn gd X.prog X.w X.K X.mg X.base CX k f fd ps c.am sp) (hgd : gd X.A) (hr : Room k X.A) (hg : Gl X x) (hm : X.mg x = some (.ref f)) (hk : PySem.W.keepIn X.K (.ref f) = true) (hb : Binds X.K fd ps []) (hx : Passes CX X (fun _ _ _ => False)) (ha : PA X (e :: es) (aOf c tas)) (hdb : (x == ("__debug__" : Str)) = false := by decide)
    (he : starEach (e :: es) X.env = (false, eval e X.env) :: starEach es X.env := by rfl) (hpl : (backTo pos (starEach es X.env)).any (·.1) = false := by rfl) : PE X (.Call (.Name x p) (e :: es) [] pos) (tOf c (vCall sp tas)) := PE.imp (pe_callP G hgd hr hg hm hk hb hx ha hdb he hpl) fun _ _ _ => call_of
theorem ve_callR (G : VFn gd X.prog X.w X.K X.mg X.base CX k f fd ps c.am sp) (hgd : gd X.A) (hr : Room k X.A) (hg : Gl X x) (hm : X.mg x = some (.ref f)) (hk : PySem.W.keepIn X.K (.ref f) = true) (hb : Binds X.K fd ps []) (hx : Passes CX X (fun _ _ _ => False)) (ha : PA X (e :: es) (bOf c tas)) (hdb : (x == ("__debug__" : Str)) = false := by decide)
    (he : starEach (e :: es) X.env = (false, eval e X.env) :: starEach es X.env := by rfl) (hpl : (backTo pos (starEach es X.env)).any (·.1) = false := by rfl) : PE X (.Call (.Name x p) (e :: es) [] pos) (tOf c (vCallR sp tas)) := PE.imp (pe_callP G hgd hr hg hm hk hb hx ha hdb he hpl) fun _ _ _ => callR_of
end
/-! ### a thing kept beside -/
def Fc.wth (c : Fc) (D : Addr) (o : HO) : Fc := ⟨c.am, c.F0, upd c.H0 D o⟩
section
variable {c : Fc} {F H : Hp} {σ : L2.St} {env : Ev} {n : Nat} {D : Addr} {o : HO}
theorem Rel.push (r : Rel c F H σ env n) (hH : H D = some o) (hF : F D = none) (ns : ¬ c.am.sp D) (hn : ∀ (j : Nat) k', env[j]? = some (.ow k') → σ[j]? ≠ some (some (.ref D))) : Rel (c.wth D o) F H σ env n := by
  refine ⟨r.sub, r.spf, r.amb, r.up0, fun a oa h1 nt h2 => ?_, fun a ob e na => ?_, r.len, fun i s e => ?_, r.apart⟩
  · by_cases z : a = D
    · rw [z]; exact hF
    · exact r.out0 a oa (by have : upd c.H0 D o a = some oa := h1; rwa [upd_ne z] at this) nt h2
  · by_cases z : a = D
    · have e' : upd c.H0 D o a = some ob := e
      rw [z, upd_same] at e'
      cases e'
      rw [z]; exact hH
    · have e' : upd c.H0 D o a = some ob := e
      rw [upd_ne z] at e'
      exact r.keep0 a ob e' na
  · have q := r.sl i s e
    cases s with
    | no => trivial
    | fz d => exact q
    | ow k =>
      obtain ⟨a, ob, g1, g2, g3, g4, g5, g6⟩ := q
      exact ⟨a, ob, g1, g2, by show upd c.H0 D o a = none; rw [upd_ne fun z => hn i k e (by rw [g1, z])]; exact g3, g4, g5, g6⟩
theorem Rel.pop (nto : NT o) (r : Rel (c.wth D o) F H σ env n) (h0 : c.H0 D = none) (hF0 : c.F0 D = none) (ns : ¬ c.am.sp D) : Rel c F H σ env n ∧ H D = some o ∧ F D = none ∧ ∀ (j : Nat) k', env[j]? = some (.ow k') → σ[j]? ≠ some (some (.ref D)) := by
  refine ⟨⟨r.sub, r.spf, r.amb, r.up0, fun a oa h1 nt h2 => ?_, fun a ob e na => ?_, r.len, fun i s e => ?_, r.apart⟩, ?_, ?_, fun j k' e z => ?_⟩
  · refine r.out0 a oa ?_ nt h2
    show upd c.H0 D o a = some oa
    rw [upd_ne fun z => by rw [z, h0] at h1; cases h1]
    exact h1
  · refine r.keep0 a ob ?_ na
    show upd c.H0 D o a = some ob
    rw [upd_ne fun z => by rw [z, h0] at e; cases e]
    exact e
  · have q := r.sl i s e
    cases s with
    | no => trivial
    | fz d => exact q
    | ow k =>
      obtain ⟨a, ob, g1, g2, g3, g4, g5, g6⟩ := q
      refine ⟨a, ob, g1, g2, ?_, g4, g5, g6⟩
      have g3' : upd c.H0 D o a = none := g3
      by_cases z : a = D
      · rw [z]; exact h0
      · rw [upd_ne z] at g3'; exact g3'
  · exact r.keep0 D o (show upd c.H0 D o D = some o from upd_same) ns
  · exact r.out0 D o (show upd c.H0 D o D = some o from upd_same) nto hF0
  · obtain ⟨a, ob, g1, _, g3, _⟩ := r.sl j _ e
    rw [g1] at z
    cases z
    have g3' : upd c.H0 D o D = none := g3
    rw [upd_same] at g3'
    cases g3'
end
end VL
namespace VL
open PySem PySem.Spec PyProof.Rows L2 HM
/-! ### list comprehensions -/
def wipeE (env : Ev) : List Nat → Ev
  | [] => env
  | v :: vs => (wipeE env vs).set v .no
def restE (env1 env : Ev) : List Nat → Ev
  | [] => env
  | v :: vs => (restE env1 env vs).set v (env1.getD v .no)
theorem wipeE_length (env : Ev) : ∀ vs : List Nat, (wipeE env vs).length = env.length
  | [] => rfl
  | v :: vs => by unfold wipeE; rw [List.length_set, wipeE_length env vs]
theorem restE_length (env1 env : Ev) : ∀ vs : List Nat, (restE env1 env vs).length = env.length
  | [] => rfl
  | v :: vs => by unfold restE; rw [List.length_set, restE_length env1 env vs]
theorem wipeE_get {env : Ev} {i : Nat} {s : Sl} : ∀ {vs : List Nat}, (wipeE env vs)[i]? = some s → s = .no ∨ (env[i]? = some s ∧ i ∉ vs)
  | [], h => .inr ⟨h, by simp⟩
  | v :: vs, h => by
    unfold wipeE at h
    by_cases z : i = v
    · subst z
      have hl := (List.getElem?_eq_some_iff.mp h).1
      rw [List.length_set] at hl
      rw [List.getElem?_set_self hl] at h
      exact .inl (Option.some.inj h).symm
    · rw [List.getElem?_set_ne (Ne.symm z)] at h
      rcases wipeE_get h with h | ⟨h1, h2⟩
      · exact .inl h
      · exact .inr ⟨h1, by simp [z, h2]⟩
theorem restE_get {env1 env : Ev} {i : Nat} {s : Sl} : ∀ {vs : List Nat}, (restE env1 env vs)[i]? = some s → (s = env1.getD i .no ∧ i ∈ vs) ∨ (env[i]? = some s ∧ i ∉ vs)
  | [], h => .inr ⟨h, by simp⟩
  | v :: vs, h => by
    unfold restE at h
    by_cases z : i = v
    · subst z
      have hl := (List.getElem?_eq_some_iff.mp h).1
      rw [List.length_set] at hl
      rw [List.getElem?_set_self hl] at h
      exact .inl ⟨(Option.some.inj h).symm, by simp⟩
    · rw [List.getElem?_set_ne (Ne.symm z)] at h
      rcases restE_get h with ⟨h1, h2⟩ | ⟨h1, h2⟩
      · exact .inl ⟨h1, by simp [h2]⟩
      · exact .inr ⟨h1, by simp [z, h2]⟩
theorem wipe_get (σ : L2.St) (i : Nat) : ∀ vs : List Nat, (wipe σ vs)[i]? = if i ∈ vs ∧ i < σ.length then some none else σ[i]?
  | [] => by simp [wipe]
  | v :: vs => by
    unfold wipe
    by_cases z : i = v
    · subst z
      by_cases hl : i < σ.length
      · rw [List.getElem?_set_self (by rw [wipe_length]; exact hl), if_pos ⟨by simp, hl⟩]
      · rw [if_neg (fun h => hl h.2), List.getElem?_eq_none (by rw [List.length_set, wipe_length]; omega), List.getElem?_eq_none (by omega)]
    · rw [List.getElem?_set_ne (Ne.symm z), wipe_get σ i vs]
      simp [z]
theorem wipe_set {σ : L2.St} {i : Nat} {x : Option V} {vs : List Nat} (h : i ∈ vs) : wipe (σ.set i x) vs = wipe σ vs := by
  refine List.ext_getElem? fun j => ?_
  rw [wipe_get, wipe_get, List.length_set]
  by_cases z : j = i
  · subst z
    by_cases hl : j < σ.length
    · rw [if_pos ⟨h, hl⟩, if_pos ⟨h, hl⟩]
    · rw [if_neg (fun q => hl q.2), if_neg (fun q => hl q.2), List.getElem?_eq_none (by rw [List.length_set]; omega), List.getElem?_eq_none (by omega)]
  · rw [List.getElem?_set_ne (Ne.symm z)]
theorem Rel.wipe {c : Fc} {F H : Hp} {σ : L2.St} {env : Ev} {n : Nat} (r : Rel c F H σ env n) (vs : List Nat) : Rel c F H (L2.wipe σ vs) (wipeE env vs) n :=
  r.weak (by rw [wipe_length, wipeE_length, r.len]) fun i s e => by
    rcases wipeE_get e with h | ⟨h1, h2⟩
    · exact .inl h
    · exact .inr ⟨h1, wipe_out h2⟩
theorem Rel.wipe2 {c : Fc} {F H : Hp} {σ σ2 : L2.St} {env : Ev} {n : Nat} {vs : List Nat} (r : Rel c F H σ2 env n) (h : L2.wipe σ2 vs = L2.wipe σ vs) : Rel c F H (L2.wipe σ vs) (wipeE env vs) n := h ▸ r.wipe vs
theorem Rel.rest {c : Fc} {F1 H1 F H : Hp} {σ : L2.St} {env1 env : Ev} {n1 n : Nat} {vs : List Nat} (r1 : Rel c F1 H1 σ env1 n1) (u : Up F1 F) (no : ∀ i ∈ vs, ∀ k, env1[i]? ≠ some (.ow k)) (r : Rel c F H (L2.wipe σ vs) env n) : Rel c F H σ (restE env1 env vs) n := by
  have hl : σ.length = env.length := by rw [← r.len, wipe_length]
  refine ⟨r.sub, r.spf, r.amb, r.up0, r.out0, r.keep0, by rw [restE_length]; exact hl, fun i s e => ?_, fun i j a k k' hij e1 e2 e3 => ?_⟩
  · rcases restE_get e with ⟨rfl, h2⟩ | ⟨h1, h2⟩
    · cases e4 : env1[i]? with
      | none =>
        have : env1.getD i .no = .no := by rw [List.getD_eq_getElem?_getD, e4]; rfl
        rw [this]; trivial
      | some s =>
        have : env1.getD i .no = s := by rw [List.getD_eq_getElem?_getD, e4]; rfl
        rw [this]
        have q := r1.sl i s e4
        cases s with
        | no => trivial
        | fz d => exact let ⟨v, g1, g2⟩ := q; ⟨v, g1, g2.up u⟩
        | ow k => exact absurd e4 (no i h2 k)
    · have q := r.sl i s h1
      rw [wipe_out h2] at q
      exact q
  · have f : ∀ {i : Nat} {k : Con}, (restE env1 env vs)[i]? = some (.ow k) → i ∉ vs ∧ env[i]? = some (.ow k) := fun {i k} e => by
      rcases restE_get e with ⟨h1, h2⟩ | ⟨h1, h2⟩
      · cases e4 : env1[i]? with
        | none =>
          have : env1.getD i .no = .no := by rw [List.getD_eq_getElem?_getD, e4]; rfl
          rw [this] at h1; cases h1
        | some s =>
          have : env1.getD i .no = s := by rw [List.getD_eq_getElem?_getD, e4]; rfl
          rw [this] at h1
          rw [← h1] at e4
          exact absurd e4 (no i h2 k)
      · exact ⟨h2, h1⟩
    obtain ⟨n1, f1⟩ := f e1
    obtain ⟨n2, f2⟩ := f e2
    have q := r.apart i j a k k' hij f1 f2 (by rw [wipe_out n1]; exact e3)
    rw [wipe_out n2] at q
    exact q
/-- the target of a comprehension -/
def TgOk (g : TG) (gv : VTG) (vs : List Nat) : Prop := ∀ (c : Fc) F H σ env n v d (Q : Ev → Nat → Prop) (R : L2.St → Hp → Prop), Rel c F H σ env n → Rp F v d → gv d env n Q → (∀ σ' env' n', Rel c F H σ' env' n' → L2.wipe σ' vs = L2.wipe σ vs → Q env' n' → R σ' H) → g v σ H R
theorem tg_name {i : Nat} {vs : List Nat} (h : i ∈ vs) : TgOk (gName i) (vgName i) vs := fun c F H σ env n v d Q R r rp q k => k _ _ n (r.setF rp) (wipe_set h) q
theorem tg_two {K : PySem.W.Frag} {i j : Nat} {vs : List Nat} (hi : i ∈ vs) (hj : j ∈ vs) : TgOk (gTup K 2 (gCons (gName i) (gCons (gName j) gNil))) (vgTup 2 (vgCons (vgName i) (vgCons (vgName j) vgNil))) vs := fun c F H σ env n v d Q R r rp q k => by
  obtain ⟨ds, rfl, hl, d1, r1, rfl, d2, r2, rfl, rfl, q⟩ := q
  obtain ⟨a, xs, rfl, hF, rx⟩ := rp.tup_inv
  obtain ⟨v1, v2, rfl, p1, p2⟩ := rx.two
  exact ⟨a, _, rfl, .inl (.inl (r.sub _ _ hF)), rfl, _, _, rfl, _, _, rfl, rfl, k _ _ n ((r.setF p1).setF p2) (by rw [wipe_set hj, wipe_set hi]) q⟩
theorem tg_three {K : PySem.W.Frag} {i j l : Nat} {vs : List Nat} (hi : i ∈ vs) (hj : j ∈ vs) (hk : l ∈ vs) : TgOk (gTup K 3 (gCons (gName i) (gCons (gName j) (gCons (gName l) gNil)))) (vgTup 3 (vgCons (vgName i) (vgCons (vgName j) (vgCons (vgName l) vgNil)))) vs := fun c F H σ env n v d Q R r rp q k => by
  obtain ⟨ds, rfl, hl, d1, r1, rfl, d2, r2, rfl, d3, r3, rfl, rfl, q⟩ := q
  obtain ⟨a, xs, rfl, hF, rx⟩ := rp.tup_inv
  cases rx with
  | cons p1 rx =>
    obtain ⟨v2, v3, rfl, p2, p3⟩ := rx.two
    exact ⟨a, _, rfl, .inl (.inl (r.sub _ _ hF)), rfl, _, _, rfl, _, _, rfl, _, _, rfl, rfl, k _ _ n (((r.setF p1).setF p2).setF p3) (by rw [wipe_set hk, wipe_set hj, wipe_set hi]) q⟩
def vYes : VTT := fun env n Q => Q true env n
theorem vts_nil {c : Fc} {X : Cx} : PTs X [] (cOf c vYes) := ⟨fun pins s σ H Q I ⟨F, env, n, Q', r, q, k⟩ => (pts_nil (X := X)).run pins s σ H Q I (k true H F env n r (Up.refl F) q)⟩
theorem vts_one {c : Fc} {X : Cx} {e : Expr} {tt : VTT} (h : PT X e (cOf c tt)) : PTs X [e] (cOf c tt) := pts_one h
def LcBody (g : VTG) (tt : VTT) (te : VTE) (vs : List Nat) (xs : List Dt) (env1 : Ev) (n1 : Nat) (Q : Con → Ev → Nat → Prop) : Prop := (∀ i ∈ vs, ∀ k, env1[i]? ≠ some (.ow k)) ∧ xs.length ≤ 1000 ∧ ∃ P : Nat → List Dt → Ev → Nat → Prop, P 0 [] (wipeE env1 vs) n1 ∧
  (∀ i x acc env n, xs[i]? = some x → P i acc env n → g x env n fun env2 n2 => tt env2 n2 fun b env3 n3 => if b = true then te env3 n3 fun y env4 n4 => P (i + 1) (acc ++ [y]) (wipeE env4 vs) n4 else P (i + 1) acc (wipeE env3 vs) n3) ∧
  ∀ acc env n, acc.length ≤ xs.length → P xs.length acc env n → Q (.lst acc) (restE env1 env vs) n
def vLc (wi : VTI) (g : VTG) (tt : VTT) (te : VTE) (vs : List Nat) : VTN := fun env n Q => wi env n fun xs env1 n1 => LcBody g tt te vs xs env1 n1 Q
section
variable {am : Am} {F0 H0 : Hp} {X : Cx}
theorem lc_of {wi : VTI} {g : TG} {gv : VTG} {tt : VTT} {te : VTE} {vs : List Nat} {tt' : TT} {te' : TE} (hg : TgOk g gv vs) (ht : ∀ (F0 H0 : Hp) {σ H R}, cOf ⟨am, F0, H0⟩ tt σ H R → tt' σ H R) (he : ∀ (F0 H0 : Hp) {σ H R}, tOf ⟨am, F0, H0⟩ te σ H R → te' σ H R) {σ : L2.St} {H : Hp} {R : VK} (h : nOf ⟨am, F0, H0⟩ (vLc wi gv tt te vs) σ H R) :
    tLc (iOf ⟨am, F0, H0⟩ wi) g tt' te' vs σ H R := by
  obtain ⟨F, env, n, Q, r, q, k⟩ := h
  refine ⟨F, env, n, _, r, q, fun J H1 F1 xs env1 n1 r1 u1 wk q1 => ?_⟩
  obtain ⟨no, hlen, P, p0, turn, fin⟩ := q1
  intro D nD
  obtain ⟨h0, ns, nf⟩ := r1.new0 nD
  have hF0 : F0 D = none := by
    cases e : F0 D with
    | none => rfl
    | some o => rw [r1.up0 D o e] at nf; cases nf
  -- at each turn: what is made so far stands at D, apart
  refine ⟨fun i m H => m = xs.length - i ∧ i ≤ xs.length ∧ ∃ F' av acc env n, Rel (Fc.wth ⟨am, F0, H0⟩ D (.lst av)) F' H (L2.wipe σ vs) env n ∧ Up F1 F' ∧ Rps F' av acc ∧ acc.length ≤ i ∧ P i acc env n, ⟨_, rfl, Nat.zero_le _, F1, [], [], _, n1, (((r1.wipe vs).lay nD _).push upd_same nf ns fun j k' e z => ?_), Up.refl F1, .nil, Nat.zero_le _, p0⟩, ?_⟩
  · obtain ⟨a, o, g1, _, _, _, g5, _⟩ := (r1.wipe vs).sl j _ e
    rw [g1] at z
    cases z
    rw [g5] at nD
    cases nD
  · rintro i m H2 ⟨rfl, hi, F2, av, acc, env2, n2, r2, u2, ra, hal, p2⟩
    obtain ⟨wg, ws⟩ := wk (Fc.wth ⟨am, F0, H0⟩ D (.lst av)) rfl F2 H2 _ env2 n2 r2 u2 i
    by_cases hlt : i < xs.length
    · obtain ⟨go, yl⟩ := wg hlt
      refine .inr ⟨go, fun H' => ∃ F' av acc env n, Rel (Fc.wth ⟨am, F0, H0⟩ D (.lst av)) F' H' (L2.wipe σ vs) env n ∧ Up F1 F' ∧ Rps F' av acc ∧ acc.length ≤ i + 1 ∧ P (i + 1) acc env n, fun H' hN => ⟨xs.length - (i + 1), by omega, rfl, hlt, hN⟩, fun x H3 y => ?_⟩
      obtain ⟨F3, d, r3, u3, ed, rd⟩ := yl x H3 y
      refine hg _ F3 H3 _ env2 n2 x d _ _ r3 rd (turn i d acc env2 n2 ed p2) fun σ4 env4 n4 r4 hw q4 => ?_
      have hw' : L2.wipe σ4 vs = L2.wipe σ vs := hw.trans (List.ext_getElem? fun j => by
        rw [wipe_get, wipe_get, wipe_length]
        by_cases h : j ∈ vs ∧ j < σ.length
        · rw [if_pos h, if_pos h]
        · rw [if_neg h, if_neg h])
      refine ⟨hw', ht F0 (upd H0 D (.lst av)) ⟨F3, env4, n4, _, r4, q4, fun b H5 F5 env5 n5 r5 u5 q5 => ?_⟩⟩
      cases b with
      | true =>
        refine he F0 (upd H0 D (.lst av)) ⟨F5, env5, n5, _, r5, q5, fun v H6 F6 d6 env6 n6 r6 u6 rv q6 => ?_⟩
        obtain ⟨r7, eD, fD, nD7⟩ := Rel.pop (c := ⟨am, F0, H0⟩) (fun _ z => by cases z) r6 h0 hF0 ns
        have ulen : av.length = acc.length := ra.len
        refine ⟨av, eD, small1000 (by rw [ulen]; omega), F6, av ++ [v], acc ++ [d6], _, n6, ?_, ((u2.trans u3).trans u5).trans u6, (((ra.up u3).up u5).up u6).append (.cons rv .nil), by rw [List.length_append]; exact Nat.succ_le_succ hal, q6⟩
        have r8 : Rel ⟨am, F0, H0⟩ F6 (upd H6 D (.lst (av ++ [v]))) σ4 env6 n6 := by
          refine ⟨fun b o e => ?_, r7.spf, r7.amb' fun b hb => upd_ne fun z => ns (z ▸ hb), r7.up0, r7.out0, fun b o e nb => ?_, r7.len, fun j s e => ?_, r7.apart⟩
          · rw [upd_ne fun z => by rw [z, fD] at e; cases e]; exact r7.sub b o e
          · rw [upd_ne fun z => by
              have e' : H0 b = some o := e
              have h0' : H0 D = none := h0
              rw [z, h0'] at e'; cases e']
            exact r7.keep0 b o e nb
          · have q := r7.sl j s e
            cases s with
            | no => trivial
            | fz d => exact q
            | ow kk =>
              obtain ⟨a, o, g1, g2, g3, g4, g5, g6⟩ := q
              exact ⟨a, o, g1, g2, g3, g4, by rw [upd_ne fun z => nD7 j kk e (by rw [g1, z])]; exact g5, g6⟩
        exact (r8.push upd_same fD ns nD7).wipe2 hw'
      | false =>
        exact ⟨F5, av, acc, _, n5, r5.wipe2 hw', (u2.trans u3).trans u5, (ra.up u3).up u5, Nat.le_succ_of_le hal, q5⟩
    · have e : i = xs.length := by omega
      subst e
      refine .inl ⟨ws (Nat.le_refl _), ?_⟩
      obtain ⟨r7, eD, fD, nD7⟩ := Rel.pop (c := ⟨am, F0, H0⟩) (fun _ z => by cases z) r2 h0 hF0 ns
      refine k D (.lst av) H2 F2 (.lst acc) _ n2 (r1.rest u2 no r7) (u1.trans u2) fD h0 ns eD ⟨av, rfl, ra⟩ (fun j k' e z => ?_) (fin acc env2 n2 hal p2)
      have rr := r1.rest u2 no r7
      rcases restE_get e with ⟨h1, h2⟩ | ⟨h1, h2⟩
      · cases e4 : env1[j]? with
        | none =>
          have : env1.getD j .no = .no := by rw [List.getD_eq_getElem?_getD, e4]; rfl
          rw [this] at h1; cases h1
        | some s =>
          have : env1.getD j .no = s := by rw [List.getD_eq_getElem?_getD, e4]; rfl
          rw [this] at h1
          rw [← h1] at e4
          exact absurd e4 (no j h2 k')
      · exact nD7 j k' h1 (by rw [wipe_out h2]; exact z)
theorem vn_lc {elt tg iter : Expr} {ifs : List Expr} {scope : Scope} {own : List (Str × Nat)} {pos : Pos} {wi : VTI} {g : TG} {gv : VTG} {tt : VTT} {te : VTE} (hc : X.calm = true) (hN : X.N.Nodup) (hi : PI X tg iter (iOf ⟨am, F0, H0⟩ wi)) (ok : BlkOk X.N X.env.scope scope own) (hgk : TgOk g gv (own.map (·.2)))
    (hg : ∀ (s : Shared) (H : Hp) (C : Addr) (cl : List (Str × Addr)) (fp : List Addr), PG (X.blk s H scope (compEnvC scope cl C X.env) fp) tg g)
    (ht : ∀ (F0 H0 : Hp) (s : Shared) (H : Hp) (C : Addr) (cl : List (Str × Addr)) (fp : List Addr), PTs (X.blk s H scope (compEnvC scope cl C X.env) fp) ifs (cOf ⟨am, F0, H0⟩ tt))
    (he : ∀ (F0 H0 : Hp) (s : Shared) (H : Hp) (C : Addr) (cl : List (Str × Addr)) (fp : List Addr), PE (X.blk s H scope (compEnvC scope cl C X.env) fp) elt (tOf ⟨am, F0, H0⟩ te)) (hs : ∀ x, foldedSetIterable iter X.env x = pure x := by intro _; rfl) :
    PE X (.ListComp elt [⟨tg, iter, ifs, 0⟩] scope pos) (nOf ⟨am, F0, H0⟩ (vLc wi gv tt te (own.map (·.2)))) :=
  PE.imp (pe_lc (tt := fun σ H R => ∃ F0 H0, cOf ⟨am, F0, H0⟩ tt σ H R) (te := fun σ H R => ∃ F0 H0, tOf ⟨am, F0, H0⟩ te σ H R) hc hN hi ok hg
    (fun s H C cl fp => ⟨fun pins s' σ H' Q I ⟨F0, H0, q⟩ => (ht F0 H0 s H C cl fp).run pins s' σ H' Q I q⟩) (fun s H C cl fp => ⟨fun pins s' σ H' Q I ⟨F0, H0, q⟩ => (he F0 H0 s H C cl fp).run pins s' σ H' Q I q⟩) hs)
    fun σ H R h => lc_of hgk (fun F0 H0 _ _ _ q => ⟨F0, H0, q⟩) (fun F0 H0 _ _ _ q => ⟨F0, H0, q⟩) h
theorem vs_setLc {i : Nat} {y : Str} {py : Pos} {elt tg iter : Expr} {ifs : List Expr} {scope : Scope} {own : List (Str × Nat)} {pos spos : Pos} {wi : VTI} {g : TG} {gv : VTG} {tt : VTT} {te : VTE} (hc : X.calm = true) (hN : X.N.Nodup) (hy : X.N[i]? = some y) (hyl : X.env.scope.names.lookup y = some .local)
    (hsw : swapsWith (.ListComp elt [⟨tg, iter, ifs, 0⟩] scope pos) (some (.Name y py)) spos.line X.env = pure true) (hi : PI X tg iter (iOf ⟨am, F0, H0⟩ wi)) (ok : BlkOk X.N X.env.scope scope own) (hgk : TgOk g gv (own.map (·.2)))
    (hg : ∀ (s : Shared) (H : Hp) (C : Addr) (cl : List (Str × Addr)) (fp : List Addr), PG (X.blk s H scope (compEnvC scope cl C X.env) fp) tg g)
    (ht : ∀ (F0 H0 : Hp) (s : Shared) (H : Hp) (C : Addr) (cl : List (Str × Addr)) (fp : List Addr), PTs (X.blk s H scope (compEnvC scope cl C X.env) fp) ifs (cOf ⟨am, F0, H0⟩ tt))
    (he : ∀ (F0 H0 : Hp) (s : Shared) (H : Hp) (C : Addr) (cl : List (Str × Addr)) (fp : List Addr), PE (X.blk s H scope (compEnvC scope cl C X.env) fp) elt (tOf ⟨am, F0, H0⟩ te)) (hs : ∀ x, foldedSetIterable iter X.env x = pure x := by intro _; rfl) :
    PS X (.Assign [.Name y py] (.ListComp elt [⟨tg, iter, ifs, 0⟩] scope pos) spos) (sOf ⟨am, F0, H0⟩ (vSetN i (vLc wi gv tt te (own.map (·.2))))) :=
  PS.imp (ps_setLc (tt := fun σ H R => ∃ F0 H0, cOf ⟨am, F0, H0⟩ tt σ H R) (te := fun σ H R => ∃ F0 H0, tOf ⟨am, F0, H0⟩ te σ H R) hc hN hy hyl hsw hi ok hg
    (fun s H C cl fp => ⟨fun pins s' σ H' Q I ⟨F0, H0, q⟩ => (ht F0 H0 s H C cl fp).run pins s' σ H' Q I q⟩) (fun s H C cl fp => ⟨fun pins s' σ H' Q I ⟨F0, H0, q⟩ => (he F0 H0 s H C cl fp).run pins s' σ H' Q I q⟩) hs)
    fun D σ H h => by
      have h2 := setN_of h
      exact lc_of hgk (fun F0 H0 _ _ _ q => ⟨F0, H0, q⟩) (fun F0 H0 _ _ _ q => ⟨F0, H0, q⟩) h2
end
end VL
namespace VL
open PySem PySem.Spec PyProof.Rows L2 HM
/-! ### methods of a list of one's own -/
abbrev RM := V → List V → Hp → VK → Prop
abbrev RMD := List Dt → List Dt → (Dt → List Dt → Prop) → Prop
def LftM (r : RM) (m : RMD) : Prop := ∀ (F H : Hp) (a : Addr) xs ds vs as (Q : Dt → List Dt → Prop) (R : VK), Up F H → F a = none → H a = some (.lst xs) → Rps F xs ds → Rps F vs as → m ds as Q → (∀ v d xs' ds', Rp F v d → Rps F xs' ds' → Q d ds' → R v (upd H a (.lst xs'))) → r (.ref a) vs H R
def vM (i : Nat) (m : RMD) (ta : VTA) : VTE := fun env n Q => (∃ ds0, env[i]? = some (.ow (.lst ds0))) ∧ ta env n fun as env1 n1 => ∃ ds, env1[i]? = some (.ow (.lst ds)) ∧ m ds as fun d ds' => Q d (env1.set i (.ow (.lst ds'))) n1
section
variable {c : Fc} {X : Cx} {a b e o : Expr} {es : List Expr} {te ta tb : VTE} {tas : VTA} {pos apos : Pos} {r : RM} {m : RMD} {name : Str} {id : String}
theorem m_of {i : Nat} (L : LftM r m) {σ : L2.St} {H : Hp} {R : VK} {K : PySem.W.Frag} (h : tOf c (vM i m tas) σ H R) : tBM K "list" r (tVar i) (aOf c tas) σ H R := by
  obtain ⟨F, env, n, Q, rr, ⟨⟨ds0, e0⟩, q⟩, k⟩ := h
  obtain ⟨a, xs, ea, hH, _⟩ := rr.rdOwn e0
  refine ⟨_, ea, .inl ⟨rfl, xs, .inl (.inl hH)⟩, F, env, n, _, rr, q, fun vs H' F' as env' n' r' u rp q' => ?_⟩
  obtain ⟨ds, ed, q'⟩ := q'
  obtain ⟨a', o', g1, g2, g3, g4, g5, xs', rfl, rx⟩ := r'.sl i _ ed
  rw [ea] at g1
  cases g1
  exact L F' H' a xs' ds vs as _ R r'.sub g2 g5 rx rp q' fun v d ys zs rv ry qv => k v _ F' d _ n' (r'.write (k' := .lst zs) ed ea ⟨ys, rfl, ry⟩) u rv qv
theorem m0_of {i : Nat} (L : LftM r m) {σ : L2.St} {H : Hp} {R : VK} {K : PySem.W.Frag} (h : tOf c (vM i m vNil) σ H R) : tBM0 K "list" r (tVar i) σ H R := by
  obtain ⟨F, env, n, Q, rr, ⟨⟨ds0, e0⟩, q⟩, k⟩ := h
  obtain ⟨a, xs, ea, hH, _⟩ := rr.rdOwn e0
  refine ⟨_, ea, .inl ⟨rfl, xs, .inl (.inl hH)⟩, ?_⟩
  obtain ⟨ds, ed, q'⟩ := q
  obtain ⟨a', o', g1, g2, g3, g4, g5, xs', rfl, rx⟩ := rr.sl i _ ed
  rw [ea] at g1
  cases g1
  exact L F H a xs' ds [] [] _ R rr.sub g2 g5 rx .nil q' fun v d ys zs rv ry qv => k v _ F d _ n (rr.write (k' := .lst zs) ed ea ⟨ys, rfl, ry⟩) (Up.refl F) rv qv
def mAppend : RMD := fun ds as Q => ∃ y, as = [y] ∧ ds.length ≤ 1000 ∧ Q .non (ds ++ [y])
theorem lft_append : LftM rAppend mAppend := fun F H a xs ds vs as Q R u hF hH rx ra ⟨y, e, hl, q⟩ k => by
  subst e
  obtain ⟨v, rfl, p⟩ := ra.one
  exact ⟨a, xs, v, rfl, rfl, hH, small1000 (by rw [rx.len]; exact hl), k _ _ _ _ .non (rx.append (.cons p .nil)) q⟩
def mPop : RMD := fun ds as Q => ∃ y, as = [] ∧ ds[ds.length - 1]? = some y ∧ Q y ds.dropLast
theorem lft_pop : LftM rPop mPop := fun F H a xs ds vs as Q R u hF hH rx ra ⟨y, e, hl, q⟩ k => by
  subst e
  cases ra
  obtain ⟨v, h1, h2⟩ := rx.get hl
  exact ⟨a, xs, v, rfl, rfl, hH, by rw [rx.len]; exact h1, k _ _ _ _ h2 rx.dropLast q⟩
def mPopAt : RMD := fun ds as Q => ∃ (j : Nat) (y : Dt), as = [.int (j : Int)] ∧ ds.length ≤ 1000 ∧ ds[j]? = some y ∧ Q y (ds.eraseIdx j)
theorem lft_popAt : LftM rPopAt mPopAt := fun F H a xs ds vs as Q R u hF hH rx ra ⟨j, y, e, hl, hj, q⟩ k => by
  subst e
  obtain ⟨v, rfl, p⟩ := ra.one
  rw [p.int_inv]
  obtain ⟨w, h1, h2⟩ := rx.get hj
  have hlt := (List.getElem?_eq_some_iff.mp hj).1
  obtain ⟨j', g1, g2, _⟩ := atI_get (atI_nat h1)
  have : j' = j := by
    have z := (ixN_seq (n := xs.length) (i := (j : Int)) (j := j) (by unfold ixN; rw [if_pos (by omega), if_pos (by rw [rx.len]; omega)]; simp)).1
    rw [z] at g1
    exact (Option.some.inj g1).symm
  subst this
  exact ⟨a, xs, (j' : Int), j', w, rfl, rfl, hH, by omega, by omega, g1, h1, k _ _ _ _ h2 (rx.erase j') q⟩
def mReverse : RMD := fun ds as Q => as = [] ∧ Q .non ds.reverse
theorem lft_reverse : LftM rReverse mReverse := fun F H a xs ds vs as Q R u hF hH rx ra ⟨e, q⟩ k => by
  subst e
  cases ra
  exact ⟨a, xs, rfl, rfl, hH, k _ _ _ _ .non rx.reverse q⟩
def mExtend : RMD := fun ds as Q => ∃ zs, as = [.lst zs] ∧ ds.length + zs.length ≤ 1000 ∧ Q .non (ds ++ zs)
theorem lft_extend : LftM rExtend mExtend := fun F H a xs ds vs as Q R u hF hH rx ra ⟨zs, e, hl, q⟩ k => by
  subst e
  obtain ⟨v, rfl, p⟩ := ra.one
  obtain ⟨b, ys, rfl, hb, ry⟩ := p.lst_inv
  exact ⟨a, b, xs, ys, rfl, rfl, hH, u _ _ hb, small1k (by rw [rx.len, ry.len]; exact hl), k _ _ _ _ .non (rx.append ry) q⟩
/-- x[i] = e -/
def vSetIx (j : Nat) (ti te : VTE) : VTS := fun V env n => te env n fun d env1 n1 => (∃ ds0, env1[j]? = some (.ow (.lst ds0))) ∧ ti env1 n1 fun y env2 n2 => ∃ (ds : List Dt) (k : Nat), env2[j]? = some (.ow (.lst ds)) ∧ y = .int (k : Int) ∧ k < ds.length ∧ V.nx (env2.set j (.ow (.lst (ds.set k d)))) n2
theorem ixN_nat {m k : Nat} (h : k < m) : ixN m (k : Int) = some k := by unfold ixN; rw [if_pos (by omega), if_pos (by omega)]; simp
theorem vs_setIx {j : Nat} {i v : Expr} {ti tv : VTE} {p2 : Pos} (ho : PE X o (tVar j)) (hi : PE X i (tOf c ti)) (hv : PE X v (tOf c tv)) (ha : ∀ v, assign (.Subscript o i p2) X.env v = (do
      let ov ← holding [v] (eval o X.env)
      let iv ← holding [v, ov] (eval i X.env)
      standAt p2
      holding [v, ov, iv] (setItem ov iv v)
      release [v, ov, iv] []) := by intro _; rfl) (hs : swapsWithSole [.Subscript o i p2] v pos.line X.env = pure false := by rfl) (hw : swappedStores [.Subscript o i p2] v X.env = pure none := by rfl)
    (h1 : (assignEach [.Subscript o i p2] X.env).map (·.2) = [assign (.Subscript o i p2) X.env] := by rfl) : PS X (.Assign [.Subscript o i p2] v pos) (sOf c (vSetIx j ti tv)) := PS.imp (ps_asg hv (pg_sub ho hi set_list ha) hs hw h1) fun D σ H ⟨F, env, n, V, rr, q, k⟩ => by
  refine ⟨F, env, n, _, rr, q, fun v H1 F1 d env1 n1 r1 u1 rv q1 => ?_⟩
  obtain ⟨⟨ds0, e0⟩, q1⟩ := q1
  obtain ⟨a, xs, ea, hH, _⟩ := r1.rdOwn e0
  refine ⟨_, ea, F1, env1, n1, _, r1, q1, fun y H2 F2 d2 env2 n2 r2 u2 p2 q2 => ?_⟩
  obtain ⟨ds, kk, ed, rfl, hk, q2⟩ := q2
  obtain ⟨a', o', g1, g2, g3, g4, g5, xs', rfl, rx⟩ := r2.sl j _ ed
  rw [ea] at g1
  cases g1
  exact ⟨a, xs', _, kk, rfl, p2.int_inv, g5, ixN_nat (by rw [rx.len]; exact hk), k.nx F2 _ σ _ n2 (r2.write (k' := .lst (ds.set kk d)) ed ea ⟨_, rfl, rx.set (rv.up u2) kk⟩) (u1.trans u2) q2⟩
/-! ### new lists of old ones -/
/-- an operator that makes a new list -/
def LftO (r : R2) (r' : Dt → Dt → (List Dt → Prop) → Prop) : Prop := ∀ (F H : Hp) x y d1 d2 (Q : List Dt → Prop) (R : VK), Up F H → Rp F x d1 → Rp F y d2 → r' d1 d2 Q → (∀ p xs zs, H p = none → Rps F xs zs → Q zs → R (.ref p) (upd H p (.lst xs))) → r x y H R
def vOpNew (r' : Dt → Dt → (List Dt → Prop) → Prop) (ta tb : VTE) : VTN := fun env n Q => v2 ta tb (fun x y env' n' => r' x y fun ds => Q (.lst ds) env' n') env n
theorem vn_op {op : Operator} {r : R2} {r' : Dt → Dt → (List Dt → Prop) → Prop} (ho : OpR X (binaryOp op) r) (L : LftO r r') (ha : PE X a (tOf c ta)) (hb : PE X b (tOf c tb)) : PE X (.BinOp a op b pos) (nOf c (vOpNew r' ta tb)) := PE.imp (pe_op ho ha hb) fun σ H R ⟨F, env, n, Q, rr, h, k⟩ =>
  t2_of rr h fun x y d1 d2 H' F' env' n' r2 u p1 p2 q => L F' H' x y d1 d2 _ R r2.sub p1 p2 q fun p xs zs np rx qz => nOf_new r2 u np (kk := .lst zs) ⟨xs, rfl, rx⟩ qz k
def dCat : Dt → Dt → (List Dt → Prop) → Prop := fun x y Q => ∃ a b, x = .lst a ∧ y = .lst b ∧ a.length + b.length ≤ 1000 ∧ Q (a ++ b)
theorem lft_cat : LftO rCat dCat := fun F H x y d1 d2 Q R u p1 p2 ⟨a, b, e1, e2, hl, q⟩ k => by
  subst e1 e2
  obtain ⟨l, xs, rfl, h1, r1⟩ := p1.lst_inv
  obtain ⟨l2, ys, rfl, h2, r2⟩ := p2.lst_inv
  exact ⟨l, l2, xs, ys, rfl, rfl, u _ _ h1, u _ _ h2, small1k (by rw [r1.len, r2.len]; exact hl), fun p np => k p _ _ np (r1.append r2) q⟩
/-! ### ranges as lists, tuples -/
theorem rgV_ints (a b : Int) : rgV a b = ((List.range (b - a).toNat).map fun i : Nat => a + (i : Int)).map V.int := by
  unfold rgV
  rw [List.map_map]
  rfl
theorem rps_rg {F : Hp} (a b : Int) : Rps F (rgV a b) (rngD a (b - a).toNat) := by
  rw [rgV_ints]
  have : rngD a (b - a).toNat = ((List.range (b - a).toNat).map fun i : Nat => a + (i : Int)).map Dt.int := by unfold rngD; rw [List.map_map]; rfl
  rw [this]
  exact Rps.ints _
abbrev VRG := Ev → Nat → (Int → Int → Ev → Nat → Prop) → Prop
def rgOf (c : Fc) (tr : VRG) : L2.St → Hp → (Int → Int → Hp → Prop) → Prop := fun σ H R => ∃ F env n Q, Rel c F H σ env n ∧ tr env n Q ∧ ∀ i j H' F' env' n', Rel c F' H' σ env' n' → Up F F' → Q i j env' n' → R i j H'
theorem PRg.imp {X : Cx} {e : Expr} {t t' : L2.St → Hp → (Int → Int → Hp → Prop) → Prop} (h : PRg X e t) (k : ∀ σ H R, t' σ H R → t σ H R) : PRg X e t' := fun pins s σ H Q I q => h pins s σ H Q I (k _ _ _ q)
def vRg1 (ta : VTE) : VRG := fun env n Q => ta env n fun d env1 n1 => ∃ j, d = .int j ∧ Q 0 j env1 n1
def vRg2 (ta tb : VTE) : VRG := fun env n Q => ta env n fun d env1 n1 => tb env1 n1 fun d2 env2 n2 => ∃ i j, d = .int i ∧ d2 = .int j ∧ Q i j env2 n2
theorem vrg_1 {p pos : Pos} (hg : Gl X "range") (hm : X.mg "range" = none) (ha : PE X a (tOf c ta)) (na : starEach [a] X.env = (false, eval a X.env) :: starEach [] X.env := by rfl) : PRg X (.Call (.Name "range" p) [a] [] pos) (rgOf c (vRg1 ta)) := PRg.imp (prg_1 hg hm ha na) fun σ H R ⟨F, env, n, Q, rr, h, k⟩ =>
  ⟨F, env, n, _, rr, h, fun v H' F' d env' n' r' u rp q => by
    obtain ⟨j, rfl, q⟩ := q
    exact ⟨j, rp.int_inv, k _ _ _ _ _ _ r' u q⟩⟩
theorem vrg_2 {p pos : Pos} (hg : Gl X "range") (hm : X.mg "range" = none) (ha : PE X a (tOf c ta)) (hb : PE X b (tOf c tb)) (na : starEach [a, b] X.env = (false, eval a X.env) :: starEach [b] X.env := by rfl)
    (nb : starEach [b] X.env = (false, eval b X.env) :: starEach [] X.env := by rfl) (hp : (backTo pos (starEach [b] X.env)).any (·.1) = false := by rfl) : PRg X (.Call (.Name "range" p) [a, b] [] pos) (rgOf c (vRg2 ta tb)) := PRg.imp (prg_2 hg hm ha hb na nb hp) fun σ H R ⟨F, env, n, Q, rr, h, k⟩ =>
  t2_of rr h fun x y d1 d2 H' F' env' n' r' u p1 p2 q => by
    obtain ⟨i, j, rfl, rfl, q⟩ := q
    exact ⟨i, j, p1.int_inv, p2.int_inv, k _ _ _ _ _ _ r' u q⟩
def vLRg (tr : VRG) : VTN := fun env n Q => tr env n fun i j env1 n1 => (0 ≤ i ∧ j ≤ 1000000 ∧ i ≤ 1000000 ∧ 0 ≤ j) ∧ Q (.lst (rngD i (j - i).toNat)) env1 n1
def vTRg (tr : VRG) : VTE := fun env n Q => tr env n fun i j env1 n1 => (0 ≤ i ∧ j ≤ 1000000 ∧ i ≤ 1000000 ∧ 0 ≤ j) ∧ Q (.tup (rngD i (j - i).toNat)) env1 n1
theorem vn_listRg {tr : VRG} {p pos : Pos} (hc : X.calm = true) (hg : Gl X "list") (hm : X.mg "list" = none) (he : PRg X e (rgOf c tr)) (na : starEach [e] X.env = (false, eval e X.env) :: starEach [] X.env := by rfl) : PE X (.Call (.Name "list" p) [e] [] pos) (nOf c (vLRg tr)) := PE.imp (pe_listRg hc hg hm he na) fun σ H R ⟨F, env, n, Q, rr, h, k⟩ =>
  ⟨F, env, n, _, rr, h, fun i j H' F' env' n' r' u q => ⟨RgOk.of_le q.1.1 (by omega) (by omega) q.1.2.2.2, fun p np => nOf_new r' u np (kk := .lst (rngD i (j - i).toNat)) ⟨_, rfl, rps_rg i j⟩ q.2 k⟩⟩
theorem ve_tupRg {tr : VRG} {p pos : Pos} (hc : X.calm = true) (hg : Gl X "tuple") (hm : X.mg "tuple" = none) (he : PRg X e (rgOf c tr)) (na : starEach [e] X.env = (false, eval e X.env) :: starEach [] X.env := by rfl) : PE X (.Call (.Name "tuple" p) [e] [] pos) (tOf c (vTRg tr)) := PE.imp (pe_tupRg hc hg hm he na) fun σ H R ⟨F, env, n, Q, rr, h, k⟩ =>
  ⟨F, env, n, _, rr, h, fun i j H' F' env' n' r' u q => ⟨RgOk.of_le q.1.1 (by omega) (by omega) q.1.2.2.2, fun p np => by
    obtain ⟨_, _, nf⟩ := r'.new0 np
    exact k _ _ (upd F' p _) _ env' n' (r'.layF np _) (u.trans (up_lay nf)) (.tup upd_same (rps_rg i j)) q.2⟩⟩
/-! ### repetition -/
def dRep : Dt → Dt → (List Dt → Prop) → Prop := fun x y Q => ∃ (a : List Dt) (k : Nat), x = .lst a ∧ y = .int (k : Int) ∧ k ≤ 1000 ∧ a.length * k ≤ 1000 ∧ Q (List.flatten (List.replicate k a))
theorem Rps.rep {F : Hp} {xs : List V} {ds : List Dt} (h : Rps F xs ds) : ∀ k : Nat, Rps F (List.flatten (List.replicate k xs)) (List.flatten (List.replicate k ds))
  | 0 => .nil
  | k + 1 => by
    rw [List.replicate_succ, List.replicate_succ, List.flatten_cons, List.flatten_cons]
    exact h.append (Rps.rep h k)
theorem lft_rep : LftO rRep dRep := fun F H x y d1 d2 Q R u p1 p2 ⟨a, kk, e1, e2, hk, hl, q⟩ k => by
  subst e1 e2
  obtain ⟨l, xs, rfl, h1, r1⟩ := p1.lst_inv
  rw [p2.int_inv]
  exact ⟨l, _, xs, rfl, rfl, u _ _ h1, by omega, by omega, small1k (by rw [Int.toNat_natCast, r1.len]; exact hl), fun p np => k p _ _ np (by rw [Int.toNat_natCast]; exact r1.rep kk) q⟩
/-! ### slices of lists -/
abbrev VTO := Ev → Nat → (Option Int → Ev → Nat → Prop) → Prop
def oOf (c : Fc) (to : VTO) : TO := fun σ H R => ∃ F env n Q, Rel c F H σ env n ∧ to env n Q ∧ ∀ i H' F' env' n', Rel c F' H' σ env' n' → Up F F' → Q i env' n' → R i H'
def vNoPart : VTO := fun env n Q => Q none env n
def vPart (te : VTE) : VTO := fun env n Q => te env n fun d env1 n1 => ∃ i, d = .int i ∧ Q (some i) env1 n1
theorem PO.imp {X : Cx} {e : Option Expr} {t t' : TO} (h : PO X e t) (k : ∀ σ H R, t' σ H R → t σ H R) : PO X e t' := ⟨fun pins s σ H Q I q => h.run pins s σ H Q I (k _ _ _ q)⟩
theorem vo_none : PO X none (oOf c vNoPart) := PO.imp po_none fun σ H R ⟨F, env, n, Q, rr, h, k⟩ => k none H F env n rr (Up.refl F) h
theorem vo_some (he : PE X e (tOf c te)) : PO X (some e) (oOf c (vPart te)) := PO.imp (po_some he) fun σ H R ⟨F, env, n, Q, rr, h, k⟩ => ⟨F, env, n, _, rr, h, fun v H' F' d env' n' r' u rp q => by
  obtain ⟨i, rfl, q⟩ := q
  exact ⟨i, rp.int_inv, k _ H' F' env' n' r' u q⟩⟩
def cutD (xs : List Dt) (lo hi : Option Int) : List Dt := (xs.drop (HT.sIx xs.length 0 lo)).take (HT.sIx xs.length xs.length hi - HT.sIx xs.length 0 lo)
def vSlL (te : VTE) (tl th : VTO) : VTN := fun env n Q => te env n fun d env1 n1 => tl env1 n1 fun l env2 n2 => th env2 n2 fun h env3 n3 => ∃ ds, d = .lst ds ∧ Q (.lst (cutD ds l h)) env3 n3
theorem Rps.cut {F : Hp} {xs : List V} {ds : List Dt} (h : Rps F xs ds) (lo hi : Option Int) : Rps F (cutV xs lo hi) (cutD ds lo hi) := by
  unfold cutV cutD
  rw [h.len]
  exact (h.drop _).take _
theorem vn_slL {lo hi : Option Expr} {tl th : VTO} {p2 : Pos} (he : PE X e (tOf c te)) (hl : PO X lo (oOf c tl)) (hu : PO X hi (oOf c th)) : PE X (.Subscript e (.Slice lo hi none p2) pos) (nOf c (vSlL te tl th)) := PE.imp (pe_slice sl_list he hl hu) fun σ H R ⟨F, env, n, Q, rr, h, k⟩ =>
  ⟨F, env, n, _, rr, h, fun v H1 F1 d env1 n1 r1 u1 p1 q1 => ⟨F1, env1, n1, _, r1, q1, fun l H2 F2 env2 n2 r2 u2 q2 => ⟨F2, env2, n2, _, r2, q2, fun hh H3 F3 env3 n3 r3 u3 q3 => by
    obtain ⟨ds, rfl, q3⟩ := q3
    obtain ⟨a, xs, rfl, hF, rx⟩ := (p1.up (u2.trans u3)).lst_inv
    exact ⟨a, xs, rfl, .inl (.inl (r3.sub _ _ hF)), fun p np => nOf_new r3 ((u1.trans u2).trans u3) np (kk := .lst (cutD ds l hh)) ⟨_, rfl, rx.cut l hh⟩ q3 k⟩⟩⟩⟩
end
end VL
namespace HM
open PySem PySem.Spec PyProof.Rows L2
section
variable {P : Program} {w : World} {A : Around} {E : Value → Shared → Prop} {s : Shared} {a : Addr} {o : Obj} {es : Array DictEntry} {ep : Nat}
theorem walks_keys (hh : A.handled = none) (I : Addr) (hne : a ≠ I) (hd : o.data = .dict es ep) :
    Walks P w A I [I, a] [I] es.size (fun i v => (es.toList.map (·.key))[i]? = some v) (fun i h => h.IsKeyIter I a i es.size ep ∧ h.get? a = some o) where
  sub := fun b hb => by simp at hb; simp [hb]
  frame := fun _ _ _ st hk => ⟨st.1.at fun o e => hk I (by simp) o e, hk a (by simp) o st.2⟩
  item := fun i s Q E hi st hQ => by
    have hx : es[i]? = some es[i] := Array.getElem?_eq_getElem hi
    refine next_key_item st.1 st.2 hd rfl hx fun h' hit' hs' => ?_
    exact hQ es[i].key h' s.toks (by rw [List.getElem?_map, Array.getElem?_toList, hx]; rfl) ⟨hit', (hs'.2 a hne).trans st.2⟩ fun b o hb e => (hs'.2 b (fun h => hb (by simp [h]))).trans e
  done := fun s Q E st hQ => next_key_end hh st.1 st.2 hd rfl (Nat.le_refl _) fun h' he' => hQ h' s.toks fun b o hb e => he' b o (fun h => hb (by simp [h])) e
  self := fun _ _ _ _ st hQ => wpAny_pyIter_keyiter st.1 hQ
theorem collect_dict {Q : List Value → Shared → Prop} (hh : A.handled = none) (hsys : (a == sysModules) = false) (ho : s.heap.get? a = some o) (hx : o.ExactDict) (hd : o.data = .dict es ep) (hsz : es.size ≤ sizeLine)
    (hQ : ∀ s', (∀ b o, s.heap.get? b = some o → s'.heap.get? b = some o) → s.heap.objs.size ≤ s'.heap.objs.size → s'.gens = s.gens → s'.os = s.os → Q (es.toList.map (·.key)) s') :
    wpAny (model P w) A (collect (.ref a)) Q E s := by
  have hlt : a < s.heap.objs.size := Heap.lt_size ho
  have hSa : s.heap.objs.size ≠ a := Nat.ne_of_gt hlt
  unfold collect
  refine wpAny_bind (wpAny_runValue (codeAny_builtin PySem.F.entry_proto_collect ?_))
  rw [Around.under_plainId PySem.F.plain_proto_collect _]
  show wpAny _ A.in1 (newList [] >>= fun l => again (.builtin "list.__iadd__" ⟨[l, .ref a], []⟩)) _ _ s
  refine wpAny_bind (wpAny_newObj_type ?_)
  refine wpAny_pure ⟨plainId_quiet PySem.F.plain_list_iadd _, codeAny_builtin PySem.F.entry_list_iadd ?_⟩
  rw [Around.under_plainId PySem.F.plain_list_iadd _]
  have hS : (s.heap.push { cls := .type "list", data := .seq ([] : List Value).toArray }).get? s.heap.objs.size = some { cls := .type "list", data := .seq ([] : List Value).toArray } := Heap.get?_push_size _ rfl
  have ho1 : (s.heap.push { cls := .type "list", data := .seq ([] : List Value).toArray }).get? a = some o := Heap.get?_push_of_some _ ho
  have hz1 : (s.heap.push { cls := .type "list", data := .seq ([] : List Value).toArray }).objs.size = s.heap.objs.size + 1 := size_push' _ _
  show wpAny _ A.in1 (Builtin.List.listExtendWith (.ref s.heap.objs.size) (.ref a) (.ref s.heap.objs.size)) _ _ _
  unfold Builtin.List.listExtendWith
  refine wpAny_bind (wpAny_typeOf (T := "dict") ⟨o, ho1, hx.1⟩ ?_)
  have h1 : Builtin.List.listSameRef (.ref s.heap.objs.size) (.ref a) = false := by simp [Builtin.List.listSameRef, hSa]
  have h2 : (Value.type "dict" == Value.type "list") = false := by decide
  have h3 : (Value.type "dict" == Value.type "tuple") = false := by decide
  simp only [h1, h2, h3, Bool.or_false, Bool.false_eq_true, if_false]
  refine wpAny_bind (iter_keys (s := { s with heap := s.heap.push { cls := .type "list", data := .seq ([] : List Value).toArray } }) hsys ho1 hx hd ?_)
  dsimp only
  rw [hz1]
  generalize hh2 : (s.heap.push { cls := .type "list", data := .seq ([] : List Value).toArray }).push { cls := .type "dict_keyiterator", data := .fields #[.ref a, .int 0 0, .int es.size 0, .int ep 0] } = h2'
  have k2 : ∀ b u, (s.heap.push { cls := .type "list", data := .seq ([] : List Value).toArray }).get? b = some u → h2'.get? b = some u := fun b u e => by rw [← hh2]; exact Heap.get?_push_of_some _ e
  have ho2 : h2'.get? a = some o := k2 _ _ ho1
  have hT2 : Shared.TypeIs { s with heap := h2' } (.ref a) "dict" := ⟨o, ho2, hx.1⟩
  have hI : h2'.get? (s.heap.objs.size + 1) = some { cls := .type "dict_keyiterator", data := .fields #[.ref a, .int 0 0, .int es.size 0, .int ep 0] } := by
    rw [← hh2, ← hz1]
    exact Heap.get?_push_size _ rfl
  refine wpAny_bind (wpAny_holding ?_)
  unfold Builtin.List.listLengthHint
  refine wpAny_bind (wpAny_specialOf hT2 PySem.F.slot_dict_len.lookup ?_)
  (generalize hid : ("dict.__len__" : String) = id0; (fail_if_success (clear hid id0)); wp_delta; rw [show splitId id0 = some ("dict", "__len__") from by subst hid; decide +kernel]; subst hid)
  refine wpAny_bind (wpAny_isInstance (b := true) hT2 (by rw [isSubtype_type]; kernel_rfl) ?_)
  show wpAny _ A.in1 (typeOf (.ref a) >>= _) _ _ _
  refine wpAny_bind (wpAny_typeOf hT2 ?_)
  refine wpAny_pure ?_
  show wpAny _ A.in1 (rule "list.extend.makes-room" >>= fun _ => Builtin.List.listTouch (.ref s.heap.objs.size) >>= fun _ =>
    again (.builtin "list.extend.loop" ⟨[.ref s.heap.objs.size, .ref (s.heap.objs.size + 1), .ref s.heap.objs.size], []⟩)) _ _ _
  refine wpAny_bind (wpAny_rule ?_)
  have hS2 := k2 _ _ hS
  refine wpAny_bind ?_
  show wpAny _ A.in1 (updateSeq s.heap.objs.size (·.push .none) >>= fun _ => updateSeq s.heap.objs.size (·.pop)) _ _ _
  refine wpAny_bind (wpAny_updateSeq hS2 rfl ?_)
  have hS3 := Heap.get?_update_self (Obj.mapSeq (·.push Value.none)) hS2 rfl
  refine wpAny_updateSeq hS3 rfl ?_
  have hS4 := Heap.get?_update_self (Obj.mapSeq (·.pop)) hS3 rfl
  have oth : ∀ b u, b ≠ s.heap.objs.size → h2'.get? b = some u → ((h2'.update s.heap.objs.size (Obj.mapSeq (·.push Value.none))).update s.heap.objs.size (Obj.mapSeq (·.pop))).get? b = some u :=
    fun b u hb e => (Heap.get?_update_other _ _ (Ne.symm hb)).trans ((Heap.get?_update_other _ _ (Ne.symm hb)).trans e)
  have hne : a ≠ s.heap.objs.size + 1 := Nat.ne_of_lt (Nat.lt_succ_of_lt hlt)
  have W := walks_keys (P := P) (w := w) (A := A.in1) hh (s.heap.objs.size + 1) hne hd
  have hSf : s.heap.objs.size ∉ [s.heap.objs.size + 1, a] := by
    simp only [List.mem_cons, List.not_mem_nil, or_false, not_or]
    exact ⟨Nat.ne_of_lt (Nat.lt_succ_self _), hSa⟩
  refine wpAny_pure ⟨plainId_quiet PySem.F.plain_extend_loop _, codeAny_extend_loopS W.toS hsz _ hSf _ es.size 0 _ _ _ rfl (Nat.zero_le _) ⟨⟨_, oth _ _ (Nat.succ_ne_self _) hI, rfl, rfl⟩, oth _ _ (Ne.symm hSa) ho2⟩ hS4 (ItemsOf.nil _) fun s' acc' c' hm hS' hacc => ?_⟩
  show wpAny _ A (load s.heap.objs.size >>= _) _ _ s'
  refine wpAny_bind (wpAny_load hS' ?_)
  have hacc' : ItemsOf (fun i v => (es.toList.map (·.key))[i]? = some v) acc' (es.toList.map (·.key)).length := by
    rw [List.length_map, Array.length_toList]
    exact hacc
  have eo := items_out hacc' fun j v q => q
  refine wpAny_pure ?_
  show Q acc'.toList s'
  rw [eo]
  refine hQ s' (fun b u e => ?_) (Nat.le_of_lt (Heap.lt_size hS')) hm.gens hm.os
  have hbl : b < s.heap.objs.size := Heap.lt_size e
  refine hm.heap b u (fun z => ?_) (oth b u (Nat.ne_of_lt hbl) (k2 b u (Heap.get?_push_of_some _ e)))
  simp only [List.mem_cons, List.not_mem_nil, or_false] at z
  rcases z with z | z
  · exact absurd hbl (by rw [z]; exact Nat.lt_irrefl _)
  · exact absurd hbl (by rw [z]; exact Nat.not_lt_of_le (Nat.le_succ _))
end
end HM
namespace HM
open PySem PySem.Spec PyProof.Rows L2
theorem permInv {α β : Type} {f : α → β} : ∀ {F : List α} {ys : List β}, ys.Perm (F.map f) → ∃ F' : List α, F'.Perm F ∧ ys = F'.map f
  | [], ys, h => ⟨[], List.Perm.refl _, List.Perm.eq_nil h⟩
  | a :: F, ys, h => by
    have hm : f a ∈ ys := h.mem_iff.mpr List.mem_cons_self
    obtain ⟨l1, l2, rfl⟩ := List.append_of_mem hm
    have h2 : (l1 ++ l2).Perm (F.map f) := List.Perm.cons_inv (List.perm_middle.symm.trans h)
    obtain ⟨F', g1, g2⟩ := permInv h2
    obtain ⟨A, B, rfl, e1, e2⟩ := List.map_eq_append_iff.mp g2.symm
    exact ⟨A ++ a :: B, List.perm_middle.trans (List.Perm.cons _ g1), by rw [List.map_append, List.map_cons, e1, e2]⟩
section
variable {P : Program} {w : World} {A : Around} {E : Value → Shared → Prop} {s : Shared} {a : Addr} {o : Obj} {es : Array DictEntry} {ep : Nat}
/-- sorted(d), the keys whole numbers -/
theorem sorted_dictI {is : List Int} {Q : Value → Shared → Prop} (hh : A.handled = none) (hsys : (a == sysModules) = false) (ho : s.heap.get? a = some o) (hx : o.ExactDict) (hd : o.data = .dict es ep) (h64 : es.size < 64) (hI : IntsAre (es.toList.map (·.key)) is)
    (hQ : ∀ s' p (out : Array Value) (c : Nat) (ns : List Int), (∀ b o, s.heap.get? b = some o → s'.heap.get? b = some o) → s'.gens = s.gens → s'.os = s.os → s.heap.objs.size ≤ p →
      s'.heap.get? p = some (seqObj "list" out c) → IntsAre out.toList ns → ns.Perm is → ns.Pairwise (· ≤ ·) → Q (.ref p) s') :
    wpAny (model P w) A (call (.builtin "sorted") [.ref a]) Q E s := by
  refine Calls.call_function_entry kind_sorted plain_sorted entry_sorted (args_sorted1 _) ?_
  unfold Builtin.«sorted»
  refine wpAny_bind (m := checkCount "sorted" 1 1 _) (wpAny_pure ?_)
  refine wpAny_bind (collect_dict (A := A.in1) hh hsys ho hx hd (by rw [sizeLine_eq]; omega) fun s1 k1 hz g1 o1 => ?_)
  have hvl : (es.toList.map (·.key)).length < 64 := by rw [List.length_map, Array.length_toList]; exact h64
  generalize es.toList.map (·.key) = vs at hI hvl ⊢
  refine wpAny_bind (wpAny_newList ?_ (by rw [sizeLine_eq]; omega))
  have hoL : (s1.heap.push (seqObj "list" vs.toArray 0)).get? s1.heap.objs.size = some (seqObj "list" vs.toArray 0) := Heap.get?_push_size _ rfl
  refine wpAny_bind (wpAny_holding (wpAny_call_entry slot_list_sort ⟨_, hoL, rfl⟩ entry_list_sort (list_sort_tree hoL hI hvl fun out ns' a1 a2 a3 => ⟨_, rfl, ?_⟩) (args_list_sort _)))
  obtain ⟨c, hc⟩ := sortedHeap_at (vs := vs) (out := out) hoL
  refine wpAny_pure ⟨_, rfl, hQ _ s1.heap.objs.size out c ns' (fun b u e => ?_) g1 o1 hz hc a1 a2 a3⟩
  have q := k1 b u e
  have hlt := Heap.lt_size q
  show (sortedHeap (s1.heap.push (seqObj "list" vs.toArray 0)) s1.heap.objs.size vs out).get? b = some u
  rw [sortedHeap_old (Nat.ne_of_lt hlt) (by rw [size_push']; exact Nat.lt_succ_of_lt hlt)]
  exact Heap.get?_push_of_some _ q
/-- sorted(d), the keys tuples of whole numbers -/
theorem sorted_dictT {L : List (Addr × List Int)} {Q : Value → Shared → Prop} (hh : A.handled = none) (hsys : (a == sysModules) = false) (ho : s.heap.get? a = some o) (hx : o.ExactDict) (hd : o.data = .dict es ep) (h64 : es.size < 64)
    (hes : es.toList.map (·.key) = L.map fun q => Value.ref q.1) (hT : ∀ q ∈ L, IsT P w s.heap q.2 q.1) {d : Nat} {B : Int} (hd1 : 1 ≤ d) (hB : ∀ p ∈ L, p.2.length = d ∧ TS.Bd B p.2)
    (hQ : ∀ s' p (out : Array Value) (c : Nat) (L' : List (Addr × List Int)), (∀ b o, s.heap.get? b = some o → s'.heap.get? b = some o) → s'.gens = s.gens → s'.os = s.os → s.heap.objs.size ≤ p →
      s'.heap.get? p = some (seqObj "list" out c) → out.toList = L'.map (fun q => Value.ref q.1) → L'.Perm L → L'.Pairwise (fun q r => TS.code B q.2 ≤ TS.code B r.2) → Q (.ref p) s') :
    wpAny (model P w) A (call (.builtin "sorted") [.ref a]) Q E s := by
  refine Calls.call_function_entry kind_sorted plain_sorted entry_sorted (args_sorted1 _) ?_
  unfold Builtin.«sorted»
  refine wpAny_bind (m := checkCount "sorted" 1 1 _) (wpAny_pure ?_)
  refine wpAny_bind (collect_dict (A := A.in1) hh hsys ho hx hd (by rw [sizeLine_eq]; omega) fun s1 k1 hz g1 o1 => ?_)
  have hvl : (es.toList.map (·.key)).length < 64 := by rw [List.length_map, Array.length_toList]; exact h64
  generalize hvs : es.toList.map (·.key) = vs at hes hvl ⊢
  refine wpAny_bind (wpAny_newList ?_ (by rw [sizeLine_eq]; omega))
  have hoL : (s1.heap.push (seqObj "list" vs.toArray 0)).get? s1.heap.objs.size = some (seqObj "list" vs.toArray 0) := Heap.get?_push_size _ rfl
  have tk : ∀ q ∈ L, TS.TupInts (s1.heap.push (seqObj "list" vs.toArray 0)) (.ref q.1) q.2 := fun q hq => tupInts_of (P := P) (w := w) (isT_keep (hT q hq) fun b u e => Heap.get?_push_of_some _ (k1 b u e))
  have x : TS.TupsOk (s1.heap.push (seqObj "list" vs.toArray 0)) d B vs := fun v hv => by
    rw [hes] at hv
    obtain ⟨q, hq, e⟩ := List.mem_map.mp hv
    rw [← e]
    exact ⟨q.2, tk q hq, (hB q hq).1, (hB q hq).2⟩
  refine wpAny_bind (wpAny_holding (TS.call_sort_tups (s := { s1 with heap := s1.heap.push (seqObj "list" vs.toArray 0) }) hoL hvl hd1 x fun out a1 a2 => ?_))
  obtain ⟨c, hc⟩ := sortedHeap_at (vs := vs) (out := out) hoL
  obtain ⟨L', pL, e'⟩ := permInv (F := L) (f := fun q => Value.ref q.1) (ys := out.toList) (by rw [← hes]; exact a1)
  have hs' : ∀ q ∈ L', q ∈ L := fun q hq => pL.mem_iff.mp hq
  have pw : L'.Pairwise (fun q r => TS.code B q.2 ≤ TS.code B r.2) := by
    rw [e'] at a2
    refine List.Pairwise.imp_of_mem (fun {q r} hq hr hle => ?_) (List.pairwise_map.mp a2)
    have f1 : TS.intsOf (s1.heap.push (seqObj "list" vs.toArray 0)) (.ref q.1) = q.2 := (tk q (hs' q hq)).ints
    have f2 : TS.intsOf (s1.heap.push (seqObj "list" vs.toArray 0)) (.ref r.1) = r.2 := (tk r (hs' r hr)).ints
    rw [← f1, ← f2]
    exact hle
  refine wpAny_pure ⟨_, rfl, hQ _ s1.heap.objs.size out c L' (fun b u e => ?_) g1 o1 hz hc e' pL pw⟩
  have q := k1 b u e
  have hlt := Heap.lt_size q
  show (sortedHeap (s1.heap.push (seqObj "list" vs.toArray 0)) s1.heap.objs.size vs out).get? b = some u
  rw [sortedHeap_old (Nat.ne_of_lt hlt) (by rw [size_push']; exact Nat.lt_succ_of_lt hlt)]
  exact Heap.get?_push_of_some _ q
end
section
variable {X : Cx}
theorem ints_keys {P : Program} {w : World} {es : List DictEntry} {vs : List (Key × Value)} (h : Pairs (mixKind P w) es vs) : ∀ {is : List Int}, vs.map (·.1) = is.map Sum.inl → IntsAre (es.map (·.key)) is := by
  induction h with
  | nil =>
    intro is e
    cases is with
    | nil => exact .nil
    | cons i is => cases e
  | cons k v t ih =>
    intro is e
    cases is with
    | nil => cases e
    | cons i is =>
      rw [List.map_cons, List.map_cons] at e
      injection e with e1 e2
      obtain ⟨tk, e3⟩ := Value.isInt_shape (show Value.isInt i _ = true from by have k' := k; rw [e1] at k'; exact k')
      rw [List.map_cons, e3]
      exact .cons i tk (ih e2)
def rSortedK : List V → Hp → VK → Prop := fun vs H Q => ∃ (a : Addr) (kvs : List (Key × V)) (is : List Int), vs = [V.ref a] ∧ H a = some (.dK kvs) ∧ kvs.map (·.1) = is.map Sum.inl ∧ is.length < 64 ∧
  ∀ (ns : List Int) (p : Addr), ns.Perm is → ns.Pairwise (· ≤ ·) → H p = none → Q (.ref p) (upd H p (.lst (ns.map V.int)))
theorem cr_sortedK (hc : X.calm = true) : CallR X (.builtin "sorted") rSortedK := by
  intro pins s σ H vs us Q I r h
  obtain ⟨a, kvs, is, rfl, ha, hk, h64, q⟩ := h
  rw [Vals.ref1 r]
  obtain ⟨_, hsys, ws, rel, dof⟩ := dk_of I.hok ha
  obtain ⟨ep, dat⟩ := dof.dictAt
  obtain ⟨ob, es, ho, hex, hdat, hko, hpr, hnd⟩ := id dat
  have hkeys : ws.map (·.1) = is.map Sum.inl := (KV.keys rel).symm.trans hk
  have hI := ints_keys hpr hkeys
  have hlen : es.size < 64 := by
    have := IntsAre.length hI
    rw [List.length_map, Array.length_toList] at this
    omega
  refine sorted_dictI (I.ok.hd hc) hsys ho hex hdat hlen hI fun s' p out c ns k g o hp hg hi hs hm => ?_
  have hz : (ns.map V.int).length ≤ sizeLine := by rw [List.length_map, hs.length_eq, sizeLine_eq]; omega
  have hn : H p = none := I.hok.fresh hp
  have J : Inv X pins σ (upd H p (.lst (ns.map V.int))) { s with heap := s'.heap, gens := s'.gens, drawn := s'.drawn, toks := s'.toks } :=
    I.call (ch := []) (Un.laid k hp hn) (I.hok.laid k hp ⟨hz, out.toList, c, vals_of_ints hi, hg⟩) (by rw [g]; exact I.bare) (fun _ z => nomatch z)
  have e : s' = { s with heap := s'.heap, gens := s'.gens, drawn := s'.drawn, toks := s'.toks } := by
    cases s'
    have o' : _ = s.os := o
    subst o'
    rfl
  rw [e]
  exact ⟨.ref p, _, J, rfl, q ns p hs hm hn⟩
/-- the keys as tuples of whole numbers -/
def ikey (k : List Int) : List Key := k.map Sum.inl
theorem ikey_kV (k : List Int) : (ikey k).map kV = k.map V.int := by
  unfold ikey
  rw [List.map_map]
  rfl
def rSortedDT (P : Program) (w : World) : List V → Hp → VK → Prop := fun vs H Q => ∃ (a : Addr) (kvs : List (List Key × V)) (ks : List (List Int)) (d : Nat) (B : Int), vs = [V.ref a] ∧ H a = some (.dT kvs) ∧ kvs.map (·.1) = ks.map ikey ∧ ks.length < 64 ∧ 1 ≤ d ∧ (∀ k ∈ ks, k.length = d ∧ TS.Bd B k) ∧
  ∀ (L : List (Addr × List Int)) (p : Addr), (L.map (·.2)).Perm ks → L.Pairwise (fun q r => TS.code B q.2 ≤ TS.code B r.2) → (∀ q ∈ L, H q.1 = some (.tup (q.2.map V.int))) → H p = none → Q (.ref p) (upd H p (.lst (L.map fun q => V.ref q.1)))
theorem kt_list {P : Program} {w : World} {H : Hp} : ∀ {kvs : List (List Key × V)} {xs : List (List Key × Addr × Value)} {ks : List (List Int)}, KT H kvs xs → kvs.map (·.1) = ks.map ikey → ∃ L : List (Addr × List Int), xs.map (fun x => x.2.1) = L.map (·.1) ∧ L.map (·.2) = ks ∧ ∀ q ∈ L, H q.1 = some (.tup (q.2.map V.int))
  | [], _, [], .nil, _ => ⟨[], rfl, rfl, fun q hq => by cases hq⟩
  | [], _, _ :: _, .nil, e => by cases e
  | _ :: _, _, [], .cons _ _, e => by cases e
  | p :: kvs, x :: xs, k :: ks, .cons h t, e => by
    rw [List.map_cons, List.map_cons] at e
    injection e with e1 e2
    obtain ⟨L, h1, h2, h3⟩ := kt_list (P := P) (w := w) t e2
    obtain ⟨g1, g2, g3⟩ := h
    refine ⟨(x.2.1, k) :: L, by rw [List.map_cons, List.map_cons, h1], by rw [List.map_cons, h2], fun q hq => ?_⟩
    rcases List.mem_cons.mp hq with rfl | hq
    · rw [e1, ikey_kV] at g2
      exact g2
    · exact h3 q hq
theorem cr_sortedDT (hc : X.calm = true) : CallR X (.builtin "sorted") (rSortedDT X.prog X.w) := by
  intro pins s σ H vs us Q I r h
  obtain ⟨a, kvs, ks, d, B, rfl, ha, hk, h64, hd1, hB, q⟩ := h
  rw [Vals.ref1 r]
  obtain ⟨_, hsys, xs, rel, dof⟩ := dt_of I.hok ha
  obtain ⟨ob, es, ep, ho, hex, hdat, hes, _, hnd⟩ := id dof
  obtain ⟨L, h1, h2, h3⟩ := kt_list (P := X.prog) (w := X.w) rel hk
  have hes2 : es.toList.map (·.key) = L.map fun q => Value.ref q.1 := by
    have : es.toList.map (·.key) = (xs.map (fun x => x.2.1)).map Value.ref := by
      rw [hes, List.map_map, List.map_map]
      rfl
    rw [this, h1, List.map_map]
    rfl
  have hlen : es.size < 64 := by
    have e1 := congrArg List.length hes2
    rw [List.length_map, List.length_map, Array.length_toList] at e1
    have e2 := congrArg List.length h2
    rw [List.length_map] at e2
    omega
  have hT : ∀ q ∈ L, IsT X.prog X.w s.heap q.2 q.1 := fun q hq => I.isT (.inl (.inl (h3 q hq)))
  refine sorted_dictT (I.ok.hd hc) hsys ho hex hdat hlen hes2 hT hd1 (fun p hp => hB p.2 (by rw [← h2]; exact List.mem_map.mpr ⟨p, hp, rfl⟩)) fun s' p out c L' k g o hp hg hi hpm hpw => ?_
  have hz : (L'.map fun q => V.ref q.1).length ≤ sizeLine := by
    have e2 := congrArg List.length h2
    rw [List.length_map] at e2
    rw [List.length_map, hpm.length_eq, sizeLine_eq]
    omega
  have hn : H p = none := I.hok.fresh hp
  have J : Inv X pins σ (upd H p (.lst (L'.map fun q => V.ref q.1))) { s with heap := s'.heap, gens := s'.gens, drawn := s'.drawn, toks := s'.toks } :=
    I.call (ch := []) (Un.laid k hp hn) (I.hok.laid k hp ⟨hz, out.toList, c, by rw [hi]; exact vals_of_refs L', hg⟩) (by rw [g]; exact I.bare) (fun _ z => nomatch z)
  have e : s' = { s with heap := s'.heap, gens := s'.gens, drawn := s'.drawn, toks := s'.toks } := by
    cases s'
    have o' : _ = s.os := o
    subst o'
    rfl
  rw [e]
  exact ⟨.ref p, _, J, rfl, q L' p (by rw [← h2]; exact hpm.map _) hpw (fun q hq => h3 q (hpm.mem_iff.mp hq)) hn⟩
end
end HM
namespace HM
open PySem PySem.Spec PyProof.Rows L2
/-- a set as it is made -/
abbrev newSetO (w : World) : Obj := { cls := .type "set", dict := none, data := .set #[] 0 (.fresh 0 0 (!w.params.followText "set-order")) }
section
variable {P : Program} {w : World} {A : Around} {E : Value → Shared → Prop} {s : Shared}
set_option maxHeartbeats 8000000 in
/-- set(xs), xs a list of whole numbers -/
theorem set_of_ints {l : Addr} {items : Array Value} (ns : List Int) {Q : Value → Shared → Prop} (hh : A.handled = none) (hl : s.heap.IsList l items) (hit : IntsAre items.toList ns) (hb : ns.length + 1 < scanBound)
    (h : ∀ (h' : Heap) (tk c : Nat), SetR w h' s.heap.objs.size (fun j => decide (j ∈ ns)) c → c ≤ ns.length → (∀ b o, s.heap.get? b = some o → h'.get? b = some o) → Q (.ref s.heap.objs.size) { s with heap := h', toks := tk }) :
    wpAny (model P w) A (call (.type "set") [.ref l]) Q E s := by
  have hsize : items.size = ns.length := by rw [← Array.length_toList]; exact IntsAre.length hit
  have hlS : l < s.heap.objs.size := let ⟨_, e, _⟩ := hl; Heap.lt_size e
  obtain ⟨c0, tl, hmro⟩ := F.called_set.mro
  have hmade := F.called_set.made
  have hsub := F.called_set.sub
  refine wpAny_call (codeAny_of_tree (show wpAny _ _ (callAny (.type "set") _) _ _ _ from wpAny_pure ⟨Code.quiet_builtin _ (by decide +kernel), codeAny_builtin F.entry_type_call ?_⟩))
  rw [Around.under_plain (weight_type_call_type "set" [.ref l] []) rfl]
  have h1 := F.called_set.notType
  have h2 := F.called_set.canCreate
  have hct := F.typeCall_set_1 (.ref l)
  repeat (any_goals (first | assumption | wp_step))
  refine codeAny_mono (code_set_led1 (.ref l) (E := E) (Q₁ := fun obj s₁ => obj = .ref s.heap.objs.size ∧ s₁ = { s with heap := s.heap.push (newSetO w) }) ⟨rfl, rfl⟩) fun r s₁ hr => ?_
  match r, hr with
  | .error e, hr => exact hr
  | .ok .next, hr => exact hr.elim
  | .ok .brk, hr => exact hr.elim
  | .ok .cont, hr => exact hr.elim
  | .ok (.ret obj), hr =>
    obtain ⟨rfl, rfl⟩ := hr
    have hS : (s.heap.push (newSetO w)).get? s.heap.objs.size = some (newSetO w) := Heap.get?_push_size _ rfl
    have hT : Shared.TypeIs { s with heap := s.heap.push (newSetO w) } (.ref s.heap.objs.size) "set" := ⟨_, hS, rfl⟩
    have hz1 : (s.heap.push (newSetO w)).objs.size = s.heap.objs.size + 1 := Heap.size_push ..
    have hli := F.called_set.init.lookup
    have hbi := F.called_set.init.bind (.ref s.heap.objs.size)
    repeat (any_goals (first | assumption | wp_step))
    refine codeAny_mono (codeAny_call_builtin (R := wants (fun r s₂ => r = .none ∧ ∃ h' tk c, s₂ = { s with heap := h', toks := tk } ∧ SetR w h' s.heap.objs.size (fun j => decide (j ∈ ns)) c ∧ c ≤ ns.length ∧ (∀ b o, s.heap.get? b = some o → h'.get? b = some o)) E)
      F.called_set.init.plain F.entry_set_init (check_set_init_1 hT ?_)) fun r₂ s₂ hr₂ => ?_
    · obtain ⟨⟨ocls, odict, odata, oslots⟩, hol, hcl, nl, hdl⟩ := hl
      simp only at hcl hdl
      subst hcl hdl
      have hol1 : (s.heap.push (newSetO w)).get? l = some { cls := .type "list", dict := odict, data := .seq items nl, slots := oslots } := Heap.get?_push_of_some _ hol
      have hl1 : (s.heap.push (newSetO w)).IsList l items := ⟨_, hol1, rfl, nl, rfl⟩
      have hsls := F.sub_list_set
      have hslf := F.sub_list_frozenset
      have hne : (Value.type "list" == Value.type "dict") = false := by decide
      unfold Builtin.«set.__init__» noKeywords Builtin.Frozenset.updateFrom
      generalize hPI : pyIter = PI
      wp_walk
      subst hPI
      refine wpAny_pyIter_list hl1 (wpAny_bind (wpAny_runValue ?_))
      have hneI : l ≠ (s.heap.push (newSetO w)).objs.size := by rw [hz1]; exact Nat.ne_of_lt (Nat.lt_succ_of_lt hlS)
      have hSf : s.heap.objs.size ∉ [(s.heap.push (newSetO w)).objs.size, l] := by
        rw [hz1]
        simp only [List.mem_cons, List.not_mem_nil, or_false, not_or]
        exact ⟨Nat.ne_of_lt (Nat.lt_succ_self _), Nat.ne_of_gt hlS⟩
      refine set_update_ints ((Walks.list (by simp [hh]) _ l hneI items).toS) s.heap.objs.size hSf ns hsize hb (fun i v hv => ?_) (items.size - 0) 0 _ (by omega) (Nat.zero_le _)
        ⟨⟨_, Heap.get?_push_size _ rfl, rfl, rfl⟩, (hl1.push _)⟩ ⟨0, Nat.le_refl 0, setR_new_at (Heap.get?_push_of_some _ hS)⟩ ?hR
      · have hi : i < ns.length := by rw [← hsize]; exact (Array.getElem?_eq_some_iff.mp hv).1
        obtain ⟨t, e⟩ := PyProof.Rows.IntsAre.int_at hit i v (by rw [Array.getElem?_toList]; exact hv)
        refine ⟨ns[i], t, List.getElem?_eq_getElem hi, ?_⟩
        rw [e, List.getD_eq_getElem?_getD, List.getElem?_eq_getElem hi] <;> rfl
      case hR =>
        intro s' c' hm hc' hS'
        obtain ⟨h', g2, d', tk', os'⟩ := s'
        obtain rfl : g2 = s.gens := hm.gens
        obtain rfl : d' = s.drawn := hm.drawn
        obtain rfl : os' = s.os := hm.os
        rw [hsize] at hc'
        refine wpAny_pure (show wpAny _ _ (ret Value.none) _ _ _ from wpAny_pure ⟨rfl, h', tk', c', rfl, hS', hc', fun b o e => ?_⟩)
        have hb0 : b < s.heap.objs.size := Heap.lt_size e
        refine hm.heap b o ?_ (Heap.get?_push_of_some _ (Heap.get?_push_of_some _ e))
        rw [hz1]
        simp only [List.mem_cons, List.not_mem_nil, or_false, not_or]
        exact ⟨Nat.ne_of_lt hb0, Nat.ne_of_lt (Nat.lt_succ_of_lt hb0)⟩
    · match r₂, hr₂ with
      | .error e, hr₂ => exact hr₂
      | .ok .next, hr₂ => exact hr₂.elim
      | .ok .brk, hr₂ => exact hr₂.elim
      | .ok .cont, hr₂ => exact hr₂.elim
      | .ok (.ret r), hr₂ =>
        obtain ⟨rfl, h', tk, c', rfl, hS', hc', hk'⟩ := hr₂
        repeat (any_goals (first | assumption | wp_step))
        exact h _ _ _ hS' hc' hk'
end
end HM
namespace HM
open PySem PySem.Spec PyProof.Rows L2
theorem addI_at {P : Program} {w : World} {A : Around} {E : Value → Shared → Prop} {s : Shared} {a : Addr} {S : Int → Bool} {n : Nat} {k : Int} {tk : Tok} {Q : Bool → Shared → Prop} (R : SetR w s.heap a S n) (room : n + 1 < scanBound)
    (h : ∀ h', Heap.SameBut a s.heap h' → SetR w h' a (fun j => S j || decide (j = k)) (if S k = true then n else n + 1) → Q (!S k) { s with heap := h', toks := s.toks + 1 }) : wpAny (model P w) A (setAdd a (.int k tk)) Q E s := by
  unfold setAdd
  exact wpAny_holding (wpAny_bind ((intKind P w).pyHash (k := k) (intKind_is _ _ _ _) (setR_add_hashed (s := { s with toks := s.toks + 1 }) R room fun h' sb R2 => h h' sb R2)))
section
variable {X : Cx}
def rSetI (K : PySem.W.Frag) (w : World) : List V → Hp → VK → Prop := fun xs H Q => ∃ (l : Addr) (ns : List Int), xs = [V.ref l] ∧ SqL K H l (ns.map V.int) ∧ ns.length ≤ 1000 ∧
  ∀ a c, H a = none → c ≤ ns.length → Q (.ref a) (upd H a (SetO w a (fun j => decide (j ∈ ns)) c))
theorem cr_setI (hc : X.calm = true) : CallR X (.type "set") (rSetI X.K X.w) := by
  intro pins s σ H xs us Q I r h
  obtain ⟨l, ns, rfl, hq, hl, q⟩ := h
  obtain ⟨u, rfl, rx⟩ := vals1 r
  cases rx
  obtain ⟨its, rv, pl, hz⟩ := I.list hq
  refine set_of_ints ns (I.ok.hd hc) pl.isList (by simpa using rv.ints) (by unfold scanBound; omega) fun h' tk c hS hcl hk => ?_
  have hn : H s.heap.objs.size = none := I.hok.fresh (Nat.le_refl _)
  exact ⟨.ref _, _, I.laid (t' := tk) hk (Nat.le_refl _) (setO_new hS), rfl, q _ c hn hcl⟩
/-- {e}, e a whole number -/
def tSetOneI (w : World) (te : TE) : TE := fun σ H Q => ∀ a, H a = none → te σ (upd H a (SetO w a (fun _ => false) 0)) fun x H1 => ∃ k : Int, x = .int k ∧ H1 a = some (SetO w a (fun _ => false) 0) ∧ Q (.ref a) (upd H1 a (SetO w a (fun j => decide (j = k)) 1))
theorem pe_setOneI {e : Expr} {te : TE} {pos : Pos} (hcd : PySem.W.kdsCode X.K X.env.code = true) (he : PE X e te) (hs : starEach [e] X.env = [(false, eval e X.env)] := by rfl) : PE X (.Set [e] 0 pos) (tSetOneI X.w te) := by
  refine ⟨fun pins s σ H Q I h => ?_⟩
  rw [arm_eval_Set]
  refine wpAny_bind (wpAny_standAt (wpAny_bind (PySem.W.kds_main I.kIn hcd fun b => ?_)))
  rw [hs]
  unfold setDisplay
  try dsimp only
  refine PySem.W.KFB.if_not (by rfl) (wpAny_bind (PySem.wpAny_newSet_raw fun led el => ?_))
  subst el
  have new : SetR X.w (s.heap.push (newSetO X.w)) s.heap.objs.size (fun _ => false) 0 := (setR_new_at (ns := []) (Heap.get?_push_size _ rfl)).congr fun j => by simp
  have hn : H s.heap.objs.size = none := I.hok.fresh (Nat.le_refl _)
  have I1 := I.laid (t' := s.toks) (fun b u e => Heap.get?_push_of_some _ e) (Nat.le_refl _) (setO_new (H := upd H s.heap.objs.size (SetO X.w s.heap.objs.size (fun _ => false) 0)) (P := X.prog) new)
  dsimp only
  refine wpAny_bind (wpAny_holding (show wpAny _ _ (evalAll [do let v ← eval e X.env; standAt pos; pure v] >>= _) _ _ _ from wpAny_bind ?_))
  unfold evalAll
  refine wpAny_bind (wpAny_bind (thn (he.run pins _ σ _ _ I1 (h _ hn)) fun v s2 hv => wpAny_bind (wpAny_standAt (wpAny_pure ?_))))
  refine wpAny_bind (wpAny_holding ?_)
  unfold evalAll
  refine wpAny_pure (wpAny_pure ?_)
  obtain ⟨x, H2, I2, r2, k, rfl, ea, q⟩ := hv
  obtain ⟨tk, rfl⟩ := r2
  refine wpAny_bind (wpAny_holding ?_)
  simp only [List.forIn_cons, List.forIn_nil]
  have R := setO_get I2 ea
  refine wpAny_bind (wpAny_bind (wpAny_bind (addI_at R (by decide) fun h' sb R2 => wpAny_pure ?_)))
  dsimp only
  refine wpAny_pure (PySem.W.KFB.if_not (by rfl) (wpAny_pure ?_))
  show wpAny _ _ (do forIn ([] : List (Bool × Sem Value)) PUnit.unit _; pure ()) _ _ _
  rw [List.forIn_nil]
  refine wpAny_bind (wpAny_pure (wpAny_pure (wpAny_pure ?_)))
  have R3 : SetR X.w h' s.heap.objs.size (fun j => decide (j = k)) 1 := by
    have := R2.congr (S' := fun j => decide (j = k)) fun j => by simp
    simpa using this
  have he2 : ∃ u, h'.get? s.heap.objs.size = some u := let ⟨o9, _, _, _, y9, _⟩ := R3; ⟨o9, y9⟩
  exact ⟨.ref s.heap.objs.size, _, I2.write (e := s.heap.objs.size) (t' := _) (by rw [ea]; trivial) (.inl rfl) (fun b u hb hu => (sb.2 b hb).trans hu) he2 (setO_new R3), rfl, q⟩
/-! ### {k: v}, k a tuple -/
def tDispT (tk tv : TE) : TE := fun σ H Q => ∀ p, H p = none → tk σ (upd H p (.dT [])) fun x H1 => tv σ H1 fun y H2 => ∃ b k, x = .ref b ∧ H2 b = some (.tup (k.map kV)) ∧ H2 p = some (.dT []) ∧ Q (.ref p) (upd H2 p (.dT [(k, y)]))
theorem pe_dispT {ke ve : Expr} {tk tv : TE} {pos : Pos} (hu : X.A.units + 1 < cLine) (hk : PE X ke tk) (hv : PE X ve tv) : PE X (.Dict [some ke] [ve] pos) (tDispT tk tv) := by
  refine ⟨fun pins s σ H Q I h => ?_⟩
  have hsh : (evalEachOpt [some ke] X.env).zip ((evalEach [ve] X.env).map fun v => do let x ← v; standAt pos; pure x) = ([(eval ke X.env, do let x ← eval ve X.env; standAt pos; pure x)] : List (Sem Value × Sem Value)).map fun p => (some p.1, p.2) := rfl
  rw [arm_eval_Dict, hsh, dictDisplay_pairs _ (by simp) (by simp)]
  refine wpAny_bind (wpAny_standAt (wpAny_bind ?_))
  unfold subDict
  refine wpAny_bind (wpAny_alloc ?_)
  have hn : H s.heap.objs.size = none := I.hok.fresh (Nat.le_refl _)
  have I1 := I.laid (a := s.heap.objs.size) (o := .dT []) (t' := s.toks) (fun _ _ q => Heap.get?_push_of_some _ q) (Nat.le_refl _) (dt_empty s.heap I.big)
  refine wpAny_bind (wpAny_holding ?_)
  rw [if_pos (by simp)]
  refine wpAny_bind (evalPairs_cons (thn (hk.run pins _ σ _ _ I1 (h _ hn)) fun u s1 ⟨x, H1, J1, rx, q1⟩ => wpAny_bind (thn (hv.run pins s1 σ H1 _ J1 q1) fun v s2 ⟨y, H2, J2, ry, b, k, ex, eb, ep, q2⟩ => wpAny_bind (wpAny_standAt (wpAny_pure (evalPairs_nil ?_))))))
  subst ex
  cases rx
  refine wpAny_holding ?_
  simp only [List.forIn_cons, List.forIn_nil]
  obtain ⟨z, hd, xs, rel, dd⟩ := dt_of J2.hok ep
  cases rel
  refine wpAny_bind (wpAny_bind (wpAny_bind (wpAny_dictSet_heap (hsz := by simp) (show X.A.units < cLine by omega) (key_of J2.hok eb) dd fun h' dd' hs => wpAny_pure (wpAny_pure (wpAny_pure (wpAny_pure (wpAny_pure ?_)))))))
  obtain ⟨q, es, ep', hq, h2, h3, h4, _, h5⟩ := dd'
  refine ⟨.ref s.heap.objs.size, upd H2 s.heap.objs.size (.dT [(k, y)]), d_write J2 (by rw [ep]; exact True.intro) hs ⟨q, hq⟩ ⟨by show 1 ≤ sizeLine; decide, hd, _, .cons ⟨rfl, ?_, ry⟩ .nil, q, es, ep', hq, h2, h3, h4, h5⟩, rfl, q2⟩
  rw [upd_ne (ne_of eb ep (fun z => nomatch z))]
  exact eb
end
end HM
namespace VL
open PySem PySem.Spec PyProof.Rows L2 HM
/-! ### dicts of one's own -/
def keyD : Key → Dt
  | .inl i => .int i
  | .inr s => .str s
def tupD (k : List Key) : Dt := .tup (k.map keyD)
section
variable {κ : Type} [DecidableEq κ]
def valD (kvs : List (κ × Dt)) (k : κ) : Option Dt := (kvs.find? fun kv => decide (kv.1 = k)).map (·.2)
def putD (kvs : List (κ × Dt)) (k : κ) (v : Dt) : List (κ × Dt) :=
  if (kvs.any fun kv => decide (kv.1 = k)) = true then kvs.map (fun kv => if kv.1 = k then (kv.1, v) else kv) else kvs ++ [(k, v)]
theorem PrK.val {F : Hp} {k : κ} : ∀ {a : List (κ × V)} {b : List (κ × Dt)}, PrK F a b → (valV a k = none ∧ valD b k = none) ∨ ∃ v d, valV a k = some v ∧ valD b k = some d ∧ Rp F v d
  | _, _, .nil => .inl ⟨rfl, rfl⟩
  | p :: a, q :: b, .cons h t => by
    obtain ⟨h1, h2⟩ := h
    unfold valV valD
    by_cases e : p.1 = k
    · refine .inr ⟨p.2, q.2, ?_, ?_, h2⟩
      · rw [List.find?_cons_of_pos (by simpa using e)]; rfl
      · rw [List.find?_cons_of_pos (by rw [← h1]; simpa using e)]; rfl
    · rw [List.find?_cons_of_neg (by simpa using e), List.find?_cons_of_neg (by rw [← h1]; simpa using e)]
      exact PrK.val t
theorem PrK.any {F : Hp} {k : κ} : ∀ {a : List (κ × V)} {b : List (κ × Dt)}, PrK F a b → (a.any fun kv => decide (kv.1 = k)) = b.any fun kv => decide (kv.1 = k)
  | _, _, .nil => rfl
  | p :: a, q :: b, .cons h t => by rw [List.any_cons, List.any_cons, h.1, PrK.any t]
theorem PrK.mapp {F : Hp} {k : κ} {v : V} {d : Dt} (r : Rp F v d) : ∀ {a : List (κ × V)} {b : List (κ × Dt)}, PrK F a b → PrK F (a.map fun kv => if kv.1 = k then (kv.1, v) else kv) (b.map fun kv => if kv.1 = k then (kv.1, d) else kv)
  | _, _, .nil => .nil
  | p :: a, q :: b, .cons h t => by
    rw [List.map_cons, List.map_cons]
    refine .cons ?_ (PrK.mapp r t)
    by_cases e : p.1 = k
    · rw [if_pos e, if_pos (by rw [← h.1]; exact e)]
      exact ⟨h.1, r⟩
    · rw [if_neg e, if_neg (by rw [← h.1]; exact e)]
      exact h
theorem PrK.app {F : Hp} : ∀ {a a2 : List (κ × V)} {b b2 : List (κ × Dt)}, PrK F a b → PrK F a2 b2 → PrK F (a ++ a2) (b ++ b2)
  | _, _, _, _, .nil, s => s
  | _, _, _, _, .cons h t, s => .cons h (PrK.app t s)
theorem PrK.put {F : Hp} {k : κ} {v : V} {d : Dt} (r : Rp F v d) {a : List (κ × V)} {b : List (κ × Dt)} (h : PrK F a b) : PrK F (putK a k v) (putD b k d) := by
  unfold putK putD
  rw [h.any]
  split
  · exact PrK.mapp r h
  · exact PrK.app h (.cons ⟨rfl, r⟩ .nil)
theorem PrK.len {F : Hp} {a : List (κ × V)} {b : List (κ × Dt)} (h : PrK F a b) : a.length = b.length := Paired.length h
theorem PrK.keys {F : Hp} : ∀ {a : List (κ × V)} {b : List (κ × Dt)}, PrK F a b → a.map (·.1) = b.map (·.1)
  | _, _, .nil => rfl
  | _, _, .cons h t => by rw [List.map_cons, List.map_cons, h.1, PrK.keys t]
end
theorem Rp.key {F : Hp} {v : V} {k : Key} (h : Rp F v (keyD k)) : v = kV k := by
  cases k with
  | inl i => exact h.int_inv
  | inr s => exact h.str_inv
theorem Rps.keys {F : Hp} : ∀ {vs : List V} {k : List Key}, Rps F vs (k.map keyD) → vs = k.map kV
  | _, [], .nil => rfl
  | _, k :: ks, .cons h t => by rw [List.map_cons, h.key, Rps.keys t]
theorem Rp.tupk {F : Hp} {v : V} {k : List Key} (h : Rp F v (tupD k)) : ∃ b, v = .ref b ∧ F b = some (.tup (k.map kV)) := by
  obtain ⟨a, xs, rfl, hF, rx⟩ := Rp.tup_inv h
  exact ⟨a, rfl, by rw [← rx.keys]; exact hF⟩
theorem tupD_ikey (k : List Int) : tupD (ikey k) = .tup (k.map Dt.int) := by
  unfold tupD ikey
  rw [List.map_map]
  rfl
section
variable {c : Fc} {X : Cx} {a b e o : Expr} {es : List Expr} {te ta tb : VTE} {tas : VTA} {pos apos p : Pos}
/-- slot i holds a dict: what stands at k -/
def hasD (env : Ev) (i : Nat) (d : Dt) (r : Option Dt) : Prop := (∃ kvs k, env[i]? = some (.ow (.dK kvs)) ∧ d = keyD k ∧ r = valD kvs k) ∨ ∃ kvs k, env[i]? = some (.ow (.dT kvs)) ∧ d = tupD k ∧ r = valD kvs k
def isDk (env : Ev) (i : Nat) : Prop := (∃ kvs, env[i]? = some (.ow (.dK kvs))) ∨ ∃ kvs, env[i]? = some (.ow (.dT kvs))
theorem Rel.slotA {F H : Hp} {σ : L2.St} {env : Ev} {n i : Nat} {k : Con} (r : Rel c F H σ env n) (e : env[i]? = some (.ow k)) : ∃ a o, σ[i]? = some (some (.ref a)) ∧ H a = some o ∧ OwOk F a o k := by
  obtain ⟨a, o, g1, _, _, _, g5, g6⟩ := r.sl i _ e
  exact ⟨a, o, g1, g5, g6⟩
theorem hasD.get {F H : Hp} {σ : L2.St} {env : Ev} {n i : Nat} {y : V} {d : Dt} {r : Option Dt} (rr : Rel c F H σ env n) (ry : Rp F y d) (h : hasD env i d r) : ∃ a v, σ[i]? = some (some (.ref a)) ∧ DGet H a y v ∧ ((v = none ∧ r = none) ∨ ∃ x z, v = some x ∧ r = some z ∧ Rp F x z) := by
  rcases h with ⟨kvs, k, e, rfl, rfl⟩ | ⟨kvs, k, e, rfl, rfl⟩
  · obtain ⟨a, o, g1, g5, ks, rfl, pr⟩ := rr.slotA e
    rw [ry.key]
    refine ⟨a, valV ks k, g1, .inl ⟨ks, k, .inl g5, rfl, rfl⟩, ?_⟩
    rcases pr.val (k := k) with ⟨h1, h2⟩ | ⟨x, z, h1, h2, h3⟩
    · exact .inl ⟨h1, h2⟩
    · exact .inr ⟨x, z, h1, h2, h3⟩
  · obtain ⟨a, o, g1, g5, ks, rfl, pr⟩ := rr.slotA e
    obtain ⟨bb, rfl, hb⟩ := ry.tupk
    refine ⟨a, valV ks k, g1, .inr ⟨ks, k, bb, .inl g5, rfl, rr.sub _ _ hb, rfl⟩, ?_⟩
    rcases pr.val (k := k) with ⟨h1, h2⟩ | ⟨x, z, h1, h2, h3⟩
    · exact .inl ⟨h1, h2⟩
    · exact .inr ⟨x, z, h1, h2, h3⟩
theorem isDk.at {F H : Hp} {σ : L2.St} {env : Ev} {n i : Nat} (rr : Rel c F H σ env n) (h : isDk env i) : ∃ a, σ[i]? = some (some (.ref a)) := by
  rcases h with ⟨kvs, e⟩ | ⟨kvs, e⟩
  · obtain ⟨a, _, g, _⟩ := rr.slotA e
    exact ⟨a, g⟩
  · obtain ⟨a, _, g, _⟩ := rr.slotA e
    exact ⟨a, g⟩
/-- k in d -/
def vDIn (neg : Bool) (i : Nat) (te : VTE) : VTE := fun env n Q => te env n fun d env1 n1 => ∃ r, hasD env1 i d r ∧ Q (.bl (if neg then !r.isSome else r.isSome)) env1 n1
theorem din_of {i : Nat} {σ : L2.St} {H : Hp} {R : VK} (h : tOf c (vDIn false i te) σ H R) : tDIn (tOf c te) (tVar i) σ H R := by
  obtain ⟨F, env, n, Q, rr, h, k⟩ := h
  refine ⟨F, env, n, _, rr, h, fun y H1 F1 d env1 n1 r1 u1 p1 q1 => ?_⟩
  obtain ⟨r, hd, q1⟩ := q1
  obtain ⟨a, v, e1, g, hv⟩ := hd.get r1 p1
  refine ⟨_, e1, a, v, rfl, g, ?_⟩
  have : v.isSome = r.isSome := by rcases hv with ⟨rfl, rfl⟩ | ⟨x, z, rfl, rfl, _⟩ <;> rfl
  rw [this]
  exact k _ H1 F1 _ env1 n1 r1 u1 (.bl _) q1
theorem dnotin_of {i : Nat} {σ : L2.St} {H : Hp} {R : VK} (h : tOf c (vDIn true i te) σ H R) : tDNotIn (tOf c te) (tVar i) σ H R := by
  obtain ⟨F, env, n, Q, rr, h, k⟩ := h
  refine ⟨F, env, n, _, rr, h, fun y H1 F1 d env1 n1 r1 u1 p1 q1 => ?_⟩
  obtain ⟨r, hd, q1⟩ := q1
  obtain ⟨a, v, e1, g, hv⟩ := hd.get r1 p1
  refine ⟨_, e1, a, v, rfl, g, ?_⟩
  have : v.isSome = r.isSome := by rcases hv with ⟨rfl, rfl⟩ | ⟨x, z, rfl, rfl, _⟩ <;> rfl
  rw [this]
  exact k _ H1 F1 _ env1 n1 r1 u1 (.bl _) q1
theorem testB_of {te : VTE} {t : TE} (h : ∀ {σ H R}, tOf c te σ H R → t σ H R) {σ : L2.St} {H : Hp} {R : Bool → Hp → Prop} (q : cOf c (vB te) σ H R) : tB t σ H R := by
  obtain ⟨F, env, n, Q, rr, q, k⟩ := q
  refine h ⟨F, env, n, _, rr, q, fun v H' F' d env' n' r' u rp qd => ?_⟩
  obtain ⟨bb, rfl, qd⟩ := qd
  exact ⟨bb, rp.bl_inv, k bb H' F' env' n' r' u qd⟩
theorem vt_din {i : Nat} (hu : X.A.units + 1 < cLine) (ha : PE X a (tOf c te)) (hb : PE X b (tVar i)) (h1 : behindInMarks .In b = false := by rfl) : PT X (.Compare a [.In] [b] pos) (cOf c (vB (vDIn false i te))) := PT.imp (pt_cmp (pc_din hu ha hb) h1) fun _ _ _ => testB_of din_of
theorem vt_dnotin {i : Nat} (hu : X.A.units + 1 < cLine) (ha : PE X a (tOf c te)) (hb : PE X b (tVar i)) (h1 : behindInMarks .NotIn b = false := by rfl) : PT X (.Compare a [.NotIn] [b] pos) (cOf c (vB (vDIn true i te))) := PT.imp (pt_cmp (pc_dnotin hu ha hb) h1) fun _ _ _ => testB_of dnotin_of
/-- d[k] -/
def vDGet (i : Nat) (te : VTE) : VTE := fun env n Q => isDk env i ∧ te env n fun d env1 n1 => ∃ z, hasD env1 i d (some z) ∧ Q z env1 n1
theorem ve_dget {i : Nat} (hu : X.A.units + 1 < cLine) (ho : PE X o (tVar i)) (hi : PE X e (tOf c te)) (hs : NoSl e) : PE X (.Subscript o e pos) (tOf c (vDGet i te)) := PE.imp (pe_dget hu ho hi hs) fun σ H R ⟨F, env, n, Q, rr, ⟨h0, h⟩, k⟩ => by
  obtain ⟨a, ea⟩ := h0.at rr
  refine ⟨_, ea, F, env, n, _, rr, h, fun y H1 F1 d env1 n1 r1 u1 p1 q1 => ?_⟩
  obtain ⟨z, hd, q1⟩ := q1
  obtain ⟨a2, v, e1, g, hv⟩ := hd.get r1 p1
  rw [ea] at e1
  cases e1
  rcases hv with ⟨_, z2⟩ | ⟨x, z2, rfl, e2, rz⟩
  · cases z2
  · cases e2
    exact ⟨a, x, rfl, g, k _ H1 F1 _ env1 n1 r1 u1 rz q1⟩
/-- d[k] = v -/
def vDPut (i : Nat) (tk tv : VTE) : VTS := fun V env n => tv env n fun z env1 n1 => isDk env1 i ∧ tk env1 n1 fun d env2 n2 =>
  (∃ kvs k, env2[i]? = some (.ow (.dK kvs)) ∧ d = keyD k ∧ kvs.length ≤ 1000 ∧ V.nx (env2.set i (.ow (.dK (putD kvs k z)))) n2) ∨ (∃ kvs k, env2[i]? = some (.ow (.dT kvs)) ∧ d = tupD k ∧ kvs.length ≤ 1000 ∧ V.nx (env2.set i (.ow (.dT (putD kvs k z)))) n2)
theorem vs_dput {i : Nat} {v : Expr} {tk tv : VTE} {p2 : Pos} (hu : X.A.units + 1 < cLine) (ho : PE X o (tVar i)) (hi : PE X e (tOf c tk)) (hv : PE X v (tOf c tv)) (hs : swapsWith v (some (.Subscript o e p2)) pos.line X.env = pure false) : PS X (.Assign [.Subscript o e p2] v pos) (sOf c (vDPut i tk tv)) := PS.imp (ps_dput hu ho hi hv hs) fun D σ H ⟨F, env, n, V, rr, h, k⟩ => by
  refine ⟨F, env, n, _, rr, h, fun v H1 F1 z env1 n1 r1 u1 p1 q1 => ?_⟩
  obtain ⟨h0, q1⟩ := q1
  obtain ⟨a, ea⟩ := h0.at r1
  refine ⟨_, ea, F1, env1, n1, _, r1, q1, fun y H2 F2 d env2 n2 r2 u2 p2 q2 => ?_⟩
  rcases q2 with ⟨kvs, kk, e, rfl, hl, q2⟩ | ⟨kvs, kk, e, rfl, hl, q2⟩
  · obtain ⟨a2, o2, g1, g5, ks, rfl, pr⟩ := r2.slotA e
    rw [ea] at g1
    cases g1
    rw [p2.key]
    exact ⟨a, _, rfl, .inl ⟨ks, kk, g5, rfl, small1000 (by rw [pr.len]; exact hl), rfl⟩, k.nx F2 _ σ _ n2 (r2.write (k' := .dK (putD kvs kk z)) e ea ⟨_, rfl, pr.put (p1.up u2)⟩) (u1.trans u2) q2⟩
  · obtain ⟨a2, o2, g1, g5, ks, rfl, pr⟩ := r2.slotA e
    rw [ea] at g1
    cases g1
    obtain ⟨bb, rfl, hb⟩ := p2.tupk
    exact ⟨a, _, rfl, .inr ⟨ks, kk, bb, g5, rfl, r2.sub _ _ hb, small1000 (by rw [pr.len]; exact hl), rfl⟩, k.nx F2 _ σ _ n2 (r2.write (k' := .dT (putD kvs kk z)) e ea ⟨_, rfl, pr.put (p1.up u2)⟩) (u1.trans u2) q2⟩
/-- len(d), keys tuples -/
def vDLenT (i : Nat) : VTE := fun env n Q => ∃ kvs, env[i]? = some (.ow (.dT kvs)) ∧ Q (.int kvs.length) env n
def vDLenK (i : Nat) : VTE := fun env n Q => ∃ kvs, env[i]? = some (.ow (.dK kvs)) ∧ Q (.int kvs.length) env n
theorem ve_dlenT {i : Nat} {p : Pos} (hg : Gl X "len") (hm : X.mg "len" = none) (ho : PE X o (tVar i)) (he : starEach [o] X.env = (false, eval o X.env) :: starEach [] X.env := by rfl) (hpl : (backTo pos (starEach [] X.env)).any (·.1) = false := by rfl) :
    PE X (.Call (.Name "len" p) [o] [] pos) (tOf c (vDLenT i)) := PE.imp (pe_callB call_len_dT hg hm PySem.boot_len (pa_cons ho pa_nil he) (by decide) (by decide) he hpl) fun σ H R ⟨F, env, n, Q, rr, ⟨kvs, e, q⟩, k⟩ => by
  obtain ⟨a, o, g1, g5, ks, rfl, pr⟩ := rr.slotA e
  exact ⟨_, g1, a, ks, rfl, g5, by rw [pr.len]; exact k _ H F _ env n rr (Up.refl F) (.int _) q⟩
/-- {} -/
theorem vn_dnewK : PE X (.Dict [] [] pos) (nOf c (fun env n Q => Q (.dK []) env n)) := PE.imp pe_dnewK fun σ H R ⟨F, env, n, Q, rr, q, k⟩ p np => nOf_new rr (Up.refl F) np (kk := .dK []) ⟨[], rfl, .nil⟩ q k
theorem vn_dnewT : PE X (.Dict [] [] pos) (nOf c (fun env n Q => Q (.dT []) env n)) := PE.imp pe_dnewT fun σ H R ⟨F, env, n, Q, rr, q, k⟩ p np => nOf_new rr (Up.refl F) np (kk := .dT []) ⟨[], rfl, .nil⟩ q k
/-- sorted(d) -/
def vDSortK (i : Nat) : VTN := fun env n Q => ∃ kvs is, env[i]? = some (.ow (.dK kvs)) ∧ kvs.map (·.1) = is.map Sum.inl ∧ is.length < 64 ∧ ∀ ns : List Int, ns.Perm is → ns.Pairwise (· ≤ ·) → Q (.lst (ns.map Dt.int)) env n
theorem vn_dsortK {i : Nat} {p : Pos} (hc : X.calm = true) (hg : Gl X "sorted") (hm : X.mg "sorted" = none) (ho : PE X o (tVar i)) (he : starEach [o] X.env = (false, eval o X.env) :: starEach [] X.env := by rfl) (hpl : (backTo pos (starEach [] X.env)).any (·.1) = false := by rfl) :
    PE X (.Call (.Name "sorted" p) [o] [] pos) (nOf c (vDSortK i)) := PE.imp (pe_callB (cr_sortedK hc) hg hm (by decide +kernel) (pa_cons ho pa_nil he) (by decide) (by decide) he hpl) fun σ H R ⟨F, env, n, Q, rr, ⟨kvs, is, e, hk, hl, q⟩, k⟩ => by
  obtain ⟨a, o, g1, g5, ks, rfl, pr⟩ := rr.slotA e
  exact ⟨_, g1, a, ks, is, rfl, g5, by rw [pr.keys]; exact hk, hl, fun ns p h1 h2 np => nOf_new rr (Up.refl F) np (kk := .lst (ns.map Dt.int)) ⟨_, rfl, Rps.ints ns⟩ (q ns h1 h2) k⟩
def vDSortT (i : Nat) : VTN := fun env n Q => ∃ kvs ks d B, env[i]? = some (.ow (.dT kvs)) ∧ kvs.map (·.1) = ks.map ikey ∧ ks.length < 64 ∧ 1 ≤ d ∧ (∀ k ∈ ks, k.length = d ∧ TS.Bd B k) ∧ ∀ ls : List (List Int), ls.Perm ks → ls.Pairwise (fun q r => TS.code B q ≤ TS.code B r) → Q (.lst (ls.map fun l => .tup (l.map Dt.int))) env n
end
end VL
namespace VL
open PySem PySem.Spec PyProof.Rows L2 HM
section
variable {c : Fc} {X : Cx} {a b e o : Expr} {es : List Expr} {te ta tb : VTE} {tas : VTA} {pos apos p : Pos}
theorem Rel.addTs {F H : Hp} {σ : L2.St} {env : Ev} {n : Nat} : ∀ {L : List (Addr × List Int)} (r : Rel c F H σ env n), (∀ q ∈ L, H q.1 = some (.tup (q.2.map V.int))) → ∃ F', Rel c F' H σ env n ∧ Up F F' ∧ Rps F' (L.map fun q => V.ref q.1) (L.map fun q => Dt.tup (q.2.map Dt.int))
  | [], r, _ => ⟨F, r, Up.refl F, .nil⟩
  | q :: L, r, h => by
    obtain ⟨r1, u1⟩ := r.addT (h q List.mem_cons_self)
    obtain ⟨F', r2, u2, rp⟩ := Rel.addTs (L := L) r1 fun p hp => h p (List.mem_cons_of_mem _ hp)
    exact ⟨F', r2, u1.trans u2, .cons (.tup (u2 _ _ upd_same) (Rps.ints _)) rp⟩
theorem vn_dsortT {i : Nat} {p : Pos} (hc : X.calm = true) (hg : Gl X "sorted") (hm : X.mg "sorted" = none) (ho : PE X o (tVar i)) (he : starEach [o] X.env = (false, eval o X.env) :: starEach [] X.env := by rfl) (hpl : (backTo pos (starEach [] X.env)).any (·.1) = false := by rfl) :
    PE X (.Call (.Name "sorted" p) [o] [] pos) (nOf c (vDSortT i)) := PE.imp (pe_callB (cr_sortedDT hc) hg hm (by decide +kernel) (pa_cons ho pa_nil he) (by decide) (by decide) he hpl) fun σ H R ⟨F, env, n, Q, rr, ⟨kvs, ks, d, B, e, hk, hl, hd, hB, q⟩, k⟩ => by
  obtain ⟨a, o, g1, g5, kws, rfl, pr⟩ := rr.slotA e
  refine ⟨_, g1, a, kws, ks, d, B, rfl, g5, by rw [pr.keys]; exact hk, hl, hd, hB, fun L p h1 h2 h3 np => ?_⟩
  obtain ⟨F', r', u', rp⟩ := rr.addTs h3
  have e1 : L.map (fun q => Dt.tup (q.2.map Dt.int)) = (L.map (·.2)).map fun l => Dt.tup (l.map Dt.int) := by rw [List.map_map]; rfl
  rw [e1] at rp
  exact nOf_new r' u' np (kk := .lst ((L.map (·.2)).map fun l => Dt.tup (l.map Dt.int))) ⟨_, rfl, rp⟩ (q (L.map (·.2)) h1 (List.pairwise_map.mpr h2)) k
end
/-! ### things made while others are worked out -/
section
variable {am : Am} {F0 H0 : Hp} {X : Cx} {a b e o : Expr} {te ta tb tk tv : VTE} {pos : Pos}
theorem Rel.laid {c : Fc} {F H : Hp} {σ : L2.St} {env : Ev} {n : Nat} {p : Addr} (r : Rel c F H σ env n) (np : H p = none) (o : HO) : Rel (c.wth p o) F (upd H p o) σ env n ∧ c.H0 p = none ∧ c.F0 p = none ∧ ¬ c.am.sp p := by
  obtain ⟨h0, ns, nf⟩ := r.new0 np
  refine ⟨(r.lay np o).push upd_same nf ns fun j k' e z => ?_, h0, ?_, ns⟩
  · obtain ⟨a2, o2, g1, _, _, _, g5, _⟩ := r.sl j _ e
    rw [g1] at z
    cases z
    rw [g5] at np
    cases np
  · cases e : c.F0 p with
    | none => rfl
    | some o => rw [r.up0 p o e] at nf; cases nf
/-- a kept thing is written, and is new -/
theorem nOf_wth {σ : L2.St} {H F F1 : Hp} {env : Ev} {n : Nat} {p : Addr} {o o' : HO} {kk : Con} {Q : Con → Ev → Nat → Prop} {R : VK} {c : Fc} (nto : NT o) (r : Rel (c.wth p o) F H σ env n) (h0 : c.H0 p = none) (hF0 : c.F0 p = none) (ns : ¬ c.am.sp p) (u : Up F1 F) (w : OwOk F p o' kk) (q : Q kk env n)
    (k : ∀ a o H' F' kk env' n', Rel c F' H' σ env' n' → Up F1 F' → F' a = none → c.H0 a = none → ¬ c.am.sp a → H' a = some o → OwOk F' a o kk → (∀ (j : Nat) k', env'[j]? = some (.ow k') → σ[j]? ≠ some (some (.ref a))) → Q kk env' n' → R (.ref a) H') : R (.ref p) (upd H p o') := by
  obtain ⟨r7, eD, fD, nD7⟩ := Rel.pop nto r h0 hF0 ns
  have r8 : Rel c F (upd H p o') σ env n := by
    refine ⟨fun b o e => ?_, r7.spf, r7.amb' fun b hb => upd_ne fun z => ns (z ▸ hb), r7.up0, r7.out0, fun b o e nb => ?_, r7.len, fun j s e => ?_, r7.apart⟩
    · rw [upd_ne fun z => by rw [z, fD] at e; cases e]; exact r7.sub b o e
    · rw [upd_ne fun z => by rw [z, h0] at e; cases e]; exact r7.keep0 b o e nb
    · have q := r7.sl j s e
      cases s with
      | no => trivial
      | fz d => exact q
      | ow kk =>
        obtain ⟨a, o, g1, g2, g3, g4, g5, g6⟩ := q
        exact ⟨a, o, g1, g2, g3, g4, by rw [upd_ne fun z => nD7 j kk e (by rw [g1, z])]; exact g5, g6⟩
  exact k p o' _ F kk env n r8 u fD h0 ns upd_same w nD7 q
/-- {k: v}, k a tuple; k a number or a text -/
def vDispT (tk tv : VTE) : VTN := fun env n Q => tk env n fun d env1 n1 => tv env1 n1 fun z env2 n2 => ∃ k, d = tupD k ∧ Q (.dT [(k, z)]) env2 n2
theorem vn_dispT {ke ve : Expr} (hu : X.A.units + 1 < cLine) (hk : ∀ F0 H0, PE X ke (tOf ⟨am, F0, H0⟩ tk)) (hv : ∀ F0 H0, PE X ve (tOf ⟨am, F0, H0⟩ tv)) : PE X (.Dict [some ke] [ve] pos) (nOf ⟨am, F0, H0⟩ (vDispT tk tv)) :=
  PE.imp (pe_dispT (tk := fun σ H R => ∃ F0 H0, tOf ⟨am, F0, H0⟩ tk σ H R) (tv := fun σ H R => ∃ F0 H0, tOf ⟨am, F0, H0⟩ tv σ H R) hu
    ⟨fun pins s σ H Q I ⟨F0, H0, q⟩ => (hk F0 H0).run pins s σ H Q I q⟩ ⟨fun pins s σ H Q I ⟨F0, H0, q⟩ => (hv F0 H0).run pins s σ H Q I q⟩) fun σ H R ⟨F, env, n, Q, rr, q, k⟩ p np => by
  obtain ⟨r1, h0, hF0, ns⟩ := rr.laid np (.dT [])
  refine ⟨F0, upd H0 p (.dT []), F, env, n, _, r1, q, fun x H2 F2 d env2 n2 r2 u2 p2 q2 => ⟨F0, upd H0 p (.dT []), F2, env2, n2, _, r2, q2, fun y H3 F3 z env3 n3 r3 u3 p3 q3 => ?_⟩⟩
  obtain ⟨kk, rfl, q3⟩ := q3
  obtain ⟨bb, rfl, hb⟩ := (p2.up u3).tupk
  obtain ⟨r7, eD, _, _⟩ := Rel.pop (c := ⟨am, F0, H0⟩) (fun _ z => by cases z) r3 h0 hF0 ns
  exact ⟨bb, kk, rfl, r3.sub _ _ hb, eD, nOf_wth (c := ⟨am, F0, H0⟩) (fun _ z => by cases z) r3 h0 hF0 ns (u2.trans u3) (kk := .dT [(kk, z)]) ⟨[(kk, y)], rfl, .cons ⟨rfl, p3⟩ .nil⟩ q3 k⟩
def vDispK (tk tv : VTE) : VTN := fun env n Q => tk env n fun d env1 n1 => tv env1 n1 fun z env2 n2 => ∃ k, d = keyD k ∧ Q (.dK [(k, z)]) env2 n2
theorem vn_dispK {ke ve : Expr} (hk : ∀ F0 H0, PE X ke (tOf ⟨am, F0, H0⟩ tk)) (hv : ∀ F0 H0, PE X ve (tOf ⟨am, F0, H0⟩ tv)) : PE X (.Dict [some ke] [ve] pos) (nOf ⟨am, F0, H0⟩ (vDispK tk tv)) :=
  PE.imp (pe_disp (pps_cons (tk := fun σ H R => ∃ F0 H0, tOf ⟨am, F0, H0⟩ tk σ H R) (tv := fun σ H R => ∃ F0 H0, tOf ⟨am, F0, H0⟩ tv σ H R) ⟨fun pins s σ H Q I ⟨F0, H0, q⟩ => (hk F0 H0).run pins s σ H Q I q⟩ ⟨fun pins s σ H Q I ⟨F0, H0, q⟩ => (hv F0 H0).run pins s σ H Q I q⟩ pps_nil) rfl rfl (by simp) (by simp)) fun σ H R ⟨F, env, n, Q, rr, q, k⟩ p np => by
  obtain ⟨r1, h0, hF0, ns⟩ := rr.laid np (.dK [])
  refine ⟨F0, upd H0 p (.dK []), F, env, n, _, r1, q, fun x H2 F2 d env2 n2 r2 u2 p2 q2 => ⟨F0, upd H0 p (.dK []), F2, env2, n2, _, r2, q2, fun y H3 F3 z env3 n3 r3 u3 p3 q3 => ?_⟩⟩
  obtain ⟨kk, rfl, q3⟩ := q3
  rw [p2.key]
  obtain ⟨r7, eD, _, _⟩ := Rel.pop (c := ⟨am, F0, H0⟩) (fun _ z => by cases z) r3 h0 hF0 ns
  refine ⟨eD, [(kk, y)], rfl, by simp, ?_⟩
  have em : mergeK [] [(kk, y)] = [(kk, y)] := by simp [mergeK, putK]
  rw [em]
  exact nOf_wth (c := ⟨am, F0, H0⟩) (fun _ z => by cases z) r3 h0 hF0 ns (u2.trans u3) (kk := .dK [(kk, z)]) ⟨[(kk, y)], rfl, .cons ⟨rfl, p3⟩ .nil⟩ q3 k
/-! ### sets of whole numbers -/
def vSetOneI (w : World) (te : VTE) : VTN := fun env n Q => te env n fun d env1 n1 => ∃ i : Int, d = .int i ∧ Q (.set w (fun j => decide (j = i)) 1) env1 n1
theorem vn_setOneI0 (hcd : PySem.W.kdsCode X.K X.env.code = true) (he : ∀ F0 H0, PE X e (tOf ⟨am, F0, H0⟩ te)) (hs : starEach [e] X.env = [(false, eval e X.env)] := by rfl) : PE X (.Set [e] 0 pos) (nOf ⟨am, F0, H0⟩ (vSetOneI X.w te)) :=
  PE.imp (pe_setOneI (te := fun σ H R => ∃ F0 H0, tOf ⟨am, F0, H0⟩ te σ H R) hcd ⟨fun pins s σ H Q I ⟨F0, H0, q⟩ => (he F0 H0).run pins s σ H Q I q⟩ hs) fun σ H R ⟨F, env, n, Q, rr, q, k⟩ p np => by
  obtain ⟨r1, h0, hF0, ns⟩ := rr.laid np (SetO X.w p (fun _ => false) 0)
  refine ⟨F0, _, F, env, n, _, r1, q, fun x H2 F2 d env2 n2 r2 u2 p2 q2 => ?_⟩
  obtain ⟨i, rfl, q2⟩ := q2
  have nto : NT (SetO X.w p (fun _ => false) 0) := fun _ z => by cases z
  obtain ⟨r7, eD, _, _⟩ := Rel.pop (c := ⟨am, F0, H0⟩) nto r2 h0 hF0 ns
  exact ⟨i, p2.int_inv, eD, nOf_wth (c := ⟨am, F0, H0⟩) nto r2 h0 hF0 ns u2 (kk := .set X.w (fun j => decide (j = i)) 1) rfl q2 k⟩
end
section
variable {c : Fc} {X : Cx} {a b e o : Expr} {es : List Expr} {te ta tb : VTE} {tas : VTA} {tn : VTN} {pos apos cpos p : Pos}
/-- s.add(k) -/
def vSAddW (w : World) (i : Nat) (te : VTE) : VTE := fun env n Q => (∃ S m, env[i]? = some (.ow (.set w S m))) ∧ te env n fun d env1 n1 => ∃ S m, ∃ k : Int, env1[i]? = some (.ow (.set w S m)) ∧ d = .int k ∧ m ≤ 1000 ∧ Q .non (env1.set i (.ow (.set w (fun j => S j || decide (j = k)) (if S k = true then m else m + 1)))) n1
theorem ve_sadd0 {i : Nat} (ho : PE X o (tVar i)) (ha : PE X e (tOf c te))
    (hbase : attributeBase o "add" X.env (eval o X.env) = eval o X.env := by rfl)
    (hfew : ((backTo cpos (starEach [e] X.env)).all (fun x => !x.1) && (backToKw cpos (keywordEach [] X.env)).all (fun x => x.1.isSome)
      && decide (([e] : List Expr).length + ([] : List Keyword).length + (if ([] : List Keyword).isEmpty then 0 else 1) < 30)) = true := by rfl)
    (hline : (apos.endLine == cpos.line) = true := by rfl) (hs : starEach [e] X.env = (false, eval e X.env) :: starEach [] X.env := by rfl) (hplain : (backTo cpos (starEach [] X.env)).any (·.1) = false := by rfl) :
    PE X (.Call (.Attribute o "add" apos) [e] [] cpos) (tOf c (vSAddW X.w i te)) := PE.imp (pe_sadd ho (pa_cons ha pa_nil hs) hbase hfew hline hs hplain) fun σ H R ⟨F, env, n, Q, rr, ⟨⟨S, m, e0⟩, h⟩, k⟩ => by
  obtain ⟨a, o, g1, g5, ow⟩ := rr.slotA e0
  have ow' : o = SetO X.w a S m := ow
  subst ow'
  refine ⟨_, g1, ⟨a, S, m, rfl, g5⟩, F, env, n, _, rr, h, fun v H1 F1 d env1 n1 r1 u1 p1 q1 => ?_⟩
  obtain ⟨S1, m1, kk, e1, rfl, hm, q1⟩ := q1
  obtain ⟨a2, o2, g2, g6, ow2⟩ := r1.slotA e1
  have ow2' : o2 = SetO X.w a2 S1 m1 := ow2
  subst ow2'
  rw [g1] at g2
  cases g2
  rw [p1.int_inv]
  exact ⟨a, kk, S1, m1, rfl, rfl, g6, by unfold scanBound; omega, k _ _ F1 _ _ n1 (r1.write (k' := .set X.w (fun j => S1 j || decide (j = kk)) (if S1 kk = true then m1 else m1 + 1)) e1 g1 rfl) u1 .non q1⟩
/-- k in s, k not in s -/
def vSIn (w : World) (neg : Bool) (i : Nat) (te : VTE) : VTE := fun env n Q => te env n fun d env1 n1 => ∃ S m, ∃ k : Int, env1[i]? = some (.ow (.set w S m)) ∧ d = .int k ∧ Q (.bl (if neg then !S k else S k)) env1 n1
theorem sin_of {i : Nat} {w : World} {σ : L2.St} {H : Hp} {R : VK} (h : tOf c (vSIn w false i te) σ H R) : tOp (rSIn w) (tOf c te) (tVar i) σ H R := by
  obtain ⟨F, env, n, Q, rr, h, k⟩ := h
  refine ⟨F, env, n, _, rr, h, fun y H1 F1 d env1 n1 r1 u1 p1 q1 => ?_⟩
  obtain ⟨S, m, kk, e1, rfl, q1⟩ := q1
  obtain ⟨a2, o2, g2, g6, ow2⟩ := r1.slotA e1
  have ow2' : o2 = SetO w a2 S m := ow2
  subst ow2'
  exact ⟨_, g2, kk, a2, S, m, p1.int_inv, rfl, g6, k _ H1 F1 _ env1 n1 r1 u1 (.bl _) q1⟩
theorem snotin_of {i : Nat} {w : World} {σ : L2.St} {H : Hp} {R : VK} (h : tOf c (vSIn w true i te) σ H R) : tOp (rSNotIn w) (tOf c te) (tVar i) σ H R := by
  obtain ⟨F, env, n, Q, rr, h, k⟩ := h
  refine ⟨F, env, n, _, rr, h, fun y H1 F1 d env1 n1 r1 u1 p1 q1 => ?_⟩
  obtain ⟨S, m, kk, e1, rfl, q1⟩ := q1
  obtain ⟨a2, o2, g2, g6, ow2⟩ := r1.slotA e1
  have ow2' : o2 = SetO w a2 S m := ow2
  subst ow2'
  exact ⟨_, g2, kk, a2, S, m, p1.int_inv, rfl, g6, k _ H1 F1 _ env1 n1 r1 u1 (.bl _) q1⟩
theorem vt_sin0 {i : Nat} (ha : PE X a (tOf c te)) (hb : PE X b (tVar i)) (hm : behindInMarks .In b = false) : PT X (.Compare a [.In] [b] pos) (cOf c (vB (vSIn X.w false i te))) := PT.imp (pt_cmpR or_sin ha hb hm) fun _ _ _ => test_of sin_of
theorem vt_snotin0 {i : Nat} (ha : PE X a (tOf c te)) (hb : PE X b (tVar i)) (hm : behindInMarks .NotIn b = false) : PT X (.Compare a [.NotIn] [b] pos) (cOf c (vB (vSIn X.w true i te))) := PT.imp (pt_cmpR or_snotin ha hb hm) fun _ _ _ => test_of snotin_of
/-- set(xs) -/
def dSetI (w : World) : RCN := fun ds Q => ∃ ns : List Int, ds = [.lst (ns.map Dt.int)] ∧ ns.length ≤ 1000 ∧ ∀ m, m ≤ ns.length → Q (.set w (fun j => decide (j ∈ ns)) m)
theorem lft_setI {K : PySem.W.Frag} {w : World} : LftN (rSetI K w) (dSetI w) := fun F H vs ds Q R u rp ⟨ns, h, hl, q⟩ k => by
  subst h
  obtain ⟨v, rfl, p⟩ := rp.one
  obtain ⟨a, xs, rfl, hF, rx⟩ := p.lst_inv
  rw [rx.of_ints] at hF
  exact ⟨a, ns, rfl, .inl (.inl (u _ _ hF)), hl, fun b m np hm => k b _ (.set w (fun j => decide (j ∈ ns)) m) np rfl (q m hm)⟩
/-- sorted(a set just made) -/
def vSortS (w : World) (tn : VTN) : VTN := fun env n Q => tn env n fun k env1 n1 => ∃ S m, k = .set w S m ∧ m < 64 ∧ ∀ ns : List Int, ns.Pairwise (· < ·) → (∀ j : Int, j ∈ ns ↔ S j = true) → ns.length = m → Q (.lst (ns.map Dt.int)) env1 n1
theorem vn_sortS0 {p : Pos} (hc : X.calm = true) (hg : Gl X "sorted") (hm : X.mg "sorted" = none) (ho : PE X o (nOf c tn)) (he : starEach [o] X.env = (false, eval o X.env) :: starEach [] X.env := by rfl) (hpl : (backTo pos (starEach [] X.env)).any (·.1) = false := by rfl) :
    PE X (.Call (.Name "sorted" p) [o] [] pos) (nOf c (vSortS X.w tn)) := PE.imp (pe_callB (cr_sortedSet hc) hg hm (by decide +kernel) (pa_cons ho pa_nil he) (by decide) (by decide) he hpl) fun σ H R ⟨F, env, n, Q, rr, h, k⟩ => by
  refine ⟨F, env, n, _, rr, h, fun a o H' F' kk env' n' r' u hF h0 ns hH w ha q => ?_⟩
  obtain ⟨S, m, rfl, hlt, q⟩ := q
  have w' : o = SetO X.w a S m := w
  subst w'
  exact ⟨a, S, m, rfl, hH, hlt, fun ns p h1 h2 h3 np => nOf_new r' u np (kk := .lst (ns.map Dt.int)) ⟨_, rfl, Rps.ints ns⟩ (q ns h1 h2 h3) k⟩
theorem cr_setW (w : World) (hw : X.w = w) (hc : X.calm = true) : CallR X (.type "set") (rSetI X.K w) := hw ▸ cr_setI hc
theorem ve_sadd {i : Nat} (w : World) (hw : X.w = w) (ho : PE X o (tVar i)) (ha : PE X e (tOf c te))
    (hbase : attributeBase o "add" X.env (eval o X.env) = eval o X.env := by rfl)
    (hfew : ((backTo cpos (starEach [e] X.env)).all (fun x => !x.1) && (backToKw cpos (keywordEach [] X.env)).all (fun x => x.1.isSome)
      && decide (([e] : List Expr).length + ([] : List Keyword).length + (if ([] : List Keyword).isEmpty then 0 else 1) < 30)) = true := by rfl)
    (hline : (apos.endLine == cpos.line) = true := by rfl) (hs : starEach [e] X.env = (false, eval e X.env) :: starEach [] X.env := by rfl) (hplain : (backTo cpos (starEach [] X.env)).any (·.1) = false := by rfl) :
    PE X (.Call (.Attribute o "add" apos) [e] [] cpos) (tOf c (vSAddW w i te)) := by
  subst hw
  exact ve_sadd0 ho ha hbase hfew hline hs hplain
theorem vt_sin {i : Nat} (w : World) (hw : X.w = w) (ha : PE X a (tOf c te)) (hb : PE X b (tVar i)) (hm : behindInMarks .In b = false) : PT X (.Compare a [.In] [b] pos) (cOf c (vB (vSIn w false i te))) := by
  subst hw
  exact vt_sin0 ha hb hm
theorem vt_snotin {i : Nat} (w : World) (hw : X.w = w) (ha : PE X a (tOf c te)) (hb : PE X b (tVar i)) (hm : behindInMarks .NotIn b = false) : PT X (.Compare a [.NotIn] [b] pos) (cOf c (vB (vSIn w true i te))) := by
  subst hw
  exact vt_snotin0 ha hb hm
theorem vn_sortS {p : Pos} (w : World) (hw : X.w = w) (hc : X.calm = true) (hg : Gl X "sorted") (hm : X.mg "sorted" = none) (ho : PE X o (nOf c tn)) (he : starEach [o] X.env = (false, eval o X.env) :: starEach [] X.env := by rfl) (hpl : (backTo pos (starEach [] X.env)).any (·.1) = false := by rfl) :
    PE X (.Call (.Name "sorted" p) [o] [] pos) (nOf c (vSortS w tn)) := by
  subst hw
  exact vn_sortS0 hc hg hm ho he hpl
end
section
variable {am : Am} {F0 H0 : Hp} {X : Cx} {e : Expr} {te : VTE} {pos : Pos}
theorem vn_setOneI (w : World) (hw : X.w = w) (hcd : PySem.W.kdsCode X.K X.env.code = true) (he : ∀ F0 H0, PE X e (tOf ⟨am, F0, H0⟩ te)) (hs : starEach [e] X.env = [(false, eval e X.env)] := by rfl) : PE X (.Set [e] 0 pos) (nOf ⟨am, F0, H0⟩ (vSetOneI w te)) := by
  subst hw
  exact vn_setOneI0 hcd he hs
end
end VL
namespace VL
open PySem PySem.Spec PyProof.Rows L2 HM
section
variable {c : Fc} {X : Cx} {a b d e o : Expr} {es : List Expr} {te ta tb tc : VTE} {tas : VTA} {tn : VTN} {pos apos cpos p : Pos} {x : Str}
def vNeg (ta : VTE) : VTE := fun env n Q => ta env n fun d env1 n1 => ∃ i, d = .int i ∧ Q (.int (-i)) env1 n1
theorem ve_neg (h : PE X a (tOf c ta)) : PE X (.UnaryOp .USub a pos) (tOf c (vNeg ta)) := PE.imp (pe_un un_neg h) fun σ H R ⟨F, env, n, Q, rr, q, k⟩ => ⟨F, env, n, _, rr, q, fun v H' F' d env' n' r' u rp qd => by
  obtain ⟨i, rfl, qd⟩ := qd
  exact ⟨i, rp.int_inv, k _ H' F' _ env' n' r' u (.int _) qd⟩⟩
def dAbs : RCD := fun ds Q => ∃ i, ds = [.int i] ∧ Q (.int (if i < 0 then -i else i))
theorem lft_abs : LftC (fun xs H Q => ∃ i, xs = [.int i] ∧ Q (.int (if i < 0 then -i else i)) H) dAbs := fun F H vs ds Q R u rp ⟨i, h, q⟩ k => by
  subst h
  obtain ⟨v, rfl, p⟩ := rp.one
  rw [p.int_inv]
  exact ⟨i, rfl, k _ _ (.int _) q⟩
theorem ve_abs (hg : Gl X "abs") (hm : X.mg "abs" = none) (h : PE X a (tOf c ta)) (he : starEach [a] X.env = (false, eval a X.env) :: starEach [] X.env := by rfl) (hpl : (backTo pos (starEach [] X.env)).any (·.1) = false := by rfl) : PE X (.Call (.Name "abs" p) [a] [] pos) (tOf c (vCB dAbs (vCons ta vNil))) := ve_cb call_abs lft_abs hg hm (by decide +kernel) (va_cons h va_nil he) (by decide) (by decide) he hpl
/-- int(truth) -/
def dIntB : RCD := fun ds Q => ∃ b, ds = [.bl b] ∧ Q (.int (if b then 1 else 0))
theorem lft_intB : LftC (fun xs H Q => (∃ i, xs = [.int i] ∧ Q (.int i) H) ∨ ∃ k, xs = [.bl k] ∧ Q (.int (if k then 1 else 0)) H) dIntB := fun F H vs ds Q R u rp ⟨i, h, q⟩ k => by
  subst h
  obtain ⟨v, rfl, p⟩ := rp.one
  rw [p.bl_inv]
  exact .inr ⟨i, rfl, k _ _ (.int _) q⟩
theorem ve_intB (hg : Gl X "int") (hm : X.mg "int" = none) (h : PE X a (tOf c ta)) (he : starEach [a] X.env = (false, eval a X.env) :: starEach [] X.env := by rfl) (hpl : (backTo pos (starEach [] X.env)).any (·.1) = false := by rfl) : PE X (.Call (.Name "int" p) [a] [] pos) (tOf c (vCB dIntB (vCons ta vNil))) := ve_tyC call_int1 lft_intB hg hm (by decide +kernel) (va_cons h va_nil he) (by decide) (by decide) he hpl
/-! isinstance -/
def tyD : Dt → String
  | .non => "NoneType"
  | .bl _ => "bool"
  | .int _ => "int"
  | .str _ => "str"
  | .lst _ => "list"
  | .tup _ => "tuple"
  | _ => ""
theorem Rp.tyX {K : PySem.W.Frag} {F H : Hp} {v : V} {d : Dt} (u : Up F H) (h : Rp F v d) (ht : tyD d ≠ "") : TyX K H v (.type (tyD d)) := by
  cases h with
  | non => exact .base .non
  | bl b => exact .base (.bl b)
  | int b => exact .base (.int b)
  | str b => exact .base (.str b)
  | ty b => exact absurd rfl ht
  | obj b => exact absurd rfl ht
  | lst e _ => exact .base (.lst (u _ _ e))
  | tup e _ => exact .base (.tup (u _ _ e))
def dIsi : RCD := fun ds Q => ∃ d T b, ds = [d, .ty T] ∧ tyD d ≠ "" ∧ kitB (tyD d) T = some b ∧ Q (.bl b)
theorem lft_isi {K : PySem.W.Frag} : LftC (rIsi K) dIsi := fun F H vs ds Q R u rp ⟨d, T, b, h, ht, hb, q⟩ k => by
  subst h
  obtain ⟨v, w, rfl, p1, p2⟩ := rp.two
  cases p2
  exact ⟨v, .ty T, _, _, b, rfl, .ty T, p1.tyX u ht, kit_ty hb, k _ _ (.bl _) q⟩
def vIsi (T : String) (ta : VTE) : VTE := vCB dIsi (vCons ta (vCons (vC (.ty T)) vNil))
theorem ve_isi {T : Str} {T' : String} {p2 : Pos} (hg : Gl X "isinstance") (hm : X.mg "isinstance" = none) (hg2 : Gl X T) (hm2 : X.mg T = none) (h : PE X a (tOf c ta)) (hT : bootBuiltins T = some (.type T') := by decide +kernel) (hn : T ≠ "__name__" := by decide) (hd : (T == ("__debug__" : Str)) = false := by decide)
    (he : starEach [a, .Name T p2] X.env = (false, eval a X.env) :: starEach [.Name T p2] X.env := by rfl) (he2 : starEach [.Name T p2] X.env = (false, eval (.Name T p2) X.env) :: starEach [] X.env := by rfl) (hpl : (backTo pos (starEach [.Name T p2] X.env)).any (·.1) = false := by rfl) :
    PE X (.Call (.Name "isinstance" p) [a, .Name T p2] [] pos) (tOf c (vIsi T' ta)) :=
  ve_cb call_isi lft_isi hg hm PyProof.Rows.boot_isinstance (va_cons h (va_cons (ve_c (pe_bltn (v := .ty T') hg2 hm2 hT rfl hn hd) fun _ => .ty T') va_nil he2) he) (by decide) (by decide) he hpl
/-! a <= b < c -/
def vChain (r r' : R2D) (ta tb tc : VTE) : VTE := fun env n Q => ta env n fun x env1 n1 => tb env1 n1 fun y env2 n2 => r x y fun z => ∃ k, z = .bl k ∧ if k = true then tc env2 n2 fun w env3 n3 => r' y w fun v => Q v env3 n3 else Q (.bl false) env2 n2
theorem chain_of {r r' : R2} {rd rd' : R2D} (L : Lft2 r rd) (L' : Lft2 r' rd') {σ : L2.St} {H : Hp} {R : VK} (h : tOf c (vChain rd rd' ta tb tc) σ H R) : tChain r r' (tOf c ta) (tOf c tb) (tOf c tc) σ H R := by
  obtain ⟨F, env, n, Q, rr, h, k⟩ := h
  refine ⟨F, env, n, _, rr, h, fun x H1 F1 d1 env1 n1 r1 u1 p1 q1 => ⟨F1, env1, n1, _, r1, q1, fun y H2 F2 d2 env2 n2 r2 u2 p2 q2 => ?_⟩⟩
  refine L F2 H2 x y d1 d2 _ _ r2.sub (p1.up u2) p2 q2 fun v dd rv q3 => ?_
  obtain ⟨kk, rfl, q3⟩ := q3
  refine ⟨kk, rv.bl_inv, ?_⟩
  cases kk with
  | false => exact k _ H2 F2 _ env2 n2 r2 (u1.trans u2) (.bl false) q3
  | true => exact ⟨F2, env2, n2, _, r2, q3, fun w H3 F3 d3 env3 n3 r3 u3 p3 q4 => L' F3 H3 y w d2 d3 _ _ r3.sub (p2.up u3) p3 q4 fun v dd rv q5 => k v H3 F3 dd env3 n3 r3 ((u1.trans u2).trans u3) rv q5⟩
theorem ve_chain {op op' : CmpOp} {r r' : R2} {rd rd' : R2D} (ho : OpR X (compareOp op) r) (ho' : OpR X (compareOp op') r') (L : Lft2 r rd) (L' : Lft2 r' rd') (ha : PE X a (tOf c ta)) (hb : PE X b (tOf c tb)) (hd : PE X d (tOf c tc))
    (hm : lastMarks [op, op'] [b, d] = false := by with_unfolding_all rfl) : PE X (.Compare a [op, op'] [b, d] pos) (tOf c (vChain rd rd' ta tb tc)) := PE.imp (pe_chain ho ho' ha hb hd hm) fun _ _ _ => chain_of L L'
theorem vt_chain {op op' : CmpOp} {r r' : R2} {rd rd' : R2D} (ho : OpR X (compareOp op) r) (ho' : OpR X (compareOp op') r') (L : Lft2 r rd) (L' : Lft2 r' rd') (ha : PE X a (tOf c ta)) (hb : PE X b (tOf c tb)) (hd : PE X d (tOf c tc))
    (hm : lastMarks [op, op'] [b, d] = false := by with_unfolding_all rfl) : PT X (.Compare a [op, op'] [b, d] pos) (cOf c (vB (vChain rd rd' ta tb tc))) := PT.imp (pt_chain ho ho' ha hb hd hm) fun _ _ _ => test_of (chain_of L L')
/-! methods, as expressions -/
theorem ve_m {i : Nat} {r : RM} {m : RMD} (h : PE X e (tBM X.K "list" r (tVar i) (aOf c tas))) (L : LftM r m) : PE X e (tOf c (vM i m tas)) := PE.imp h fun _ _ _ => m_of L
theorem ve_m0 {i : Nat} {r : RM} {m : RMD} (h : PE X e (tBM0 X.K "list" r (tVar i))) (L : LftM r m) : PE X e (tOf c (vM i m vNil)) := PE.imp h fun _ _ _ => m0_of L
theorem ve_din {i : Nat} (hu : X.A.units + 1 < cLine) (ha : PE X a (tOf c te)) (hb : PE X b (tVar i)) (h1 : behindInMarks .In b = false := by rfl) : PE X (.Compare a [.In] [b] pos) (tOf c (vDIn false i te)) := PE.imp (pe_cmp (pc_din hu ha hb) h1) fun _ _ _ => din_of
theorem ve_dnotin {i : Nat} (hu : X.A.units + 1 < cLine) (ha : PE X a (tOf c te)) (hb : PE X b (tVar i)) (h1 : behindInMarks .NotIn b = false := by rfl) : PE X (.Compare a [.NotIn] [b] pos) (tOf c (vDIn true i te)) := PE.imp (pe_cmp (pc_dnotin hu ha hb) h1) fun _ _ _ => dnotin_of
/-- x = a new list, which is still from then on -/
def vSetF (i : Nat) (tn : VTN) : VTS := fun V env n => tn env n fun k env1 n1 => ∃ ds, k = .lst ds ∧ V.nx (env1.set i (.fz (.lst ds))) n1
theorem Rel.frzNew {F H : Hp} {σ : L2.St} {env : Ev} {n : Nat} {a : Addr} {xs : List V} {ds : List Dt} (r : Rel c F H σ env n) (hF : F a = none) (h0 : c.H0 a = none) (ns : ¬ c.am.sp a) (hH : H a = some (.lst xs)) (rx : Rps F xs ds) (ha : ∀ (j : Nat) k', env[j]? = some (.ow k') → σ[j]? ≠ some (some (.ref a))) :
    Rel c (upd F a (.lst xs)) H σ env n ∧ Rp (upd F a (.lst xs)) (.ref a) (.lst ds) := by
  refine ⟨⟨fun b ob e => ?_, fun b hb => ?_, r.amb, r.up0.trans (up_lay hF), fun b ob h1 nt h2 => ?_, r.keep0, r.len, fun i s e => ?_, r.apart⟩, .lst upd_same (rx.up (up_lay hF))⟩
  · by_cases z : b = a
    · subst z; rw [upd_same] at e; cases e; exact hH
    · rw [upd_ne z] at e; exact r.sub b ob e
  · rw [upd_ne (fun (z : b = a) => ns (by rw [← z]; exact hb))]; exact r.spf b hb
  · rw [upd_ne (fun (z : b = a) => by rw [z, h0] at h1; cases h1)]; exact r.out0 b ob h1 nt h2
  · have q := r.sl i s e
    cases s with
    | no => trivial
    | fz d => exact let ⟨v, g1, g2⟩ := q; ⟨v, g1, g2.up (up_lay hF)⟩
    | ow kk =>
      obtain ⟨a2, o2, g1, g2, g3, g4, g5, g6⟩ := q
      refine ⟨a2, o2, g1, ?_, g3, g4, g5, g6.up (up_lay hF)⟩
      rw [upd_ne fun z2 => ha i kk e (by rw [g1, z2])]
      exact g2
theorem setF_of {i : Nat} {σ : L2.St} {H : Hp} {D : Ends} (h : sOf c (vSetF i tn) D σ H) : tAsg (nOf c tn) (gName i) D σ H := by
  obtain ⟨F, env, n, V, r, q, k⟩ := h
  refine ⟨F, env, n, _, r, q, fun a o H' F' kk env' n' r' w hF h0 ns hH ow ha qd => ?_⟩
  obtain ⟨ds, rfl, qd⟩ := qd
  obtain ⟨xs, rfl, rx⟩ := ow
  obtain ⟨r2, rp⟩ := r'.frzNew hF h0 ns hH rx ha
  exact k.nx _ H' _ _ n' (r2.setF rp) (w.trans (up_lay hF)) qd
end
section
variable {am : Am} {F0 H0 : Hp} {X : Cx}
theorem vs_setLcF {i : Nat} {y : Str} {py : Pos} {elt tg iter : Expr} {ifs : List Expr} {scope : Scope} {own : List (Str × Nat)} {pos spos : Pos} {wi : VTI} {g : TG} {gv : VTG} {tt : VTT} {te : VTE} (hc : X.calm = true) (hN : X.N.Nodup) (hy : X.N[i]? = some y) (hyl : X.env.scope.names.lookup y = some .local)
    (hsw : swapsWith (.ListComp elt [⟨tg, iter, ifs, 0⟩] scope pos) (some (.Name y py)) spos.line X.env = pure true) (hi : PI X tg iter (iOf ⟨am, F0, H0⟩ wi)) (ok : BlkOk X.N X.env.scope scope own) (hgk : TgOk g gv (own.map (·.2)))
    (hg : ∀ (s : Shared) (H : Hp) (C : Addr) (cl : List (Str × Addr)) (fp : List Addr), PG (X.blk s H scope (compEnvC scope cl C X.env) fp) tg g)
    (ht : ∀ (F0 H0 : Hp) (s : Shared) (H : Hp) (C : Addr) (cl : List (Str × Addr)) (fp : List Addr), PTs (X.blk s H scope (compEnvC scope cl C X.env) fp) ifs (cOf ⟨am, F0, H0⟩ tt))
    (he : ∀ (F0 H0 : Hp) (s : Shared) (H : Hp) (C : Addr) (cl : List (Str × Addr)) (fp : List Addr), PE (X.blk s H scope (compEnvC scope cl C X.env) fp) elt (tOf ⟨am, F0, H0⟩ te)) (hs : ∀ x, foldedSetIterable iter X.env x = pure x := by intro _; rfl) :
    PS X (.Assign [.Name y py] (.ListComp elt [⟨tg, iter, ifs, 0⟩] scope pos) spos) (sOf ⟨am, F0, H0⟩ (vSetF i (vLc wi gv tt te (own.map (·.2))))) :=
  PS.imp (ps_setLc (tt := fun σ H R => ∃ F0 H0, cOf ⟨am, F0, H0⟩ tt σ H R) (te := fun σ H R => ∃ F0 H0, tOf ⟨am, F0, H0⟩ te σ H R) hc hN hy hyl hsw hi ok hg
    (fun s H C cl fp => ⟨fun pins s' σ H' Q I ⟨F0, H0, q⟩ => (ht F0 H0 s H C cl fp).run pins s' σ H' Q I q⟩) (fun s H C cl fp => ⟨fun pins s' σ H' Q I ⟨F0, H0, q⟩ => (he F0 H0 s H C cl fp).run pins s' σ H' Q I q⟩) hs)
    fun D σ H h => by
      have h2 := setF_of h
      exact lc_of hgk (fun F0 H0 _ _ _ q => ⟨F0, H0, q⟩) (fun F0 H0 _ _ _ q => ⟨F0, H0, q⟩) h2
end
end VL
namespace VL
open PySem PySem.Spec PyProof.Rows L2 HM
/-! ### == of whole numbers, lists and tuples of such -/
mutual
def pl : Dt → Bool
  | .int _ => true
  | .lst ds => pls ds
  | .tup ds => pls ds
  | _ => false
def pls : List Dt → Bool
  | [] => true
  | d :: ds => pl d && pls ds
end
mutual
def dep : Dt → Nat
  | .lst ds => deps ds + 1
  | .tup ds => deps ds + 1
  | _ => 0
def deps : List Dt → Nat
  | [] => 0
  | d :: ds => max (dep d) (deps ds)
end
mutual
theorem pl_isPy : ∀ {d : Dt}, pl d = true → isPy d = true
  | .int _, _ => rfl
  | .lst ds, h => pls_isPy (ds := ds) h
  | .tup ds, h => pls_isPy (ds := ds) h
  | .non, h => by cases h
  | .bl _, h => by cases h
  | .str _, h => by cases h
  | .ty _, h => by cases h
  | .obj _, h => by cases h
theorem pls_isPy : ∀ {ds : List Dt}, pls ds = true → isPys ds = true
  | [], _ => rfl
  | d :: ds, h => by
    have h' : (pl d && pls ds) = true := h
    rw [Bool.and_eq_true] at h'
    show (isPy d && isPys ds) = true
    rw [pl_isPy h'.1, pls_isPy h'.2]
    rfl
end
mutual
theorem pl_lay : ∀ {d : Dt}, pl d = true → (py d).canLay0 = true ∧ (py d).depth = dep d
  | .int _, _ => ⟨rfl, rfl⟩
  | .lst ds, h => by
    obtain ⟨h1, h2⟩ := pls_lay (ds := ds) h
    exact ⟨h1, by show PyData.depthAll (pys ds) + 1 = deps ds + 1; rw [h2]⟩
  | .tup ds, h => by
    obtain ⟨h1, h2⟩ := pls_lay (ds := ds) h
    exact ⟨h1, by show PyData.depthAll (pys ds) + 1 = deps ds + 1; rw [h2]⟩
  | .non, h => by cases h
  | .bl _, h => by cases h
  | .str _, h => by cases h
  | .ty _, h => by cases h
  | .obj _, h => by cases h
theorem pls_lay : ∀ {ds : List Dt}, pls ds = true → PyData.canLayAll0 (pys ds) = true ∧ PyData.depthAll (pys ds) = deps ds
  | [], _ => ⟨rfl, rfl⟩
  | d :: ds, h => by
    have h' : (pl d && pls ds) = true := h
    rw [Bool.and_eq_true] at h'
    obtain ⟨a1, a2⟩ := pl_lay h'.1
    obtain ⟨b1, b2⟩ := pls_lay h'.2
    refine ⟨?_, ?_⟩
    · show ((py d).canLay0 && PyData.canLayAll0 (pys ds)) = true
      rw [a1, b1]
      rfl
    · show max (py d).depth (PyData.depthAll (pys ds)) = max (dep d) (deps ds)
      rw [a2, b2]
end
theorem pl_shaped {d : Dt} (h : pl d = true) (hd : dep d ≤ 64) : SeqAt.shaped (py d) = true := by
  obtain ⟨a1, a2⟩ := pl_lay h
  show ((py d).canLay0 && decide ((py d).depth ≤ 64)) = true
  rw [a1, a2, decide_eq_true hd]
  rfl
mutual
theorem pl_eqv : ∀ {d e : Dt}, pl d = true → pl e = true → (PyData.eqv (py d) (py e) = true ↔ d = e)
  | .int i, .int j, _, _ => by
    show PyData.eqv (.int i) (.int j) = true ↔ _
    have e : PyData.eqv (.int i) (.int j) = (i == j) := by simp [PyData.eqv]
    rw [e, beq_iff_eq]
    exact ⟨fun h => by rw [h], fun h => by injection h⟩
  | .int i, .lst es, _, _ => by
    have e : PyData.eqv (py (.int i)) (py (.lst es)) = false := by simp [py, PyData.eqv]
    rw [e]
    exact ⟨(fun h => nomatch h), (fun h => nomatch h)⟩
  | .int i, .tup es, _, _ => by
    have e : PyData.eqv (py (.int i)) (py (.tup es)) = false := by simp [py, PyData.eqv]
    rw [e]
    exact ⟨(fun h => nomatch h), (fun h => nomatch h)⟩
  | .lst ds, .int i, _, _ => by
    have e : PyData.eqv (py (.lst ds)) (py (.int i)) = false := by simp [py, PyData.eqv]
    rw [e]
    exact ⟨(fun h => nomatch h), (fun h => nomatch h)⟩
  | .tup ds, .int i, _, _ => by
    have e : PyData.eqv (py (.tup ds)) (py (.int i)) = false := by simp [py, PyData.eqv]
    rw [e]
    exact ⟨(fun h => nomatch h), (fun h => nomatch h)⟩
  | .lst ds, .tup es, _, _ => by
    have e : PyData.eqv (py (.lst ds)) (py (.tup es)) = false := by simp [py, PyData.eqv]
    rw [e]
    exact ⟨(fun h => nomatch h), (fun h => nomatch h)⟩
  | .tup ds, .lst es, _, _ => by
    have e : PyData.eqv (py (.tup ds)) (py (.lst es)) = false := by simp [py, PyData.eqv]
    rw [e]
    exact ⟨(fun h => nomatch h), (fun h => nomatch h)⟩
  | .lst ds, .lst es, h1, h2 => by
    have e : PyData.eqv (py (.lst ds)) (py (.lst es)) = PyData.eqvAll (pys ds) (pys es) := by simp [py, PyData.eqv]
    rw [e, pls_eqv (ds := ds) (es := es) h1 h2]
    exact ⟨fun h => by rw [h], fun h => by injection h⟩
  | .tup ds, .tup es, h1, h2 => by
    have e : PyData.eqv (py (.tup ds)) (py (.tup es)) = PyData.eqvAll (pys ds) (pys es) := by simp [py, PyData.eqv]
    rw [e, pls_eqv (ds := ds) (es := es) h1 h2]
    exact ⟨fun h => by rw [h], fun h => by injection h⟩
  | .non, _, h, _ => by cases h
  | .bl _, _, h, _ => by cases h
  | .str _, _, h, _ => by cases h
  | .ty _, _, h, _ => by cases h
  | .obj _, _, h, _ => by cases h
  | _, .non, _, h => by cases h
  | _, .bl _, _, h => by cases h
  | _, .str _, _, h => by cases h
  | _, .ty _, _, h => by cases h
  | _, .obj _, _, h => by cases h
theorem pls_eqv : ∀ {ds es : List Dt}, pls ds = true → pls es = true → (PyData.eqvAll (pys ds) (pys es) = true ↔ ds = es)
  | [], [], _, _ => by simp [pys, PyData.eqvAll]
  | [], e :: es, _, _ => by simp [pys, PyData.eqvAll]
  | d :: ds, [], _, _ => by simp [pys, PyData.eqvAll]
  | d :: ds, e :: es, h1, h2 => by
    have h1' : (pl d && pls ds) = true := h1
    have h2' : (pl e && pls es) = true := h2
    rw [Bool.and_eq_true] at h1' h2'
    have z : PyData.eqvAll (pys (d :: ds)) (pys (e :: es)) = (PyData.eqv (py d) (py e) && PyData.eqvAll (pys ds) (pys es)) := by simp [pys, PyData.eqvAll]
    rw [z, Bool.and_eq_true, pl_eqv h1'.1 h2'.1, pls_eqv h1'.2 h2'.2, List.cons.injEq]
end
theorem dEqD_pl {x y : Dt} {Q : Dt → Prop} (px : pl x = true) (qy : pl y = true) (dx : dep x ≤ 64) (dy : dep y ≤ 64) (h : ∀ b : Bool, (b = true ↔ x = y) → Q (.bl b)) : dEqD x y Q :=
  ⟨pl_isPy px, pl_isPy qy, pl_shaped px dx, pl_shaped qy dy, h _ (pl_eqv px qy)⟩
theorem dNeD_pl {x y : Dt} {Q : Dt → Prop} (px : pl x = true) (qy : pl y = true) (dx : dep x ≤ 64) (dy : dep y ≤ 64) (h : ∀ b : Bool, (b = true ↔ x ≠ y) → Q (.bl b)) : dNeD x y Q :=
  ⟨pl_isPy px, pl_isPy qy, pl_shaped px dx, pl_shaped qy dy, h _ (by
    have := pl_eqv px qy
    cases e : PyData.eqv (py x) (py y) with
    | true => rw [e] at this; simp [this.mp rfl]
    | false =>
      rw [e] at this
      have hn : x ≠ y := fun z => by have := this.mpr z; cases this
      simp [hn])⟩
theorem pls_map {α : Type} {f : α → Dt} (h : ∀ a, pl (f a) = true) : ∀ l : List α, pls (l.map f) = true
  | [] => rfl
  | a :: l => by
    show (pl (f a) && pls (l.map f)) = true
    rw [h a, pls_map h l]
    rfl
theorem deps_map {α : Type} {f : α → Dt} {k : Nat} (h : ∀ a, dep (f a) ≤ k) : ∀ l : List α, deps (l.map f) ≤ k
  | [] => Nat.zero_le _
  | a :: l => Nat.max_le.mpr ⟨h a, deps_map h l⟩
end VL
namespace VL
open PySem PySem.Spec PyProof.Rows L2 HM
/-! ### comprehensions that only read -/
theorem wipeE_at (env : Ev) (i : Nat) : ∀ vs : List Nat, (wipeE env vs)[i]? = if i ∈ vs ∧ i < env.length then some .no else env[i]?
  | [] => by simp [wipeE]
  | v :: vs => by
    unfold wipeE
    by_cases z : i = v
    · subst z
      by_cases hl : i < env.length
      · rw [List.getElem?_set_self (by rw [wipeE_length]; exact hl), if_pos ⟨by simp, hl⟩]
      · rw [if_neg (fun h => hl h.2), List.getElem?_eq_none (by rw [List.length_set, wipeE_length]; omega), List.getElem?_eq_none (by omega)]
    · rw [List.getElem?_set_ne (Ne.symm z), wipeE_at env i vs]
      simp [z]
theorem wipeE_set {env : Ev} {i : Nat} {x : Sl} {vs : List Nat} (h : i ∈ vs) : wipeE (env.set i x) vs = wipeE env vs := by
  refine List.ext_getElem? fun j => ?_
  rw [wipeE_at, wipeE_at, List.length_set]
  by_cases z : j = i
  · subst z
    by_cases hl : j < env.length
    · rw [if_pos ⟨h, hl⟩, if_pos ⟨h, hl⟩]
    · rw [if_neg (fun q => hl q.2), if_neg (fun q => hl q.2), List.getElem?_eq_none (by rw [List.length_set]; omega), List.getElem?_eq_none (by omega)]
  · rw [List.getElem?_set_ne (Ne.symm z)]
theorem wipeE_idem (env : Ev) (vs : List Nat) : wipeE (wipeE env vs) vs = wipeE env vs := by
  refine List.ext_getElem? fun j => ?_
  rw [wipeE_at, wipeE_length, wipeE_at]
  by_cases h : j ∈ vs ∧ j < env.length
  · rw [if_pos h, if_pos h]
  · rw [if_neg h, if_neg h]
theorem restE_at (env1 env : Ev) (i : Nat) : ∀ vs : List Nat, (restE env1 env vs)[i]? = if i ∈ vs ∧ i < env.length then some (env1.getD i .no) else env[i]?
  | [] => by simp [restE]
  | v :: vs => by
    unfold restE
    by_cases z : i = v
    · subst z
      by_cases hl : i < env.length
      · rw [List.getElem?_set_self (by rw [restE_length]; exact hl), if_pos ⟨by simp, hl⟩]
      · rw [if_neg (fun h => hl h.2), List.getElem?_eq_none (by rw [List.length_set, restE_length]; omega), List.getElem?_eq_none (by omega)]
    · rw [List.getElem?_set_ne (Ne.symm z), restE_at env1 env i vs]
      simp [z]
theorem rest_wipe (env : Ev) (vs : List Nat) : restE env (wipeE env vs) vs = env := by
  refine List.ext_getElem? fun j => ?_
  rw [restE_at, wipeE_length, wipeE_at]
  by_cases h : j ∈ vs ∧ j < env.length
  · rw [if_pos h, List.getD_eq_getElem?_getD, List.getElem?_eq_getElem h.2]
    rfl
  · rw [if_neg h, if_neg h]
/-- [e for x in xs], e without draws: by what e is at each place -/
theorem lc_map {te : VTE} {vs : List Nat} {xs : List Dt} {env1 : Ev} {n1 : Nat} {Q : Con → Ev → Nat → Prop} {i : Nat} (f : Nat → Dt) (hi : i ∈ vs) (no : ∀ i ∈ vs, ∀ k, env1[i]? ≠ some (.ow k)) (hl : xs.length ≤ 1000)
    (h : ∀ (j : Nat) (x : Dt), xs[j]? = some x → ∀ R : Dt → Ev → Nat → Prop, R (f j) ((wipeE env1 vs).set i (.fz x)) n1 → te ((wipeE env1 vs).set i (.fz x)) n1 R) (q : Q (.lst ((List.range xs.length).map f)) env1 n1) : LcBody (vgName i) vYes te vs xs env1 n1 Q := by
  refine ⟨no, hl, fun j acc env n => acc = (List.range j).map f ∧ env = wipeE env1 vs ∧ n = n1, ⟨rfl, rfl, rfl⟩, fun j x acc env n hx hP => ?_, fun acc env n _ hP => ?_⟩
  · obtain ⟨rfl, rfl, rfl⟩ := hP
    show te _ _ _
    refine h j x hx _ ⟨by rw [List.range_succ, List.map_append]; rfl, by rw [wipeE_set hi, wipeE_idem], rfl⟩
  · obtain ⟨rfl, rfl, rfl⟩ := hP
    rw [rest_wipe]
    exact q
/-- [e for x in xs], e by draws -/
theorem lc_any {te : VTE} {vs : List Nat} {xs : List Dt} {env1 : Ev} {n1 : Nat} {Q : Con → Ev → Nat → Prop} {i : Nat} (P : Nat → List Dt → Prop) (hi : i ∈ vs) (no : ∀ i ∈ vs, ∀ k, env1[i]? ≠ some (.ow k)) (hl : xs.length ≤ 1000) (p0 : P 0 [])
    (h : ∀ (j : Nat) (x : Dt) (acc : List Dt), xs[j]? = some x → P j acc → ∀ R : Dt → Ev → Nat → Prop, (∀ y, P (j + 1) (acc ++ [y]) → R y ((wipeE env1 vs).set i (.fz x)) n1) → te ((wipeE env1 vs).set i (.fz x)) n1 R) (q : ∀ acc, P xs.length acc → Q (.lst acc) env1 n1) : LcBody (vgName i) vYes te vs xs env1 n1 Q := by
  refine ⟨no, hl, fun j acc env n => P j acc ∧ env = wipeE env1 vs ∧ n = n1, ⟨p0, rfl, rfl⟩, fun j x acc env n hx hP => ?_, fun acc env n _ hP => ?_⟩
  · obtain ⟨hp, rfl, rfl⟩ := hP
    show te _ _ _
    refine h j x acc hx hp _ fun y hy => ⟨hy, by rw [wipeE_set hi, wipeE_idem], rfl⟩
  · obtain ⟨hp, rfl, rfl⟩ := hP
    rw [rest_wipe]
    exact q acc hp
/-- [e for a, b in xs] -/
theorem lc_map2 {te : VTE} {vs : List Nat} {xs : List Dt} {env1 : Ev} {n1 : Nat} {Q : Con → Ev → Nat → Prop} {i i2 : Nat} (f : Nat → Dt) (hi : i ∈ vs) (hi2 : i2 ∈ vs) (no : ∀ i ∈ vs, ∀ k, env1[i]? ≠ some (.ow k)) (hl : xs.length ≤ 1000)
    (h : ∀ (j : Nat) (x : Dt), xs[j]? = some x → ∃ u v, x = .tup [u, v] ∧ ∀ R : Dt → Ev → Nat → Prop, R (f j) (((wipeE env1 vs).set i (.fz u)).set i2 (.fz v)) n1 → te (((wipeE env1 vs).set i (.fz u)).set i2 (.fz v)) n1 R) (q : Q (.lst ((List.range xs.length).map f)) env1 n1) :
    LcBody (vgTup 2 (vgCons (vgName i) (vgCons (vgName i2) vgNil))) vYes te vs xs env1 n1 Q := by
  refine ⟨no, hl, fun j acc env n => acc = (List.range j).map f ∧ env = wipeE env1 vs ∧ n = n1, ⟨rfl, rfl, rfl⟩, fun j x acc env n hx hP => ?_, fun acc env n _ hP => ?_⟩
  · obtain ⟨rfl, rfl, rfl⟩ := hP
    obtain ⟨u, v, rfl, h2⟩ := h j x hx
    refine ⟨_, rfl, rfl, _, _, rfl, _, _, rfl, rfl, ?_⟩
    show te _ _ _
    refine h2 _ ⟨by rw [List.range_succ, List.map_append]; rfl, by rw [wipeE_set hi2, wipeE_set hi, wipeE_idem], rfl⟩
  · obtain ⟨rfl, rfl, rfl⟩ := hP
    rw [rest_wipe]
    exact q
/-- [x for x in xs if t] -/
theorem lc_filter {tt : VTT} {te : VTE} {vs : List Nat} {xs : List Dt} {env1 : Ev} {n1 : Nat} {Q : Con → Ev → Nat → Prop} {i : Nat} (p : Dt → Bool) (f : Dt → Dt) (hi : i ∈ vs) (no : ∀ i ∈ vs, ∀ k, env1[i]? ≠ some (.ow k)) (hl : xs.length ≤ 1000)
    (h : ∀ (j : Nat) (x : Dt), xs[j]? = some x → ∀ R : Bool → Ev → Nat → Prop, R (p x) ((wipeE env1 vs).set i (.fz x)) n1 → tt ((wipeE env1 vs).set i (.fz x)) n1 R) (h2 : ∀ (j : Nat) (x : Dt), xs[j]? = some x → p x = true → ∀ R : Dt → Ev → Nat → Prop, R (f x) ((wipeE env1 vs).set i (.fz x)) n1 → te ((wipeE env1 vs).set i (.fz x)) n1 R)
    (q : Q (.lst ((xs.filter p).map f)) env1 n1) : LcBody (vgName i) tt te vs xs env1 n1 Q := by
  refine ⟨no, hl, fun j acc env n => acc = ((xs.take j).filter p).map f ∧ env = wipeE env1 vs ∧ n = n1, ⟨rfl, rfl, rfl⟩, fun j x acc env n hx hP => ?_, fun acc env n _ hP => ?_⟩
  · obtain ⟨rfl, rfl, rfl⟩ := hP
    have e : xs.take (j + 1) = xs.take j ++ [x] := by rw [List.take_add_one, hx]; rfl
    show tt _ _ _
    refine h j x hx _ ?_
    cases hp : p x with
    | true =>
      rw [if_pos rfl]
      refine h2 j x hx hp _ ⟨?_, by rw [wipeE_set hi, wipeE_idem], rfl⟩
      rw [e, List.filter_append, List.map_append]
      simp [hp]
    | false =>
      rw [if_neg (by simp)]
      refine ⟨?_, by rw [wipeE_set hi, wipeE_idem], rfl⟩
      rw [e, List.filter_append, List.map_append]
      simp [hp]
  · obtain ⟨rfl, rfl, rfl⟩ := hP
    rw [rest_wipe, List.take_of_length_le (Nat.le_refl _)] at *
    exact q
theorem noOw1 {env : Ev} {i : Nat} {s : Sl} (h : env[i]? = some s) (hs : ∀ k, s ≠ .ow k) : ∀ j ∈ [i], ∀ k, env[j]? ≠ some (.ow k) := fun j hj k e => by
  rw [List.mem_singleton.mp hj, h] at e
  exact hs k (Option.some.inj e)
theorem noOw2 {env : Ev} {i j : Nat} {s s2 : Sl} (h : env[i]? = some s) (h2 : env[j]? = some s2) (hs : ∀ k, s ≠ .ow k) (hs2 : ∀ k, s2 ≠ .ow k) : ∀ j' ∈ [i, j], ∀ k, env[j']? ≠ some (.ow k) := fun j' hj k e => by
  rcases List.mem_cons.mp hj with rfl | hj
  · rw [h] at e; exact hs k (Option.some.inj e)
  · rw [List.mem_singleton.mp hj, h2] at e; exact hs2 k (Option.some.inj e)
theorem no_ow (k : Con) : Sl.no ≠ .ow k := nofun
theorem fz_ow (d : Dt) (k : Con) : Sl.fz d ≠ .ow k := nofun
theorem vseq_set {i : Nat} {te : VTE} {B : VTS} {V : VEn} {env : Ev} {n : Nat} (h : te env n fun d env1 n1 => B V (env1.set i (.fz d)) n1) : vSeq (vSet i te) B V env n := h
theorem vseq_setN {i : Nat} {tn : VTN} {B : VTS} {V : VEn} {env : Ev} {n : Nat} (h : tn env n fun k env1 n1 => B V (env1.set i (.ow k)) n1) : vSeq (vSetN i tn) B V env n := h
/-- cut: what is so behind the first row -/
theorem vcut {A B : VTS} {V : VEn} {env : Ev} {n : Nat} (M : Ev → Nat → Prop) (h1 : ∀ N : Ev → Nat → Prop, (∀ e n', M e n' → N e n') → A { V with nx := N } env n) (h2 : ∀ e n', M e n' → B V e n') : vSeq A B V env n := h1 _ h2
theorem atI_last {l : List Dt} {x : Dt} : atI (l ++ [x]) (-1) = some x := by
  unfold atI ixN
  rw [if_neg (by decide), if_pos (by rw [List.length_append, List.length_singleton]; omega)]
  show (l ++ [x])[_]? = some x
  rw [show ((-1 : Int) + ((l ++ [x]).length : Nat)).toNat = l.length by rw [List.length_append, List.length_singleton]; omega]
  simp
theorem at_int {R : Dt → Ev → Nat → Prop} {a b : Int} {env : Ev} {n : Nat} (q : R (.int b) env n) (e : a = b) : R (.int a) env n := e ▸ q
theorem p02 : (0 : Int) < 2 := by decide
theorem rngD_len (lo : Int) (n : Nat) : (rngD lo n).length = n := by simp [rngD]
theorem rngD_get {lo : Int} {n i : Nat} {x : Dt} (h : (rngD lo n)[i]? = some x) : x = .int (lo + (i : Int)) ∧ i < n := by
  have hl := (List.getElem?_eq_some_iff.mp h).1
  rw [rngD_len] at hl
  unfold rngD at h
  rw [List.getElem?_map, List.getElem?_range hl] at h
  exact ⟨(Option.some.inj h).symm, hl⟩
theorem rngD_get0 {n i : Nat} {x : Dt} (h : (rngD 0 n)[i]? = some x) : x = .int (i : Int) ∧ i < n := by
  obtain ⟨h1, h2⟩ := rngD_get h
  rw [Int.zero_add] at h1
  exact ⟨h1, h2⟩
/-! ### data that stands in the text -/
section
variable {c : Fc} {X : Cx} {es : List Expr} {e : Expr} {pos : Pos} {ds : List Dt} {d : Dt} {t t' : VTE}
theorem ve_weak (h : PE X e (tOf c t)) (w : ∀ env n Q, t' env n Q → t env n Q) : PE X e (tOf c t') := PE.imp h fun σ H R ⟨F, env, n, Q, rr, q, k⟩ => ⟨F, env, n, Q, rr, w env n Q q, k⟩
def vKs (ds : List Dt) : VTA := fun env n Q => Q ds env n
theorem ka_nil : PA X [] (aOf c (vKs [])) := va_nil
theorem ka_cons (h : PE X e (tOf c (vC d))) (hr : PA X es (aOf c (vKs ds))) (hs : starEach (e :: es) X.env = (false, eval e X.env) :: starEach es X.env := by rfl) : PA X (e :: es) (aOf c (vKs (d :: ds))) := va_cons h hr hs
theorem ve_tupK {x1} (h : PA X es (aOf c (vKs ds))) (hl : ds.length ≤ 1000) : PE X (.Tuple es x1 pos) (tOf c (vC (.tup ds))) := ve_weak (ve_tup h) fun env n Q q => ⟨hl, q⟩
theorem ve_lstK (h : PA X es (aOf c (vKs ds))) (hl : ds.length ≤ 1000) : PE X (.List es pos) (tOf c (vC (.lst ds))) := ve_weak (ve_new (vn_lst h)) fun env n Q q => ⟨hl, _, rfl, q⟩
end
end VL
namespace VL
open PySem PySem.Spec PyProof.Rows L2 HM
/-! ### isinstance(x, (T, U)) -/
def dIsi2 (T U : String) : RCD := fun ds Q => ∃ d b b2, ds = [d, .tup [.ty T, .ty U]] ∧ tyD d ≠ "" ∧ kitB (tyD d) T = some b ∧ kitB (tyD d) U = some b2 ∧ Q (.bl (b || b2))
theorem kit_any2 {K : PySem.W.Frag} {t u u2 : Value} {b b2 : Bool} (h : PySem.W.kitOne K t u = some b) (h2 : PySem.W.kitOne K t u2 = some b2) : PySem.W.kitAny K t [u, u2] = some (b || b2) := by
  cases b with
  | true => simp [PySem.W.kitAny, h]
  | false =>
    cases b2 with
    | true => simp [PySem.W.kitAny, h, h2]
    | false => simp [PySem.W.kitAny, h, h2]
theorem lft_isi2 {K : PySem.W.Frag} {T U : String} : LftC (rIsiT K) (dIsi2 T U) := fun F H vs ds Q R u rp ⟨d, b, b2, h, ht, hb, hb2, q⟩ k => by
  subst h
  obtain ⟨v, w, rfl, p1, p2⟩ := rp.two
  obtain ⟨a, xs, rfl, hF, rx⟩ := p2.tup_inv
  cases rx with | cons r1 rx =>
  cases rx with | cons r2 rx =>
  cases rx
  cases r1
  cases r2
  exact ⟨v, a, _, _, _, _, rfl, u _ _ hF, .cons (.ty T) (.cons (.ty U) .nil), p1.tyX u ht, kit_any2 (kit_ty hb) (kit_ty hb2), k _ _ (.bl _) q⟩
def vIsi2 (T U : String) (ta : VTE) : VTE := vCB (dIsi2 T U) (vCons ta (vCons (vC (.tup [.ty T, .ty U])) vNil))
section
variable {c : Fc} {X : Cx} {a : Expr} {ta : VTE} {p pos : Pos}
theorem ve_isi2 {x1 : Nat} {T U : Str} {T' U' : String} {p2 p3 p4 : Pos} (hg : Gl X "isinstance") (hm : X.mg "isinstance" = none) (hg2 : Gl X T) (hm2 : X.mg T = none) (hg3 : Gl X U) (hm3 : X.mg U = none) (h : PE X a (tOf c ta)) (hT : bootBuiltins T = some (.type T') := by decide +kernel) (hn : T ≠ "__name__" := by decide) (hd : (T == ("__debug__" : Str)) = false := by decide)
    (hU : bootBuiltins U = some (.type U') := by decide +kernel) (hn2 : U ≠ "__name__" := by decide) (hd2 : (U == ("__debug__" : Str)) = false := by decide)
    (e1 : starEach [.Name T p2, .Name U p3] X.env = (false, eval (.Name T p2) X.env) :: starEach [.Name U p3] X.env := by rfl) (e2 : starEach [.Name U p3] X.env = (false, eval (.Name U p3) X.env) :: starEach [] X.env := by rfl)
    (he : starEach [a, .Tuple [.Name T p2, .Name U p3] x1 p4] X.env = (false, eval a X.env) :: starEach [.Tuple [.Name T p2, .Name U p3] x1 p4] X.env := by rfl) (he2 : starEach [.Tuple [.Name T p2, .Name U p3] x1 p4] X.env = (false, eval (.Tuple [.Name T p2, .Name U p3] x1 p4) X.env) :: starEach [] X.env := by rfl) (hpl : (backTo pos (starEach [.Tuple [.Name T p2, .Name U p3] x1 p4] X.env)).any (·.1) = false := by rfl) :
    PE X (.Call (.Name "isinstance" p) [a, .Tuple [.Name T p2, .Name U p3] x1 p4] [] pos) (tOf c (vIsi2 T' U' ta)) :=
  ve_cb call_isiT lft_isi2 hg hm PyProof.Rows.boot_isinstance (va_cons h (va_cons (ve_tupK (ka_cons (ve_c (pe_bltn (v := .ty T') hg2 hm2 hT rfl hn hd) fun _ => .ty T') (ka_cons (ve_c (pe_bltn (v := .ty U') hg3 hm3 hU rfl hn2 hd2) fun _ => .ty U') ka_nil e2) e1) (by decide : 2 ≤ 1000)) va_nil he2) he) (by decide) (by decide) he hpl
end
end VL
namespace VL
open PySem PySem.Spec PyProof.Rows L2 HM
/-! ### rows in a list of rows: what stood when the def was entered, and the rows beside it -/
open Classical in
/-- H0, and rows r 0, .., r (n - 1) at A 0, .., A (n - 1) -/
noncomputable def mat (H0 : Hp) (n : Nat) (A : Nat → Addr) (r : Nat → List Int) : Hp := fun a => if h : ∃ i, i < n ∧ A i = a then some (.lst ((r h.choose).map V.int)) else H0 a
structure MatOk (am : Am) (F0 H0 : Hp) (n : Nat) (A : Nat → Addr) : Prop where
  inj : ∀ i j, i < n → j < n → A i = A j → i = j
  h0 : ∀ i, i < n → H0 (A i) = none
  f0 : ∀ i, i < n → F0 (A i) = none
  ns : ∀ i, i < n → ¬ am.sp (A i)
section
variable {am : Am} {F0 H0 F H : Hp} {n t : Nat} {A : Nat → Addr} {r r' : Nat → List Int} {σ : L2.St} {env : Ev} {a : Addr}
theorem mat_at (inj : ∀ i j, i < n → j < n → A i = A j → i = j) {i : Nat} (hi : i < n) : mat H0 n A r (A i) = some (.lst ((r i).map V.int)) := by
  have h : ∃ j, j < n ∧ A j = A i := ⟨i, hi, rfl⟩
  unfold mat
  rw [dif_pos h, inj _ i h.choose_spec.1 hi h.choose_spec.2]
theorem mat_out (h : ∀ i, i < n → A i ≠ a) : mat H0 n A r a = H0 a := by
  unfold mat
  rw [dif_neg fun ⟨i, hi, e⟩ => h i hi e]
theorem mat_zero : mat H0 0 A r = H0 := funext fun a => mat_out fun i hi => by omega
theorem mat_some {o : HO} (h : mat H0 n A r a = some o) : (∃ i, i < n ∧ A i = a) ∨ ((∀ i, i < n → A i ≠ a) ∧ H0 a = some o) := by
  by_cases e : ∃ i, i < n ∧ A i = a
  · exact .inl e
  · have e' : ∀ i, i < n → A i ≠ a := fun i hi z => e ⟨i, hi, z⟩
    exact .inr ⟨e', by rw [mat_out e'] at h; exact h⟩
theorem mat_eq (inj : ∀ i j, i < n → j < n → A i = A j → i = j) (h : ∀ i, i < n → r i = r' i) : mat H0 n A r = mat H0 n A r' := funext fun a => by
  by_cases e : ∃ i, i < n ∧ A i = a
  · obtain ⟨i, hi, rfl⟩ := e
    rw [mat_at inj hi, mat_at inj hi, h i hi]
  · have e' : ∀ i, i < n → A i ≠ a := fun i hi z => e ⟨i, hi, z⟩
    rw [mat_out e', mat_out e']
theorem upd_comm {f : Hp} {p q : Addr} {x y : HO} (h : p ≠ q) : upd (upd f p x) q y = upd (upd f q y) p x := funext fun a => by
  by_cases e1 : a = p
  · subst e1; rw [upd_ne h, upd_same, upd_same]
  · rw [upd_ne e1]
    by_cases e2 : a = q
    · subst e2; rw [upd_same, upd_same]
    · rw [upd_ne e2, upd_ne e2, upd_ne e1]
def addA (n : Nat) (A : Nat → Addr) (p : Addr) : Nat → Addr := fun i => if i = n then p else A i
theorem addA_old {p : Addr} {i : Nat} (h : i < n) : addA n A p i = A i := if_neg (by omega)
theorem addA_new {p : Addr} : addA n A p n = p := if_pos rfl
theorem MatOk.add {p : Addr} (m : MatOk am F0 H0 n A) (hp : mat H0 n A r p = none) (hf : F0 p = none) (hs : ¬ am.sp p) : MatOk am F0 H0 (n + 1) (addA n A p) := by
  have ne : ∀ i, i < n → A i ≠ p := fun i hi z => by rw [← z, mat_at m.inj hi] at hp; cases hp
  have h0 : H0 p = none := by rw [mat_out ne] at hp; exact hp
  refine ⟨fun i j hi hj e => ?_, fun i hi => ?_, fun i hi => ?_, fun i hi => ?_⟩
  · by_cases ei : i = n
    · by_cases ej : j = n
      · omega
      · rw [ei, addA_new, addA_old (by omega)] at e
        exact absurd e.symm (ne j (by omega))
    · by_cases ej : j = n
      · rw [ej, addA_new, addA_old (by omega)] at e
        exact absurd e (ne i (by omega))
      · rw [addA_old (by omega), addA_old (by omega)] at e
        exact m.inj i j (by omega) (by omega) e
  · by_cases ei : i = n
    · rw [ei, addA_new]; exact h0
    · rw [addA_old (by omega)]; exact m.h0 i (by omega)
  · by_cases ei : i = n
    · rw [ei, addA_new]; exact hf
    · rw [addA_old (by omega)]; exact m.f0 i (by omega)
  · by_cases ei : i = n
    · rw [ei, addA_new]; exact hs
    · rw [addA_old (by omega)]; exact m.ns i (by omega)
theorem mat_add {p : Addr} (m : MatOk am F0 H0 n A) (hp : mat H0 n A r p = none) : upd (mat H0 n A r) p (.lst ((r n).map V.int)) = mat H0 (n + 1) (addA n A p) r := funext fun a => by
  have ne : ∀ i, i < n → A i ≠ p := fun i hi z => by rw [← z, mat_at m.inj hi] at hp; cases hp
  have inj' : ∀ i j, i < n + 1 → j < n + 1 → addA n A p i = addA n A p j → i = j := fun i j hi hj e => by
    by_cases ei : i = n
    · by_cases ej : j = n
      · omega
      · rw [ei, addA_new, addA_old (by omega)] at e
        exact absurd e.symm (ne j (by omega))
    · by_cases ej : j = n
      · rw [ej, addA_new, addA_old (by omega)] at e
        exact absurd e (ne i (by omega))
      · rw [addA_old (by omega), addA_old (by omega)] at e
        exact m.inj i j (by omega) (by omega) e
  by_cases e1 : a = p
  · subst e1
    have := mat_at (H0 := H0) (r := r) inj' (Nat.lt_succ_self n)
    rw [addA_new] at this
    rw [upd_same, this]
  · rw [upd_ne e1]
    by_cases e : ∃ i, i < n ∧ A i = a
    · obtain ⟨i, hi, rfl⟩ := e
      have := mat_at (H0 := H0) (r := r) inj' (show i < n + 1 by omega)
      rw [addA_old hi] at this
      rw [mat_at m.inj hi, this]
    · have e' : ∀ i, i < n → A i ≠ a := fun i hi z => e ⟨i, hi, z⟩
      rw [mat_out e', mat_out fun i hi => ?_]
      by_cases ei : i = n
      · rw [ei, addA_new]; exact fun z => e1 z.symm
      · rw [addA_old (by omega)]; exact e' i (by omega)
/-- a row is written -/
theorem Rel.row (m : MatOk am F0 H0 n A) (q : Rel ⟨am, F0, mat H0 n A r⟩ F H σ env t) {i : Nat} (hi : i < n) (l : List Int) : Rel ⟨am, F0, mat H0 n A (fun j => if j = i then l else r j)⟩ F (upd H (A i) (.lst (l.map V.int))) σ env t := by
  have hm : mat H0 n A r (A i) = some (.lst ((r i).map V.int)) := mat_at m.inj hi
  have fi : F (A i) = none := q.out0 (A i) _ hm (fun _ z => by cases z) (m.f0 i hi)
  have out : ∀ b, b ≠ A i → mat H0 n A (fun j => if j = i then l else r j) b = mat H0 n A r b := fun b hb => by
    by_cases e : ∃ j, j < n ∧ A j = b
    · obtain ⟨j, hj, rfl⟩ := e
      rw [mat_at m.inj hj, mat_at m.inj hj, if_neg fun z => hb (by rw [z])]
    · have e' : ∀ j, j < n → A j ≠ b := fun j hj z => e ⟨j, hj, z⟩
      rw [mat_out e', mat_out e']
  refine ⟨fun b u e => ?_, q.spf, q.amb' fun b hb => upd_ne fun z => m.ns i hi (z ▸ hb), q.up0, fun b ob h1 nt h2 => ?_, fun b u e nb => ?_, q.len, fun j s e => ?_, q.apart⟩
  · rw [upd_ne fun z => by rw [z, fi] at e; cases e]; exact q.sub b u e
  · by_cases z : b = A i
    · rw [z]; exact fi
    · have h1' : mat H0 n A (fun j => if j = i then l else r j) b = some ob := h1
      rw [out b z] at h1'
      exact q.out0 b ob h1' nt h2
  · have e' : mat H0 n A (fun j => if j = i then l else r j) b = some u := e
    by_cases z : b = A i
    · rw [z, mat_at m.inj hi, if_pos rfl] at e'
      rw [z, upd_same]; exact e'
    · rw [out b z] at e'
      rw [upd_ne z]; exact q.keep0 b u e' nb
  · have qs := q.sl j s e
    cases s with
    | no => trivial
    | fz d => exact qs
    | ow kk =>
      obtain ⟨a2, o2, g1, g2, g3, g4, g5, g6⟩ := qs
      have g3' : mat H0 n A r a2 = none := g3
      have z : a2 ≠ A i := fun z => by rw [z, hm] at g3'; cases g3'
      exact ⟨a2, o2, g1, g2, (out a2 z).trans g3', g4, by rw [upd_ne z]; exact g5, g6⟩
open Classical in
/-- all rows are still from now on -/
theorem Rel.rowsF (m : MatOk am F0 H0 n A) (q : Rel ⟨am, F0, mat H0 n A r⟩ F H σ env t) : ∃ F', Up F F' ∧ Rel ⟨am, F0, H0⟩ F' H σ env t ∧ ∀ i, i < n → Rp F' (.ref (A i)) (.lst ((r i).map Dt.int)) := by
  have fi : ∀ i, i < n → F (A i) = none := fun i hi => q.out0 (A i) _ (mat_at m.inj hi) (fun _ z => by cases z) (m.f0 i hi)
  have hi' : ∀ i, i < n → H (A i) = some (.lst ((r i).map V.int)) := fun i hi => q.keep0 (A i) _ (mat_at m.inj hi) (m.ns i hi)
  have up : Up F (mat F n A r) := fun b o e => by
    rw [mat_out fun i hi z => by rw [← z, fi i hi] at e; cases e]
    exact e
  have inv : ∀ b o, mat F n A r b = some o → (∃ i, i < n ∧ A i = b ∧ o = .lst ((r i).map V.int)) ∨ ((∀ i, i < n → A i ≠ b) ∧ F b = some o) := fun b o e => by
    rcases mat_some e with ⟨i, hi, rfl⟩ | ⟨h1, h2⟩
    · rw [mat_at m.inj hi] at e
      exact .inl ⟨i, hi, rfl, (Option.some.inj e).symm⟩
    · exact .inr ⟨h1, h2⟩
  refine ⟨mat F n A r, up, ⟨fun b o e => ?_, fun b hb => ?_, q.amb, q.up0.trans up, fun b ob h1 nt h2 => ?_, fun b u e nb => ?_, q.len, fun j s e => ?_, q.apart⟩, fun i hi => .lst (mat_at m.inj hi) (Rps.ints _)⟩
  · rcases inv b o e with ⟨i, hi, rfl, rfl⟩ | ⟨_, h2⟩
    · exact hi' i hi
    · exact q.sub b o h2
  · rw [mat_out (a := b) fun i hi (z : A i = b) => m.ns i hi (by rw [z]; exact hb)]; exact q.spf b hb
  · have h1' : H0 b = some ob := h1
    have ne : ∀ i, i < n → A i ≠ b := fun i hi z => by rw [← z, m.h0 i hi] at h1'; cases h1'
    rw [mat_out ne]
    exact q.out0 b ob (by show mat H0 n A r b = some ob; rw [mat_out ne]; exact h1') nt h2
  · have h1' : H0 b = some u := e
    have ne : ∀ i, i < n → A i ≠ b := fun i hi z => by rw [← z, m.h0 i hi] at h1'; cases h1'
    exact q.keep0 b u (by show mat H0 n A r b = some u; rw [mat_out ne]; exact h1') nb
  · have qs := q.sl j s e
    cases s with
    | no => trivial
    | fz d => exact let ⟨v, g1, g2⟩ := qs; ⟨v, g1, g2.up up⟩
    | ow kk =>
      obtain ⟨a2, o2, g1, g2, g3, g4, g5, g6⟩ := qs
      have g3' : mat H0 n A r a2 = none := g3
      have ne : ∀ i, i < n → A i ≠ a2 := fun i hi z => by rw [← z, mat_at m.inj hi] at g3'; cases g3'
      refine ⟨a2, o2, g1, by rw [mat_out ne]; exact g2, by show H0 a2 = none; rw [mat_out ne] at g3'; exact g3', g4, g5, g6.up up⟩
end
/-! ### rows of a text, what was there when entered being part of the state -/
structure XEn where
  nx : Hp → Ev → Nat → Prop
  rt : Hp → Dt → Nat → Prop
  bk : Hp → Ev → Nat → Prop := fun _ _ _ => False
  ct : Hp → Ev → Nat → Prop := fun _ _ _ => False
abbrev XTS := XEn → Hp → Ev → Nat → Prop
structure EnX (am : Am) (F0 F : Hp) (V : XEn) (D : Ends) : Prop where
  nx : ∀ H0 F' H' σ' env' n', Rel ⟨am, F0, H0⟩ F' H' σ' env' n' → Up F F' → V.nx H0 env' n' → D.nx σ' H'
  rt : ∀ H0 F' H' σ' env' n' v d, Rel ⟨am, F0, H0⟩ F' H' σ' env' n' → Up F F' → Rp F' v d → V.rt H0 d n' → D.rt v H'
  bk : ∀ H0 F' H' σ' env' n', Rel ⟨am, F0, H0⟩ F' H' σ' env' n' → Up F F' → V.bk H0 env' n' → D.bk σ' H'
  ct : ∀ H0 F' H' σ' env' n', Rel ⟨am, F0, H0⟩ F' H' σ' env' n' → Up F F' → V.ct H0 env' n' → D.ct σ' H'
theorem EnX.up {am : Am} {F0 F F' : Hp} {V : XEn} {D : Ends} (h : EnX am F0 F V D) (u : Up F F') : EnX am F0 F' V D :=
  ⟨fun H0 F2 H' σ' env' n' r w => h.nx H0 F2 H' σ' env' n' r (u.trans w), fun H0 F2 H' σ' env' n' v d r w => h.rt H0 F2 H' σ' env' n' v d r (u.trans w), fun H0 F2 H' σ' env' n' r w => h.bk H0 F2 H' σ' env' n' r (u.trans w), fun H0 F2 H' σ' env' n' r w => h.ct H0 F2 H' σ' env' n' r (u.trans w)⟩
def sX (am : Am) (F0 : Hp) (ts : XTS) : TS := fun D σ H => ∃ H0 F env n V, Rel ⟨am, F0, H0⟩ F H σ env n ∧ ts V H0 env n ∧ EnX am F0 F V D
section
variable {am : Am} {F0 : Hp} {X : Cx} {s : Stmt} {ss body : List Stmt} {pos : Pos}
def xLift (ts : VTS) : XTS := fun V H0 env n => ts ⟨V.nx H0, V.rt H0, V.bk H0, V.ct H0⟩ env n
theorem xs_lift {ts : VTS} (h : ∀ H0, PS X s (sOf ⟨am, F0, H0⟩ ts)) : PS X s (sX am F0 (xLift ts)) := ⟨fun pins s σ H D I ⟨H0, F, env, n, V, r, q, k⟩ => (h H0).run pins s σ H D I ⟨F, env, n, _, r, q, ⟨fun F' H' σ' env' n' r' u q' => k.nx H0 F' H' σ' env' n' r' u q', fun F' H' σ' env' n' v d r' u rv q' => k.rt H0 F' H' σ' env' n' v d r' u rv q', fun F' H' σ' env' n' r' u q' => k.bk H0 F' H' σ' env' n' r' u q', fun F' H' σ' env' n' r' u q' => k.ct H0 F' H' σ' env' n' r' u q'⟩⟩⟩
def xSeq (A B : XTS) : XTS := fun V H0 env n => A { V with nx := fun H1 env1 n1 => B V H1 env1 n1 } H0 env n
end
end VL
namespace VL
open PySem PySem.Spec PyProof.Rows L2 HM
section
variable {am : Am} {F0 : Hp} {X : Cx} {st : Stmt} {rest body : List Stmt} {pos : Pos} {t u : XTS}
theorem xss_cons (h1 : PS X st (sX am F0 t)) (h2 : PSs X rest (sX am F0 u)) : PSs X (st :: rest) (sX am F0 (xSeq t u)) := PSs.imp (pss_cons h1 h2) fun D σ H ⟨H0, F, env, n, V, r, q, k⟩ =>
  ⟨H0, F, env, n, _, r, q, ⟨fun H1 F' H' σ' env' n' r' w q' => ⟨H1, F', env', n', V, r', q', k.up w⟩, k.rt, k.bk, k.ct⟩⟩
theorem xss_one (h1 : PS X st (sX am F0 t)) : PSs X [st] (sX am F0 t) := pss_one h1
/-- back to what was there when entered -/
def xOut (H0 : Hp) (t : XTS) : VTS := fun V env n => t { nx := fun H1 e n => H1 = H0 ∧ V.nx e n, rt := fun H1 d n => H1 = H0 ∧ V.rt d n, bk := fun H1 e n => H1 = H0 ∧ V.bk e n, ct := fun H1 e n => H1 = H0 ∧ V.ct e n } H0 env n
theorem xss_out {H0 : Hp} (h : PSs X body (sX am F0 t)) : PSs X body (sOf ⟨am, F0, H0⟩ (xOut H0 t)) := PSs.imp h fun D σ H ⟨F, env, n, V, r, q, k⟩ => ⟨H0, F, env, n, _, r, q,
  ⟨fun H1 F' H' σ' env' n' r' w q' => by obtain ⟨rfl, q'⟩ := q'; exact k.nx F' H' σ' env' n' r' w q', fun H1 F' H' σ' env' n' v d r' w rv q' => by obtain ⟨rfl, q'⟩ := q'; exact k.rt F' H' σ' env' n' v d r' w rv q',
   fun H1 F' H' σ' env' n' r' w q' => by obtain ⟨rfl, q'⟩ := q'; exact k.bk F' H' σ' env' n' r' w q', fun H1 F' H' σ' env' n' r' w q' => by obtain ⟨rfl, q'⟩ := q'; exact k.ct F' H' σ' env' n' r' w q'⟩⟩
/-! for -/
def xFor (wi : VTI) (g : VTG) (tb : XTS) : XTS := fun V H0 env n => wi env n fun xs env1 n1 => ∃ P : Nat → Hp → Ev → Nat → Prop, P 0 H0 env1 n1 ∧
  (∀ i x H0 env n, xs[i]? = some x → P i H0 env n → g x env n fun env2 n2 => tb { nx := P (i + 1), ct := P (i + 1), bk := V.nx, rt := V.rt } H0 env2 n2) ∧ ∀ H0 env n, P xs.length H0 env n → V.nx H0 env n
theorem xs_for {tg iter : Expr} {wi : VTI} {g : VTG} {tb : XTS} (hp : PassesOwn (model X.prog X.w) X.A X.env X.xe) (hc : X.calm = true) (hi : ∀ H0, PI X tg iter (iOf ⟨am, F0, H0⟩ wi)) (hg : ∀ H0, PG X tg (gOf ⟨am, F0, H0⟩ g)) (hb : PSs X body (sX am F0 tb))
    (hs : ∀ x, foldedSetIterable iter X.env x = pure x := by intro _; rfl) : PS X (.For tg iter body [] pos) (sX am F0 (xFor wi g tb)) :=
  PS.imp (ps_for (wi := fun σ H R => ∃ H0, iOf ⟨am, F0, H0⟩ wi σ H R) (g := fun v σ H R => ∃ H0, gOf ⟨am, F0, H0⟩ g v σ H R) hp hc ⟨fun pins s σ H Q I ⟨H0, q⟩ => (hi H0).run pins s σ H Q I q⟩ ⟨fun pins s σ H v u Q I r ⟨H0, q⟩ => (hg H0).run pins s σ H v u Q I r q⟩ hb hs) fun D σ H ⟨H0, F, env, n, V, r, q, k⟩ => by
  refine ⟨H0, F, env, n, _, r, q, fun J H1 F1 xs env1 n1 r1 u1 wk q1 => ?_⟩
  obtain ⟨P, p0, turn, fin⟩ := q1
  refine ⟨fun i m σ H => m = xs.length - i ∧ i ≤ xs.length ∧ ∃ H0 F' env n, Rel ⟨am, F0, H0⟩ F' H σ env n ∧ Up F1 F' ∧ P i H0 env n, ⟨_, rfl, Nat.zero_le _, H0, F1, env1, n1, r1, Up.refl F1, p0⟩, ?_⟩
  rintro i m σ2 H2 ⟨rfl, hi, Hb, F2, env2, n2, r2, u2, p2⟩
  obtain ⟨wg, ws⟩ := wk ⟨am, F0, Hb⟩ rfl F2 H2 σ2 env2 n2 r2 u2 i
  by_cases hlt : i < xs.length
  · obtain ⟨go, yl⟩ := wg hlt
    refine .inr ⟨go, fun σ' H' => ∃ H0 F' env n, Rel ⟨am, F0, H0⟩ F' H' σ' env n ∧ Up F1 F' ∧ P (i + 1) H0 env n, fun σ' H' h => ⟨xs.length - (i + 1), by omega, rfl, hlt, h⟩, fun x H3 y => ?_⟩
    obtain ⟨F3, d, r3, u3, ed, rd⟩ := yl x H3 y
    refine ⟨Hb, F3, env2, n2, d, _, r3, rd, turn i d Hb env2 n2 ed p2, fun σ4 H4 F4 env4 n4 r4 u4 q4 => ?_⟩
    have u14 := (u2.trans u3).trans u4
    exact ⟨Hb, F4, env4, n4, _, r4, q4, ⟨fun H0 F5 H5 σ5 env5 n5 r5 u5 q5 => ⟨H0, F5, env5, n5, r5, u14.trans u5, q5⟩, (k.up (u1.trans u14)).rt, (k.up (u1.trans u14)).nx, fun H0 F5 H5 σ5 env5 n5 r5 u5 q5 => ⟨H0, F5, env5, n5, r5, u14.trans u5, q5⟩⟩⟩
  · have e : i = xs.length := by omega
    subst e
    exact .inl ⟨ws (Nat.le_refl _), k.nx Hb F2 H2 σ2 env2 n2 r2 (u1.trans u2) (fin Hb env2 n2 p2)⟩
/-! f[x][y] = e, f a list of rows -/
def objD (n : Nat) (A : Nat → Addr) : List Dt := (List.range n).map fun i => Dt.obj (A i)
def xRow (to ti tv : VTE) : XTS := fun V H0 env n => tv env n fun d env1 n1 => to env1 n1 fun o env2 n2 => ti env2 n2 fun y env3 n3 => ∃ (Hb : Hp) (m : Nat) (A : Nat → Addr) (r : Nat → List Int) (i k : Nat) (z : Int),
  H0 = mat Hb m A r ∧ MatOk am F0 Hb m A ∧ o = .obj (A i) ∧ i < m ∧ y = .int (k : Int) ∧ k < (r i).length ∧ d = .int z ∧ V.nx (mat Hb m A (fun j => if j = i then (r i).set k z else r j)) env3 n3
theorem set_ints (l : List Int) (k : Nat) (z : Int) : (l.map V.int).set k (V.int z) = (l.set k z).map V.int := (List.map_set ..).symm
theorem xs_row {o i v : Expr} {to ti tv : VTE} {p2 : Pos} (ho : ∀ H0, PE X o (tOf ⟨am, F0, H0⟩ to)) (hi : ∀ H0, PE X i (tOf ⟨am, F0, H0⟩ ti)) (hv : ∀ H0, PE X v (tOf ⟨am, F0, H0⟩ tv)) (ha : ∀ v, assign (.Subscript o i p2) X.env v = (do
      let ov ← holding [v] (eval o X.env)
      let iv ← holding [v, ov] (eval i X.env)
      standAt p2
      holding [v, ov, iv] (setItem ov iv v)
      release [v, ov, iv] []) := by intro _; rfl) (hs : swapsWithSole [.Subscript o i p2] v pos.line X.env = pure false := by rfl) (hw : swappedStores [.Subscript o i p2] v X.env = pure none := by rfl)
    (h1 : (assignEach [.Subscript o i p2] X.env).map (·.2) = [assign (.Subscript o i p2) X.env] := by rfl) : PS X (.Assign [.Subscript o i p2] v pos) (sX am F0 (xRow (am := am) (F0 := F0) to ti tv)) :=
  PS.imp (ps_asg (te := fun σ H R => ∃ H0, tOf ⟨am, F0, H0⟩ tv σ H R) ⟨fun pins s σ H Q I ⟨H0, q⟩ => (hv H0).run pins s σ H Q I q⟩ (pg_sub (to := fun σ H R => ∃ H0, tOf ⟨am, F0, H0⟩ to σ H R) (ti := fun σ H R => ∃ H0, tOf ⟨am, F0, H0⟩ ti σ H R) ⟨fun pins s σ H Q I ⟨H0, q⟩ => (ho H0).run pins s σ H Q I q⟩ ⟨fun pins s σ H Q I ⟨H0, q⟩ => (hi H0).run pins s σ H Q I q⟩ set_list ha) hs hw h1) fun D σ H ⟨H0, F, env, n, V, rr, q, k⟩ => by
  refine ⟨H0, F, env, n, _, rr, q, fun v H1 F1 d env1 n1 r1 u1 rv q1 => ?_⟩
  refine ⟨H0, F1, env1, n1, _, r1, q1, fun o H2 F2 d2 env2 n2 r2 u2 ro q2 => ?_⟩
  refine ⟨H0, F2, env2, n2, _, r2, q2, fun y H3 F3 d3 env3 n3 r3 u3 ry q3 => ?_⟩
  obtain ⟨Hb, m, A, rw_, i, kk, z, rfl, mo, rfl, him, rfl, hk, rfl, q3⟩ := q3
  have hA : H3 (A i) = some (.lst ((rw_ i).map L2.V.int)) := r3.keep0 (A i) _ (mat_at mo.inj him) (mo.ns i him)
  have eo : o = .ref (A i) := by cases ro; rfl
  have r4 := Rel.row mo r3 him ((rw_ i).set kk z)
  rw [rv.int_inv]
  refine ⟨A i, (rw_ i).map L2.V.int, _, kk, eo, ry.int_inv, hA, ixN_nat (by rw [List.length_map]; exact hk), ?_⟩
  rw [set_ints]
  exact k.nx _ F3 _ σ env3 n3 r4 ((u1.trans u2).trans u3) q3
/-! return f, f a list of rows -/
def xRetRows (j : Nat) : XTS := fun V H0 env n => ∃ (Hb : Hp) (m : Nat) (A : Nat → Addr) (r : Nat → List Int), H0 = mat Hb m A r ∧ MatOk am F0 Hb m A ∧ env[j]? = some (.ow (.lst (objD m A))) ∧ V.rt Hb (.lst ((List.range m).map fun i => .lst ((r i).map Dt.int))) n
theorem rps_objs {F : Hp} {A : Nat → Addr} {r : Nat → List Int} : ∀ {l : List Nat} {xs : List V}, Rps F xs (l.map fun i => Dt.obj (A i)) → (∀ i ∈ l, Rp F (.ref (A i)) (.lst ((r i).map Dt.int))) → Rps F xs (l.map fun i => .lst ((r i).map Dt.int))
  | [], _, .nil, _ => .nil
  | i :: l, _, .cons h t, hr => by
    cases h
    exact .cons (hr i List.mem_cons_self) (rps_objs t fun j hj => hr j (List.mem_cons_of_mem _ hj))
theorem xs_retRows {j : Nat} {x : Str} {p : Pos} (h : PE X (.Name x p) (tVar j)) : PS X (.Return (some (.Name x p)) pos) (sX am F0 (xRetRows (am := am) (F0 := F0) j)) := PS.imp (ps_ret h) fun D σ H ⟨H0, F, env, n, V, rr, ⟨Hb, m, A, r, e0, mo, e, q⟩, k⟩ => by
  subst e0
  obtain ⟨F1, u1, r1, hr⟩ := Rel.rowsF mo rr
  obtain ⟨a, F2, e2, u2, rp, r2⟩ := r1.freeze e
  refine ⟨.ref a, e2, ?_⟩
  obtain ⟨a', xs, ea, hF, rx⟩ := rp.lst_inv
  cases ea
  exact k.rt Hb F2 H σ _ n (.ref a) _ r2 (u1.trans u2) (.lst hF (rps_objs rx fun i hi => (hr i (List.mem_range.mp hi)).up u2)) q
end
end VL
namespace VL
open PySem PySem.Spec PyProof.Rows L2 HM
theorem Rel.rest2 {c1 c : Fc} {F1 H1 F H : Hp} {σ : L2.St} {env1 env : Ev} {n1 n : Nat} {vs : List Nat} (r1 : Rel c1 F1 H1 σ env1 n1) (u : Up F1 F) (no : ∀ i ∈ vs, ∀ k, env1[i]? ≠ some (.ow k)) (r : Rel c F H (L2.wipe σ vs) env n) : Rel c F H σ (restE env1 env vs) n := by
  have hl : σ.length = env.length := by rw [← r.len, wipe_length]
  refine ⟨r.sub, r.spf, r.amb, r.up0, r.out0, r.keep0, by rw [restE_length]; exact hl, fun i s e => ?_, fun i j a k k' hij e1 e2 e3 => ?_⟩
  · rcases restE_get e with ⟨rfl, h2⟩ | ⟨h1, h2⟩
    · cases e4 : env1[i]? with
      | none =>
        have : env1.getD i .no = .no := by rw [List.getD_eq_getElem?_getD, e4]; rfl
        rw [this]; trivial
      | some s =>
        have : env1.getD i .no = s := by rw [List.getD_eq_getElem?_getD, e4]; rfl
        rw [this]
        have q := r1.sl i s e4
        cases s with
        | no => trivial
        | fz d => exact let ⟨v, g1, g2⟩ := q; ⟨v, g1, g2.up u⟩
        | ow k => exact absurd e4 (no i h2 k)
    · have q := r.sl i s h1
      rw [wipe_out h2] at q
      exact q
  · have f : ∀ {i : Nat} {k : Con}, (restE env1 env vs)[i]? = some (.ow k) → i ∉ vs ∧ env[i]? = some (.ow k) := fun {i k} e => by
      rcases restE_get e with ⟨h1, h2⟩ | ⟨h1, h2⟩
      · cases e4 : env1[i]? with
        | none =>
          have : env1.getD i .no = .no := by rw [List.getD_eq_getElem?_getD, e4]; rfl
          rw [this] at h1; cases h1
        | some s =>
          have : env1.getD i .no = s := by rw [List.getD_eq_getElem?_getD, e4]; rfl
          rw [this] at h1
          rw [← h1] at e4
          exact absurd e4 (no i h2 k)
      · exact ⟨h2, h1⟩
    obtain ⟨n1, f1⟩ := f e1
    obtain ⟨n2, f2⟩ := f e2
    have q := r.apart i j a k k' hij f1 f2 (by rw [wipe_out n1]; exact e3)
    rw [wipe_out n2] at q
    exact q
/-- a kept thing is written -/
theorem Rel.rewr {σ : L2.St} {H F : Hp} {env : Ev} {n : Nat} {p : Addr} {o : HO} {c : Fc} (nto : NT o) (r : Rel (c.wth p o) F H σ env n) (h0 : c.H0 p = none) (hF0 : c.F0 p = none) (ns : ¬ c.am.sp p) (o' : HO) : Rel (c.wth p o') F (upd H p o') σ env n := by
  obtain ⟨r7, eD, fD, nD7⟩ := Rel.pop nto r h0 hF0 ns
  have r8 : Rel c F (upd H p o') σ env n := by
    refine ⟨fun b o e => ?_, r7.spf, r7.amb' fun b hb => upd_ne fun z => ns (z ▸ hb), r7.up0, r7.out0, fun b o e nb => ?_, r7.len, fun j s e => ?_, r7.apart⟩
    · rw [upd_ne fun z => by rw [z, fD] at e; cases e]; exact r7.sub b o e
    · rw [upd_ne fun z => by rw [z, h0] at e; cases e]; exact r7.keep0 b o e nb
    · have q := r7.sl j s e
      cases s with
      | no => trivial
      | fz d => exact q
      | ow kk =>
        obtain ⟨a, o, g1, g2, g3, g4, g5, g6⟩ := q
        exact ⟨a, o, g1, g2, g3, g4, by rw [upd_ne fun z => nD7 j kk e (by rw [g1, z])]; exact g5, g6⟩
  exact r8.push upd_same fD ns nD7
def refV (n : Nat) (A : Nat → Addr) : List V := (List.range n).map fun i => V.ref (A i)
theorem rps_refs {F : Hp} {A : Nat → Addr} : ∀ l : List Nat, Rps F (l.map fun i => V.ref (A i)) (l.map fun i => Dt.obj (A i))
  | [] => .nil
  | i :: l => .cons (.obj _) (rps_refs l)
theorem refV_add {n : Nat} {A : Nat → Addr} {p : Addr} : refV (n + 1) (addA n A p) = refV n A ++ [.ref p] := by
  unfold refV
  rw [List.range_succ, List.map_append]
  refine congr (congrArg _ (List.map_congr_left fun i hi => ?_)) ?_
  · rw [addA_old (List.mem_range.mp hi)]
  · show [V.ref (addA n A p n)] = _
    rw [addA_new]
section
variable {am : Am} {F0 : Hp} {X : Cx}
def xLcRows (j iv : Nat) (wi : VTI) (tn : VTN) (vs : List Nat) : XTS := fun V H0 env n => wi env n fun xs env1 n1 => (∀ i ∈ vs, ∀ k, env1[i]? ≠ some (.ow k)) ∧ xs.length ≤ 1000 ∧ iv ∈ vs ∧ ∃ r : Nat → List Int,
  (∀ i x, xs[i]? = some x → ∀ R : Con → Ev → Nat → Prop, R (.lst ((r i).map Dt.int)) ((wipeE env1 vs).set iv (.fz x)) n1 → tn ((wipeE env1 vs).set iv (.fz x)) n1 R) ∧
  ∀ A, MatOk am F0 H0 xs.length A → V.nx (mat H0 xs.length A r) (env1.set j (.ow (.lst (objD xs.length A)))) n1
theorem lcRows_of {H0 : Hp} {j iv : Nat} {wi : VTI} {tn : VTN} {vs : List Nat} {F H : Hp} {σ : L2.St} {env : Ev} {n : Nat} {V : XEn} {D : Ends} (r : Rel ⟨am, F0, H0⟩ F H σ env n) (q : xLcRows (am := am) (F0 := F0) j iv wi tn vs V H0 env n) (k : EnX am F0 F V D) :
    tAsg (tLc (fun σ H R => ∃ H0, iOf ⟨am, F0, H0⟩ wi σ H R) (gName iv) (fun σ H R => R true H) (fun σ H R => ∃ H0, nOf ⟨am, F0, H0⟩ tn σ H R) vs) (gName j) D σ H := by
  refine ⟨H0, F, env, n, _, r, q, fun J H1 F1 xs env1 n1 r1 u1 wk q1 => ?_⟩
  obtain ⟨no, hlen, hiv, rr, he, fin⟩ := q1
  intro L nL
  obtain ⟨h0, ns, nf⟩ := r1.new0 nL
  have hF0 : F0 L = none := by
    cases e : F0 L with
    | none => rfl
    | some o => rw [r1.up0 L o e] at nf; cases nf
  refine ⟨fun i m H => m = xs.length - i ∧ i ≤ xs.length ∧ ∃ F' A, MatOk am F0 H0 i A ∧ mat H0 i A rr L = none ∧ Rel (Fc.wth ⟨am, F0, mat H0 i A rr⟩ L (.lst (refV i A))) F' H (L2.wipe σ vs) (wipeE env1 vs) n1 ∧ Up F1 F', ⟨_, rfl, Nat.zero_le _, F1, fun _ => L, ⟨fun i j hi => by omega, fun i hi => by omega, fun i hi => by omega, fun i hi => by omega⟩, by rw [mat_zero]; exact h0, ?_, Up.refl F1⟩, ?_⟩
  · rw [mat_zero]
    refine ((r1.wipe vs).lay nL _).push upd_same nf ns fun j k' e z => ?_
    obtain ⟨a, o, g1, _, _, _, g5, _⟩ := (r1.wipe vs).sl j _ e
    rw [g1] at z
    cases z
    rw [g5] at nL
    cases nL
  · rintro i m H2 ⟨rfl, hi, F2, A, mo, hL, r2, u2⟩
    obtain ⟨wg, ws⟩ := wk (Fc.wth ⟨am, F0, mat H0 i A rr⟩ L (.lst (refV i A))) rfl F2 H2 _ _ n1 r2 u2 i
    by_cases hlt : i < xs.length
    · obtain ⟨go, yl⟩ := wg hlt
      refine .inr ⟨go, fun H => ∃ F' A, MatOk am F0 H0 (i + 1) A ∧ mat H0 (i + 1) A rr L = none ∧ Rel (Fc.wth ⟨am, F0, mat H0 (i + 1) A rr⟩ L (.lst (refV (i + 1) A))) F' H (L2.wipe σ vs) (wipeE env1 vs) n1 ∧ Up F1 F', fun H' hN => ⟨xs.length - (i + 1), by omega, rfl, hlt, hN⟩, fun x H3 y => ?_⟩
      obtain ⟨F3, d, r3, u3, ed, rd⟩ := yl x H3 y
      have hw : L2.wipe ((L2.wipe σ vs).set iv (some x)) vs = L2.wipe σ vs := by
        rw [wipe_set hiv]
        exact List.ext_getElem? fun j => by
          rw [wipe_get, wipe_get, wipe_length]
          by_cases h : j ∈ vs ∧ j < σ.length
          · rw [if_pos h, if_pos h]
          · rw [if_neg h, if_neg h]
      refine ⟨hw, ?_⟩
      show (if true = true then _ else _)
      rw [if_pos rfl]
      refine ⟨upd (mat H0 i A rr) L (.lst (refV i A)), F3, (wipeE env1 vs).set iv (.fz d), n1, fun k env' n' => k = .lst ((rr i).map Dt.int) ∧ env' = (wipeE env1 vs).set iv (.fz d) ∧ n' = n1, r3.setF rd, he i d ed _ ⟨rfl, rfl, rfl⟩, ?_⟩
      rintro a o H4 F4 kk env4 n4 r4 u4 hF h0a nsa hH w ha ⟨rfl, rfl, rfl⟩
      obtain ⟨xs', rfl, rx⟩ := w
      have ex := rx.of_ints
      subst ex
      have h0a' : upd (mat H0 i A rr) L (.lst (refV i A)) a = none := h0a
      have aL : a ≠ L := fun z => by rw [z, upd_same] at h0a'; cases h0a'
      rw [upd_ne aL] at h0a'
      have f0a : F0 a = none := by
        cases e : F0 a with
        | none => rfl
        | some o => rw [r4.up0 a o e] at hF; cases hF
      have mo' := mo.add (r := rr) h0a' f0a nsa
      have r5 := r4.push hH hF nsa ha
      have ec : Fc.wth ⟨am, F0, upd (mat H0 i A rr) L (.lst (refV i A))⟩ a (.lst ((rr i).map L2.V.int)) = Fc.wth ⟨am, F0, mat H0 (i + 1) (addA i A a) rr⟩ L (.lst (refV i A)) := by
        show (⟨am, F0, upd (upd (mat H0 i A rr) L (.lst (refV i A))) a (.lst ((rr i).map L2.V.int))⟩ : Fc) = ⟨am, F0, upd (mat H0 (i + 1) (addA i A a) rr) L (.lst (refV i A))⟩
        rw [upd_comm (Ne.symm aL), mat_add mo h0a']
      have r5' : Rel (Fc.wth ⟨am, F0, upd (mat H0 i A rr) L (.lst (refV i A))⟩ a (.lst ((rr i).map L2.V.int))) F4 H4 ((L2.wipe σ vs).set iv (some x)) ((wipeE env1 vs).set iv (.fz d)) n4 := r5
      rw [ec] at r5'
      have hL' : mat H0 (i + 1) (addA i A a) rr L = none := by
        rw [← mat_add mo h0a', upd_ne (Ne.symm aL)]; exact hL
      have eD : H4 L = some (.lst (refV i A)) := r5'.keep0 L _ (show upd _ L _ L = _ from upd_same) ns
      refine ⟨refV i A, eD, small1000 (by simp [refV]; omega), F4, addA i A a, mo', hL', ?_, (u2.trans u3).trans u4⟩
      have r6 := Rel.rewr (c := ⟨am, F0, mat H0 (i + 1) (addA i A a) rr⟩) (fun _ z => by cases z) r5' hL' hF0 ns (.lst (refV i A ++ [.ref a]))
      rw [refV_add]
      have r7 := r6.wipe2 hw
      rw [wipeE_set hiv, wipeE_idem] at r7
      exact r7
    · have e : i = xs.length := by omega
      subst e
      refine .inl ⟨ws (Nat.le_refl _), ?_⟩
      obtain ⟨r7, eD, fD, nD7⟩ := Rel.pop (c := ⟨am, F0, mat H0 xs.length A rr⟩) (fun _ z => by cases z) r2 hL hF0 ns
      have r8 := r1.rest2 u2 no r7
      rw [rest_wipe] at r8
      have nD8 : ∀ (j : Nat) k', env1[j]? = some (.ow k') → σ[j]? ≠ some (some (.ref L)) := fun j k' e z => by
        have hj : j ∉ vs := fun hj => no j hj k' e
        refine nD7 j k' ?_ (by rw [wipe_out hj]; exact z)
        rw [wipeE_at, if_neg fun h => hj h.1]
        exact e
      exact k.nx _ F2 H2 _ _ n1 (r8.setO (i := j) fD hL ns eD (k := .lst (objD xs.length A)) ⟨_, rfl, rps_refs _⟩ nD8) (u1.trans u2) (fin A mo)
theorem xs_setLcRows {i iv : Nat} {y : Str} {py : Pos} {elt tg iter : Expr} {scope : Scope} {own : List (Str × Nat)} {pos spos : Pos} {wi : VTI} {tn : VTN} (hc : X.calm = true) (hN : X.N.Nodup) (hy : X.N[i]? = some y) (hyl : X.env.scope.names.lookup y = some .local)
    (hsw : swapsWith (.ListComp elt [⟨tg, iter, [], 0⟩] scope pos) (some (.Name y py)) spos.line X.env = pure true) (hi : ∀ H0, PI X tg iter (iOf ⟨am, F0, H0⟩ wi)) (ok : BlkOk X.N X.env.scope scope own)
    (hg : ∀ (s : Shared) (H : Hp) (C : Addr) (cl : List (Str × Addr)) (fp : List Addr), PG (X.blk s H scope (compEnvC scope cl C X.env) fp) tg (gName iv))
    (he : ∀ (H0 : Hp) (s : Shared) (H : Hp) (C : Addr) (cl : List (Str × Addr)) (fp : List Addr), PE (X.blk s H scope (compEnvC scope cl C X.env) fp) elt (nOf ⟨am, F0, H0⟩ tn)) (hs : ∀ x, foldedSetIterable iter X.env x = pure x := by intro _; rfl) :
    PS X (.Assign [.Name y py] (.ListComp elt [⟨tg, iter, [], 0⟩] scope pos) spos) (sX am F0 (xLcRows (am := am) (F0 := F0) i iv wi tn (own.map (·.2)))) :=
  PS.imp (ps_setLc (wi := fun σ H R => ∃ H0, iOf ⟨am, F0, H0⟩ wi σ H R) (tt := fun σ H R => R true H) (te := fun σ H R => ∃ H0, nOf ⟨am, F0, H0⟩ tn σ H R) hc hN hy hyl hsw ⟨fun pins s σ H Q I ⟨H0, q⟩ => (hi H0).run pins s σ H Q I q⟩ ok hg
    (fun s H C cl fp => pts_nil) (fun s H C cl fp => ⟨fun pins s' σ H' Q I ⟨H0, q⟩ => (he H0 s H C cl fp).run pins s' σ H' Q I q⟩) hs)
    fun D σ H ⟨H0, F, env, n, V, r, q, k⟩ => lcRows_of r q k
end
section
variable {P : Program} {w : World} {K : PySem.W.Frag} {mg : Str → Option Value} {base : Heap} {am : Am} {gd : Around → Prop} {x qual : Str} {st : Stmt} {f : Addr} {fd : FuncData} {N ps : List Str} {k : Nat} {sp : VSp}
/-- a def that lets no exception out, its reading by what was there when entered -/
theorem vfn_ofX (F : Fun K x qual st f fd) (S : FnScope N ps (defScope st)) (len : ∀ ds n Q E, sp ds n Q E → ds.length = ps.length)
    (body : ∃ ts : Hp → Hp → VTS, (∀ (cdv : Value) (A : Around) (out : List Env) (s : Shared) (H : Hp) (E : XK) (F0 H0 : Hp), fd.code = cdv → gd A → Room k (A.deeper (envOfC qual (defScope st) s.heap.objs.size f cdv)) → PSs (cxOf CX0 P w K mg base N qual (defScope st) f cdv A out s H E).nox (defBody st) (sOf ⟨am, F0, H0⟩ (ts F0 H0))) ∧
      ∀ F0 H0 ds n Q E, sp ds n Q E → ts F0 H0 { nx := fun _ n' => Q .non n', rt := Q } (startE N ds) n) : VFn gd P w K mg base CX0 (k + 1) f fd ps am sp := by
  obtain ⟨ts, hts, hsp⟩ := body
  refine pfn_of F S (fun vs H Q E h => ?_) (fun cdv A out s H vs Q E hcd hgd hr h => ?_)
  · obtain ⟨F0, ds, n, Q', E', _, _, _, r, h, _⟩ := h
    rw [r.len]
    exact len ds n Q' E' h
  · obtain ⟨F0, ds, n, Q', E', u, hs, ha, r, h, kq, ke⟩ := h
    refine ⟨_, hts cdv A out s H E F0 H hcd hgd hr, F0, startE N ds, n, _, rel_start u hs ha r, hsp F0 H ds n Q' E' h, ⟨fun F' H' σ' env' n' r' _ q => kq .non F' H' .non n' r'.out .non q, fun F' H' σ' env' n' v d r' _ rv q => kq v F' H' d n' r'.out rv q, fun _ _ _ _ _ _ _ z => z.elim, fun _ _ _ _ _ _ _ z => z.elim⟩⟩
end
end VL
namespace VL
open PySem PySem.Spec PyProof.Rows L2 HM
/-! ### zip of two tuples, of two lists -/
def zipD (xs ys : List Dt) : List Dt := List.zipWith (fun a b => Dt.tup [a, b]) xs ys
theorem zipD_get {xs ys : List Dt} {i : Nat} {z : Dt} (h : (zipD xs ys)[i]? = some z) : ∃ a b, xs[i]? = some a ∧ ys[i]? = some b ∧ z = .tup [a, b] := by
  unfold zipD at h
  rw [List.getElem?_zipWith] at h
  cases ea : xs[i]? with
  | none => rw [ea] at h; cases h
  | some a =>
    cases eb : ys[i]? with
    | none => rw [ea, eb] at h; cases h
    | some b =>
      rw [ea, eb] at h
      exact ⟨a, b, rfl, rfl, (Option.some.inj h).symm⟩
theorem zipD_len (xs ys : List Dt) : (zipD xs ys).length = min xs.length ys.length := by unfold zipD; rw [List.length_zipWith]
section
variable {c : Fc} {X : Cx} {te : VTE} {tas : VTA}
theorem wk_zipT {K : PySem.W.Frag} {F : Hp} {a b : Addr} {xs ys : List V} {ds es : List Dt} (h : F a = some (.tup xs)) (rx : Rps F xs ds) (h2 : F b = some (.tup ys)) (ry : Rps F ys es) : Wk c.am (RZ.ItzT K a b) F (zipD ds es) := fun c _ F1 H σ env n r u i => by
  have hA : SqT K H a xs := .inl (.inl (r.sub _ _ (u _ _ h)))
  have hB : SqT K H b ys := .inl (.inl (r.sub _ _ (u _ _ h2)))
  refine ⟨fun hi => ?_, fun hi => ⟨xs, ys, hA, hB, ?_⟩⟩
  · obtain ⟨da, db, ea, eb, ez⟩ := zipD_get (List.getElem?_eq_getElem hi)
    obtain ⟨v, e1, p1⟩ := rx.get ea
    obtain ⟨v2, e2, p2⟩ := ry.get eb
    refine ⟨⟨xs, ys, v, v2, hA, hB, e1, e2⟩, fun x H' y => ?_⟩
    obtain ⟨T, x1, y1, rfl, nT, rfl, hx, hy⟩ := y
    have q1 := hx xs hA
    have q2 := hy ys hB
    rw [e1] at q1
    rw [e2] at q2
    cases q1
    cases q2
    obtain ⟨_, _, nf⟩ := r.new0 nT
    exact ⟨upd F1 T (.tup [v, v2]), _, r.layF nT _, up_lay nf, List.getElem?_eq_getElem hi, by rw [ez]; exact .tup upd_same (.cons ((p1.up u).up (up_lay nf)) (.cons ((p2.up u).up (up_lay nf)) .nil))⟩
  · rw [zipD_len] at hi
    rw [rx.len, ry.len]
    omega
theorem wk_zipL {K : PySem.W.Frag} {F : Hp} {a b : Addr} {xs ys : List V} {ds es : List Dt} (h : F a = some (.lst xs)) (rx : Rps F xs ds) (h2 : F b = some (.lst ys)) (ry : Rps F ys es) : Wk c.am (Itz K a b) F (zipD ds es) := fun c _ F1 H σ env n r u i => by
  have hA : SqL K H a xs := .inl (.inl (r.sub _ _ (u _ _ h)))
  have hB : SqL K H b ys := .inl (.inl (r.sub _ _ (u _ _ h2)))
  refine ⟨fun hi => ?_, fun hi => ⟨xs, ys, hA, hB, ?_⟩⟩
  · obtain ⟨da, db, ea, eb, ez⟩ := zipD_get (List.getElem?_eq_getElem hi)
    obtain ⟨v, e1, p1⟩ := rx.get ea
    obtain ⟨v2, e2, p2⟩ := ry.get eb
    refine ⟨⟨xs, ys, v, v2, hA, hB, e1, e2⟩, fun x H' y => ?_⟩
    obtain ⟨T, x1, y1, rfl, nT, rfl, hx, hy⟩ := y
    have q1 := hx xs hA
    have q2 := hy ys hB
    rw [e1] at q1
    rw [e2] at q2
    cases q1
    cases q2
    obtain ⟨_, _, nf⟩ := r.new0 nT
    exact ⟨upd F1 T (.tup [v, v2]), _, r.layF nT _, up_lay nf, List.getElem?_eq_getElem hi, by rw [ez]; exact .tup upd_same (.cons ((p1.up u).up (up_lay nf)) (.cons ((p2.up u).up (up_lay nf)) .nil))⟩
  · rw [zipD_len] at hi
    rw [rx.len, ry.len]
    omega
def viZip (ta : VTA) : VTI := fun env n Q => ta env n fun ds env1 n1 => ∃ xs ys, (ds = [.tup xs, .tup ys] ∨ ds = [.lst xs, .lst ys]) ∧ Q (zipD xs ys) env1 n1
theorem vi_zip {e e2 : Expr} {p pos tpos : Pos} {elts : List Expr} {kk : Nat} (hg : Gl X "zip") (hm : X.mg "zip" = none) (ha : PA X [e, e2] (aOf c tas))
    (hs : starEach [e, e2] X.env = (false, eval e X.env) :: starEach [e2] X.env := by rfl) (hpl : (backTo pos (starEach [e2] X.env)).any (·.1) = false := by rfl) :
    PI X (.Tuple elts kk tpos) (.Call (.Name "zip" p) [e, e2] [] pos) (iOf c (viZip tas)) := PI.imp (RZ.pi_zipA hg hm ha hs hpl) fun σ H R ⟨F, env, n, Q, r, q, k⟩ => ⟨F, env, n, _, r, q, fun vs H' F' ds env' n' r' w rp qd => by
  obtain ⟨xs, ys, e, qd⟩ := qd
  rcases e with rfl | rfl
  · obtain ⟨v, v2, rfl, p1, p2⟩ := rp.two
    obtain ⟨a, us, rfl, hF, rx⟩ := p1.tup_inv
    obtain ⟨b, us2, rfl, hF2, ry⟩ := p2.tup_inv
    exact ⟨a, b, us, us2, rfl, .inr ⟨.inl (.inl (r'.sub _ _ hF)), .inl (.inl (r'.sub _ _ hF2)), k _ H' F' _ env' n' r' w (wk_zipT hF rx hF2 ry) qd⟩⟩
  · obtain ⟨v, v2, rfl, p1, p2⟩ := rp.two
    obtain ⟨a, us, rfl, hF, rx⟩ := p1.lst_inv
    obtain ⟨b, us2, rfl, hF2, ry⟩ := p2.lst_inv
    exact ⟨a, b, us, us2, rfl, .inl ⟨.inl (.inl (r'.sub _ _ hF)), .inl (.inl (r'.sub _ _ hF2)), k _ H' F' _ env' n' r' w (wk_zipL hF rx hF2 ry) qd⟩⟩⟩
end
end VL
namespace VL
open PySem PySem.Spec PyProof.Rows L2 HM
section
variable {P : Program} {w : World} {K : PySem.W.Frag} {mg : Str → Option Value} {base : Heap} {am : Am} {gd : Around → Prop} {f : Addr} {fd : FuncData} {ps : List Str} {k : Nat} {sp sp' : VSp} {CX : CXT}
/-- a promise that asks more -/
theorem VFn.imp (h : VFn gd P w K mg base CX k f fd ps am sp) (i : ∀ ds n Q E, sp' ds n Q E → sp ds n Q E) : VFn gd P w K mg base CX k f fd ps am sp' :=
  ⟨fun vs H Q E ⟨F, ds, n, Q', E', h1, h2, h3, h4, h5, h6⟩ => h.len vs H Q E ⟨F, ds, n, Q', E', h1, h2, h3, h4, i _ _ _ _ h5, h6⟩,
   fun A out s H args us vs Q E hg hr hb hu hI ⟨F, ds, n, Q', E', h1, h2, h3, h4, h5, h6⟩ => h.go A out s H args us vs Q E hg hr hb hu hI ⟨F, ds, n, Q', E', h1, h2, h3, h4, i _ _ _ _ h5, h6⟩⟩
end
end VL
namespace VL
open PySem PySem.Spec PyProof.Rows L2 HM
/-! ### the values of a dict whose keys are tuples -/
section
variable {X : Cx} {pins : List (Addr × Obj)} {σ : L2.St} {H : Hp} {s : Shared} {d : Addr} {o : Obj}
theorem frzTv {kvs : List (List Key × V)} (I : Inv X pins σ H s) (h : H d = some (.frz o (.dT kvs))) :
    (d == sysModules) = false ∧ s.heap.get? d = some o ∧ o.ExactDict ∧ ∃ (es : Array DictEntry) (ep : Nat), o.data = .dict es ep ∧ es.size = kvs.length ∧
      ∀ (i : Nat) (k : List Key) (v : V), kvs[i]? = some (k, v) → ∃ (en : DictEntry), es[i]? = some en ∧ RelV v en.val := by
  obtain ⟨hd, z, hs, xs, pr, o', es, ep, ho, hx, hdt, he, _⟩ := I.hok d _ h
  rw [hd] at ho
  cases ho
  refine ⟨hs, hd, hx, es, ep, hdt, ?_, fun i k v e => ?_⟩
  · have l1 : es.size = xs.length := size_of_entries he
    have l2 : kvs.length = xs.length := Paired.length pr
    omega
  · obtain ⟨b, hb, e1, e2, e3⟩ := paired_get pr e
    have q := entry_at he i
    rw [hb] at q
    exact ⟨_, q, e3⟩
end
def ItdT (d : Addr) (o : Obj) (kvs : List (List Key × V)) : It :=
  ⟨fun i H => H d = some (.frz o (.dT kvs)) ∧ i < kvs.length, fun i H x H' => H' = H ∧ ∃ k, kvs[i]? = some (k, x), fun i H => H d = some (.frz o (.dT kvs)) ∧ kvs.length ≤ i⟩
section
variable {P : Program} {w : World} {K : PySem.W.Frag} {tg : Expr} {d : Addr} {o : Obj} {es : Array DictEntry} {ep : Nat}
theorem turn_valsT {kvs : List (List Key × V)} (it : Addr) (hod : o.data = .dict es ep) : Turn P w K tg (ItdT d o kvs) [it] it (fun i h => h.IsValIter it d i kvs.length ep) where
  mem := by simp
  obj := fun i h st b hb => by
    have e : b = it := by simpa using hb
    subst e
    obtain ⟨oi, e, c, dd⟩ := st
    exact ⟨oi, e, fun v z => by rw [dd] at z; cases z⟩
  keep := fun i h h' st k => st.at fun oi e => k it (by simp) oi e
  item := by
    intro X hP hw hK hc i pins s σ H E I hf st hg
    subst hP hw hK
    obtain ⟨hd, hi⟩ := hg
    obtain ⟨f0, f1, f2, f3, f4, f5⟩ := hf it (by simp)
    obtain ⟨hs, hgd, hx, es', ep', hdt, hsz, ent⟩ := frzTv I hd
    obtain ⟨rfl, rfl⟩ := dict_ep hod hdt
    obtain ⟨⟨k, v⟩, hkv⟩ : ∃ p, kvs[i]? = some p := ⟨kvs[i], List.getElem?_eq_getElem hi⟩
    obtain ⟨en, he, rv⟩ := ent i k v hkv
    rw [← hsz] at st
    refine wpAny_pyNext_values_item_raw st ⟨o, hgd, hx, hdt⟩ (by omega) fun h' st' sb => ?_
    have I1 : Inv X pins σ H { s with heap := h' } := I.turned (t' := s.toks) (fun b ob hb e => (sb.2 b hb).trans e) f0 f1 f3 f4 f5
    obtain ⟨oi, e, c, dd⟩ := id st'
    have ev : es'[i]'(by omega) = en := by
      rw [Array.getElem?_eq_getElem (by omega)] at he
      exact Option.some.inj he
    refine ⟨_, rfl, go_of (s := { s with heap := h' }) e c dd (by decide) ⟨v, H, I1, by rw [ev]; exact rv, ⟨rfl, k, hkv⟩, ?_, fun b hb => (hf b hb).1⟩⟩
    show h'.IsValIter it d (i + 1) kvs.length _
    rw [← hsz]
    exact st'
  done := by
    intro X hP hw hK hc i pins s σ H E I hf st hg
    subst hP hw hK
    obtain ⟨hd, hi⟩ := hg
    obtain ⟨f0, f1, f2, f3, f4, f5⟩ := hf it (by simp)
    obtain ⟨hs, hgd, hx, es', ep', hdt, hsz, ent⟩ := frzTv I hd
    obtain ⟨rfl, rfl⟩ := dict_ep hod hdt
    rw [← hsz] at st
    exact wpAny_pyNext_values_end_raw (I.ok.hd hc) st ⟨o, hgd, hx, hdt⟩ (by omega) fun h' eb => ⟨rfl, I.turned (t' := s.toks) (fun b ob hb e => eb b ob hb e) f0 f1 f3 f4 f5⟩
  self := fun A i s Q E st h => wpAny_pyIter_valiter st h
end
def iValsT (td : TE) : TI := fun σ H R => td σ H fun x H1 => ∃ d o kvs, x = .ref d ∧ H1 d = some (.frz o (.dT kvs)) ∧ R (ItdT d o kvs) H1
section
variable {X : Cx} {tg e : Expr} {td : TE} {apos cpos : Pos}
theorem pi_valuesT (he : PE X e td) (hbase : attributeBase e "values" X.env (eval e X.env) = eval e X.env := by rfl) (hline : (apos.endLine == cpos.line) = true := by rfl) : PI X tg (.Call (.Attribute e "values" apos) [] [] cpos) (iValsT td) := by
  refine ⟨fun pins s σ H R I h => ?_⟩
  refine wpAny_Call_method (T := "dict") (id := "dict.values") hbase rfl hline F.plainAttrs_dict F.slot_dict_values F.type_dict_values (thn (he.run pins s σ H _ I h) fun u s1 ⟨x, H1, I1, rx, d, o, kvs, ex, hd, q⟩ => ?_)
  subst ex
  obtain rfl : u = Value.ref d := rx
  obtain ⟨hs, hgd, hx, es, ep, hdt, hsz, ent⟩ := frzTv I1 hd
  have hm : s1.heap.DictRaw d es ep := ⟨o, hgd, hx, hdt⟩
  refine ⟨hm.typeIs, fun a e => ⟨o, by cases e; exact hgd, hx.2.1⟩, ?_⟩
  have I2 : Inv X pins σ H1 { s1 with heap := s1.heap.push { cls := .type "dict_values", data := .fields #[.ref d] } } := I1.kept (t' := s1.toks) fun b ob q => Heap.get?_push_of_some _ q
  have fin : wpAny (model X.prog X.w) X.A (pyIter (.ref s1.heap.objs.size)) (PIE X pins σ tg R) X.xe { s1 with heap := s1.heap.push { cls := .type "dict_values", data := .fields #[.ref d] } } := by
    refine wpAny_pyIter_values_raw (d := d) ⟨_, Heap.get?_push_size _ rfl, rfl, rfl⟩ (show Heap.DictRaw (s1.heap.push _) d es ep from ⟨o, Heap.get?_push_of_some _ hgd, hx, hdt⟩) (pi_one (tk := s1.toks) I2 _ (turn_valsT _ hdt) ⟨_, Heap.get?_push_size _ rfl, rfl, ?_⟩ q)
    rw [hsz] <;> rfl
  show wpAny _ _ (callWith cpos (.builtin "dict.values") [.ref d] [] []) _ X.xe s1
  exact method_meetsIn F.slot_dict_values F.entry_dict_values rfl (PySem.evalArgs_none ⟨rfl, hm.typeIs, F.args_dict_values_1 _, _, meets_dict_values_raw d hs, ⟨es, ep, hm⟩, fin⟩)
end
/-! ### a dict that is locked while its values are walked -/
def lockAm (am : Am) (d : Addr) (od : Obj) (ks : List (List Key × V)) : Am where
  sp b := am.sp b ∨ b = d
  ok n H := am.ok n H ∧ H d = some (.frz od (.dT ks))
  trk := fun {n H a} h hs z => by
    rcases hs with hs | rfl
    · exact am.trk h.1 hs z
    · rw [h.2] at z; cases z
  ntp := fun {n H a xs} h hs z => by
    rcases hs with hs | rfl
    · exact am.ntp h.1 hs z
    · rw [h.2] at z; cases z
  mono := fun {n H H'} h e => ⟨am.mono h.1 fun b hb => e b (.inl hb), by rw [e d (.inr rfl)]; exact h.2⟩
section
variable {am : Am} {F0 H0 F H : Hp} {σ : L2.St} {env : Ev} {n i : Nat} {d : Addr} {od : Obj} {ks : List (List Key × V)} {kvs : List (List Key × Dt)}
theorem Rel.lock (r : Rel ⟨am, F0, H0⟩ F H σ env n) (hi : env[i]? = some (.ow (.dT kvs))) (ha : σ[i]? = some (some (.ref d))) (hd : H d = some (.dT ks)) : Rel ⟨lockAm am d od ks, F0, H0⟩ F (upd H d (.frz od (.dT ks))) σ (env.set i (.fz (.obj d))) n := by
  obtain ⟨d', o, e1, hF, h0, ns, hH, _⟩ := r.sl i _ hi
  rw [ha] at e1
  cases e1
  have hl := (List.getElem?_eq_some_iff.mp hi).1
  have get : ∀ {j : Nat} {k : Con}, (env.set i (.fz (.obj d)))[j]? = some (.ow k) → j ≠ i ∧ env[j]? = some (.ow k) := fun {j k} e => by
    by_cases z : j = i
    · subst z; rw [List.getElem?_set_self hl] at e; cases e
    · rw [List.getElem?_set_ne (Ne.symm z)] at e; exact ⟨z, e⟩
  refine ⟨fun b u e => ?_, fun b hb => ?_, ⟨r.amb' fun b hb => upd_ne fun z => ns (z ▸ hb), upd_same⟩, r.up0, r.out0, fun b u e nb => ?_, by rw [List.length_set]; exact r.len, fun j s e => ?_, fun j l b k1 k2 hjl e1 e2 e3 => ?_⟩
  · rw [upd_ne fun z => by rw [z, hF] at e; cases e]; exact r.sub b u e
  · rcases hb with hb | rfl
    · exact r.spf b hb
    · exact hF
  · rw [upd_ne fun z => nb (.inr z)]; exact r.keep0 b u e fun z => nb (.inl z)
  · by_cases z : j = i
    · subst z
      rw [List.getElem?_set_self hl] at e
      cases e
      exact ⟨_, ha, .obj d⟩
    · rw [List.getElem?_set_ne (Ne.symm z)] at e
      have q := r.sl j s e
      cases s with
      | no => trivial
      | fz d => exact q
      | ow kk =>
        obtain ⟨a2, o2, g1, g2, g3, g4, g5, g6⟩ := q
        have ne : a2 ≠ d := fun z2 => r.apart i j d _ kk (Ne.symm z) hi e ha (by rw [g1, z2])
        exact ⟨a2, o2, g1, g2, g3, fun hs => hs.elim g4 ne, by rw [upd_ne ne]; exact g5, g6⟩
  · obtain ⟨_, f1⟩ := get e1
    obtain ⟨_, f2⟩ := get e2
    exact r.apart j l b k1 k2 hjl f1 f2 e3
theorem Rel.unlock (r : Rel ⟨lockAm am d od ks, F0, H0⟩ F H σ env n) (hn : ¬ am.sp d) (h0 : H0 d = none) (hi : i < env.length) (ha : σ[i]? = some (some (.ref d))) (hk : PrK F ks kvs) : Rel ⟨am, F0, H0⟩ F (upd H d (.dT ks)) σ (env.set i (.ow (.dT kvs))) n := by
  have hF : F d = none := r.spf d (.inr rfl)
  have get : ∀ {j : Nat} {k : Con}, (env.set i (.ow (.dT kvs)))[j]? = some (.ow k) → j = i ∨ env[j]? = some (.ow k) := fun {j k} e => by
    by_cases z : j = i
    · exact .inl z
    · rw [List.getElem?_set_ne (Ne.symm z)] at e; exact .inr e
  have own : ∀ {j : Nat} {k : Con}, env[j]? = some (.ow k) → σ[j]? ≠ some (some (.ref d)) := fun {j k} e z => by
    obtain ⟨a2, o2, g1, g2, g3, g4, g5, g6⟩ := r.sl j _ e
    rw [g1] at z
    cases z
    exact g4 (.inr rfl)
  refine ⟨fun b u e => ?_, fun b hb => r.spf b (.inl hb), am.mono r.amb.1 fun b hb => upd_ne fun z => hn (z ▸ hb), r.up0, r.out0, fun b u e nb => ?_, by rw [List.length_set]; exact r.len, fun j s e => ?_, fun j l b k1 k2 hjl e1 e2 e3 => ?_⟩
  · rw [upd_ne fun z => by rw [z, hF] at e; cases e]; exact r.sub b u e
  · have ne : b ≠ d := fun z => by
      have e' : H0 b = some u := e
      rw [z, h0] at e'; cases e'
    rw [upd_ne ne]; exact r.keep0 b u e fun z => z.elim nb ne
  · by_cases z : j = i
    · subst z
      rw [List.getElem?_set_self hi] at e
      cases e
      exact ⟨d, _, ha, hF, h0, hn, upd_same, ks, rfl, hk⟩
    · rw [List.getElem?_set_ne (Ne.symm z)] at e
      have q := r.sl j s e
      cases s with
      | no => trivial
      | fz d => exact q
      | ow kk =>
        obtain ⟨a2, o2, g1, g2, g3, g4, g5, g6⟩ := q
        have ne : a2 ≠ d := fun z2 => g4 (.inr z2)
        exact ⟨a2, o2, g1, g2, g3, fun hs => g4 (.inl hs), by rw [upd_ne ne]; exact g5, g6⟩
  · rcases get e1 with rfl | f1
    · rw [ha] at e3
      cases e3
      rcases get e2 with rfl | f2
      · exact absurd rfl hjl
      · exact own f2
    · rcases get e2 with rfl | f2
      · rw [ha]
        intro z
        cases z
        exact own f1 e3
      · exact r.apart j l b k1 k2 hjl f1 f2 e3
end
theorem PrK.atoms {κ : Type} {F F' : Hp} : ∀ {a : List (κ × V)} {b : List (κ × Dt)}, PrK F a b → (∀ q ∈ b, VL.atom q.2 = true) → PrK F' a b
  | _, _, .nil, _ => .nil
  | _, q :: qs, .cons h t, e => .cons ⟨h.1, h.2.atom (e q List.mem_cons_self)⟩ (PrK.atoms t fun x hx => e x (List.mem_cons_of_mem _ hx))
theorem PrK.get {κ : Type} {F : Hp} : ∀ {a : List (κ × V)} {b : List (κ × Dt)} {i : Nat} {k : κ} {v : V}, PrK F a b → a[i]? = some (k, v) → ∃ q, b[i]? = some q ∧ Rp F v q.2
  | _, _, _, _, _, .nil, e => by simp at e
  | _, q :: _, 0, _, _, .cons h _, e => by simp at e; subst e; exact ⟨q, rfl, h.2⟩
  | _, _, i + 1, k, v, .cons _ t, e => by
    obtain ⟨q, h1, h2⟩ := PrK.get (i := i) (k := k) (v := v) t (by simpa using e)
    exact ⟨q, by simpa using h1, h2⟩
section
variable {am : Am} {F0 H0 : Hp} {X : Cx} {e : Expr} {apos cpos pos : Pos}
def vLockV (i : Nat) (tn : List (List Key × Dt) → Addr → VTN) : VTN := fun env n Q => ∃ kvs, env[i]? = some (.ow (.dT kvs)) ∧ (∀ q ∈ kvs, VL.atom q.2 = true) ∧ ∀ d, tn kvs d (env.set i (.fz (.obj d))) n fun k env2 n2 => i < env2.length ∧ Q k (env2.set i (.ow (.dT kvs))) n2
theorem vn_lockV {i : Nat} {tn : List (List Key × Dt) → Addr → VTN} (h : ∀ (d : Addr) (od : Obj) (ks : List (List Key × V)) (kvs : List (List Key × Dt)), (∀ F, PrK F ks kvs) → PE X e (nOf ⟨lockAm am d od ks, F0, H0⟩ (tn kvs d))) : PE X e (nOf ⟨am, F0, H0⟩ (vLockV i tn)) :=
  PE.imp (pe_lock (t := fun σ H R => ∃ (d : Addr) (od : Obj) (ks : List (List Key × V)) (kvs : List (List Key × Dt)), (∀ F, PrK F ks kvs) ∧ nOf ⟨lockAm am d od ks, F0, H0⟩ (tn kvs d) σ H R) ⟨fun pins s σ H Q I ⟨d, od, ks, kvs, hk, q⟩ => (h d od ks kvs hk).run pins s σ H Q I q⟩) fun σ H R ⟨F, env, n, Q, rr, ⟨kvs, ei, hat, q⟩, k⟩ => by
  obtain ⟨d, o, e1, hF, h0, ns, hH, ks, rfl, pr⟩ := rr.sl i _ ei
  refine ⟨d, .dT ks, hH, trivial, fun od => ⟨d, od, ks, kvs, fun F' => pr.atoms hat, F, _, n, _, rr.lock ei e1 hH, q d, fun a o H' F' kk env' n' r' u hF' h0' ns' hH' w ha' q' => ?_⟩⟩
  have ad : a ≠ d := fun z => ns' (.inr z)
  refine ⟨r'.amb.2, k a o (upd H' d (.dT ks)) F' kk _ n' (r'.unlock ns h0 q'.1 e1 (pr.atoms hat)) u hF' h0' (fun z => ns' (.inl z)) (by rw [upd_ne ad]; exact hH') w (fun j k' ej z => ?_) q'.2⟩
  by_cases zj : j = i
  · subst zj
    rw [e1] at z
    cases z
    exact ad rfl
  · rw [List.getElem?_set_ne (Ne.symm zj)] at ej
    exact ha' j k' ej z
def viObj (i : Nat) (d : Addr) (xs : List Dt) : VTI := fun env n Q => env[i]? = some (.fz (.obj d)) ∧ Q xs env n
theorem wk_vals {F : Hp} {d : Addr} {od : Obj} {ks : List (List Key × V)} {kvs : List (List Key × Dt)} (hk : ∀ F, PrK F ks kvs) : Wk (lockAm am d od ks) (ItdT d od ks) F (kvs.map (·.2)) := fun c hc F1 H σ env n r u i => by
  have hl : (kvs.map (·.2)).length = ks.length := by rw [List.length_map, (hk F1).len]
  have hd : H d = some (.frz od (.dT ks)) := by
    have := r.amb
    rw [hc] at this
    exact this.2
  refine ⟨fun hi => ?_, fun hi => ⟨hd, by omega⟩⟩
  refine ⟨⟨hd, by omega⟩, fun x H' y => ?_⟩
  obtain ⟨rfl, k, ek⟩ := y
  obtain ⟨q, h1, h2⟩ := (hk F1).get ek
  exact ⟨F1, q.2, r, Up.refl F1, by rw [List.getElem?_map, h1]; rfl, h2⟩
theorem vi_vals {tg : Expr} {i : Nat} {d : Addr} {od : Obj} {ks : List (List Key × V)} {kvs : List (List Key × Dt)} (hk : ∀ F, PrK F ks kvs) (he : PE X e (tVar i)) (hbase : attributeBase e "values" X.env (eval e X.env) = eval e X.env := by rfl) (hline : (apos.endLine == cpos.line) = true := by rfl) :
    PI X tg (.Call (.Attribute e "values" apos) [] [] cpos) (iOf ⟨lockAm am d od ks, F0, H0⟩ (viObj i d (kvs.map (·.2)))) := PI.imp (pi_valuesT he hbase hline) fun σ H R ⟨F, env, n, Q, r, ⟨ei, q⟩, k⟩ => by
  obtain ⟨v, e2, rp⟩ := r.sl i _ ei
  cases rp
  exact ⟨_, e2, d, od, ks, rfl, r.amb.2, k _ H F _ env n r (Up.refl F) (wk_vals hk) q⟩
end
end VL
namespace VL
open PySem PySem.Spec PyProof.Rows L2 HM
theorem kds_ok {K : PySem.W.Frag} {x qual : Str} {st : Stmt} {f : Addr} {fd : FuncData} {cdv : Value} (F : Fun K x qual st f fd) (h : fd.code = cdv) : PySem.W.kdsCode K cdv = true := by
  obtain ⟨oc, od, kV, doc, pm, an, cd2, ct, osl, rfl, lk, hcd⟩ := F.ex
  rw [← h]
  exact kdsCode_of hcd
/-- a whole number from 0 on, below m -/
def nuD (m : Int) : Dt → Bool
  | .int i => decide (0 ≤ i) && decide (i < m)
  | _ => false
def whoD : Dt → Bool
  | .int _ => true
  | _ => false
def intD : Dt → Bool
  | .int _ => true
  | .bl _ => true
  | _ => false
def blD : Dt → Bool
  | .bl _ => true
  | _ => false
def lstD : Dt → Bool
  | .lst _ => true
  | _ => false
def tupD' : Dt → Bool
  | .tup _ => true
  | _ => false
theorem kit_int : ∀ {d : Dt}, tyD d ≠ "" → kitB (tyD d) "int" = some (intD d)
  | .non, _ => show kitB "NoneType" "int" = some false by decide +kernel
  | .bl _, _ => show kitB "bool" "int" = some true by decide +kernel
  | .int _, _ => show kitB "int" "int" = some true by decide +kernel
  | .str _, _ => show kitB "str" "int" = some false by decide +kernel
  | .lst _, _ => show kitB "list" "int" = some false by decide +kernel
  | .tup _, _ => show kitB "tuple" "int" = some false by decide +kernel
  | .ty _, h => absurd rfl h
  | .obj _, h => absurd rfl h
theorem kit_bool : ∀ {d : Dt}, tyD d ≠ "" → kitB (tyD d) "bool" = some (blD d)
  | .non, _ => show kitB "NoneType" "bool" = some false by decide +kernel
  | .bl _, _ => show kitB "bool" "bool" = some true by decide +kernel
  | .int _, _ => show kitB "int" "bool" = some false by decide +kernel
  | .str _, _ => show kitB "str" "bool" = some false by decide +kernel
  | .lst _, _ => show kitB "list" "bool" = some false by decide +kernel
  | .tup _, _ => show kitB "tuple" "bool" = some false by decide +kernel
  | .ty _, h => absurd rfl h
  | .obj _, h => absurd rfl h
theorem kit_list : ∀ {d : Dt}, tyD d ≠ "" → kitB (tyD d) "list" = some (lstD d)
  | .non, _ => show kitB "NoneType" "list" = some false by decide +kernel
  | .bl _, _ => show kitB "bool" "list" = some false by decide +kernel
  | .int _, _ => show kitB "int" "list" = some false by decide +kernel
  | .str _, _ => show kitB "str" "list" = some false by decide +kernel
  | .lst _, _ => show kitB "list" "list" = some true by decide +kernel
  | .tup _, _ => show kitB "tuple" "list" = some false by decide +kernel
  | .ty _, h => absurd rfl h
  | .obj _, h => absurd rfl h
theorem kit_tuple : ∀ {d : Dt}, tyD d ≠ "" → kitB (tyD d) "tuple" = some (tupD' d)
  | .non, _ => show kitB "NoneType" "tuple" = some false by decide +kernel
  | .bl _, _ => show kitB "bool" "tuple" = some false by decide +kernel
  | .int _, _ => show kitB "int" "tuple" = some false by decide +kernel
  | .str _, _ => show kitB "str" "tuple" = some false by decide +kernel
  | .lst _, _ => show kitB "list" "tuple" = some false by decide +kernel
  | .tup _, _ => show kitB "tuple" "tuple" = some true by decide +kernel
  | .ty _, h => absurd rfl h
  | .obj _, h => absurd rfl h
/-- as kept in the interpreter's own words -/
theorem iteT2 {p : Prop} [Decidable p] {a b : Prop} (h : p) (x : a) : if p then a else b := by rw [if_pos h]; exact x
theorem iteF2 {p : Prop} [Decidable p] {a b : Prop} (h : ¬ p) (x : b) : if p then a else b := by rw [if_neg h]; exact x
theorem iteB {a b : Prop} {k : Bool} (h1 : k = true → a) (h2 : k = false → b) : if k = true then a else b := by
  cases k with
  | true => exact h1 rfl
  | false => exact h2 rfl
end VL
namespace VL
open PySem PySem.Spec PyProof.Rows L2 HM
def spWhole : VSp := fun ds n Q _ => ∃ d, ds = [d] ∧ tyD d ≠ "" ∧ Q (.bl (whoD d)) n
def spNumber : VSp := fun ds n Q _ => ∃ d m, ds = [d, .int m] ∧ tyD d ≠ "" ∧ Q (.bl (nuD m d)) n
def spCheck : VSp := fun ds n Q _ => ∃ rows d, ds = [.lst rows, d] ∧ tyD d ≠ "" ∧ nuD rows.length d = true ∧ Q .non n
end VL
namespace VL
open PySem PySem.Spec PyProof.Rows L2 HM
/-! ### numbers and houses as trees -/
def nD (i : Nat) : Dt := .int (i : Int)
def nsD (l : List Nat) : List Dt := l.map nD
def rowD (n : Nat) (m : Nat → Nat) : Dt := .lst (nsD ((List.range n).map m))
def houD (n : Nat) (m : Nat → Nat → Nat) : Dt := .lst ((List.range n).map fun a => rowD n (m a))
theorem flats_int : ∀ ns : List Int, flats (ns.map Dt.int) = true
  | [] => rfl
  | n :: ns => by rw [List.map_cons]; show (true && flats (ns.map Dt.int)) = true; rw [flats_int ns]; rfl
theorem tyN (g : Nat) : tyD (nD g) ≠ "" := by show ("int" : String) ≠ ""; decide
theorem nsD_len (l : List Nat) : (nsD l).length = l.length := List.length_map _
theorem nsD_get {l : List Nat} {i : Nat} {x : Nat} (h : l[i]? = some x) : atI (nsD l) (i : Int) = some (nD x) := atI_nat (by unfold nsD; rw [List.getElem?_map, h]; rfl)
theorem nsD_ints (l : List Nat) : nsD l = (l.map fun i : Nat => (i : Int)).map Dt.int := by unfold nsD; rw [List.map_map]; rfl
theorem row_at {n : Nat} {m : Nat → Nat} {i : Nat} (h : i < n) : atI (nsD ((List.range n).map m)) (i : Int) = some (nD (m i)) := nsD_get (by rw [List.getElem?_map, List.getElem?_range h]; rfl)
theorem hou_at {n : Nat} {m : Nat → Nat → Nat} {i : Nat} (h : i < n) : atI ((List.range n).map fun a => rowD n (m a)) (i : Int) = some (rowD n (m i)) := atI_nat (by rw [List.getElem?_map, List.getElem?_range h]; rfl)
theorem nsD_inj : ∀ {a b : List Nat}, nsD a = nsD b → a = b
  | [], [], _ => rfl
  | [], _ :: _, h => by cases h
  | _ :: _, [], h => by cases h
  | x :: a, y :: b, h => by
    unfold nsD at h
    rw [List.map_cons, List.map_cons] at h
    injection h with h1 h2
    have : x = y := by
      unfold nD at h1
      injection h1 with h1
      omega
    rw [this, nsD_inj h2]
/-- what comes of some numbers, from 0 on -/
inductive Rch (m : Nat → Nat → Nat) (gs : List Nat) : Nat → Prop
  | zero : Rch m gs 0
  | step {a g : Nat} : Rch m gs a → g ∈ gs → Rch m gs (m a g)
theorem Rch.lt {n : Nat} {m : Nat → Nat → Nat} {gs : List Nat} (h0 : 0 < n) (hm : ∀ a b, a < n → b < n → m a b < n) (hg : ∀ g ∈ gs, g < n) : ∀ {x : Nat}, Rch m gs x → x < n
  | _, .zero => h0
  | _, .step h g => hm _ _ (Rch.lt h0 hm hg h) (hg _ g)
theorem Rch.mono {m : Nat → Nat → Nat} {gs hs : List Nat} (h : ∀ g ∈ gs, g ∈ hs) : ∀ {x : Nat}, Rch m gs x → Rch m hs x
  | _, .zero => .zero
  | _, .step a g => .step (Rch.mono h a) (h _ g)
/-- the part of some numbers: rising, all that comes of them -/
structure IsPt (m : Nat → Nat → Nat) (gs : List Nat) (l : List Nat) : Prop where
  up : l.Pairwise (· < ·)
  mem : ∀ x, x ∈ l ↔ Rch m gs x
theorem rising_eq {a b : List Nat} (ha : a.Pairwise (· < ·)) (hb : b.Pairwise (· < ·)) (h : ∀ x, x ∈ a ↔ x ∈ b) : a = b := by
  have na : a.Nodup := ha.imp fun h => Nat.ne_of_lt h
  have nb : b.Nodup := hb.imp fun h => Nat.ne_of_lt h
  refine List.Perm.eq_of_pairwise (le := (· < ·)) (fun x y _ _ h1 h2 => absurd (Nat.lt_trans h1 h2) (Nat.lt_irrefl _)) ha hb ((List.perm_ext_iff_of_nodup na nb).mpr h)
theorem IsPt.eq {m : Nat → Nat → Nat} {gs hs l k : List Nat} (a : IsPt m gs l) (b : IsPt m hs k) (h : ∀ x, Rch m gs x ↔ Rch m hs x) : l = k := rising_eq a.up b.up fun x => by rw [a.mem, b.mem, h]
/-- what is found on the way -/
structure Fnd (m : Nat → Nat → Nat) (gs : List Nat) (fs : List Nat) (at_ : Nat) : Prop where
  nd : fs.Nodup
  rc : ∀ x ∈ fs, Rch m gs x
  ze : 0 ∈ fs
  cl : ∀ i x, i < at_ → fs[i]? = some x → ∀ g ∈ gs, m x g ∈ fs
theorem Fnd.start (m : Nat → Nat → Nat) (gs : List Nat) : Fnd m gs [0] 0 := ⟨by simp, fun x hx => by rw [List.mem_singleton.mp hx]; exact .zero, by simp, fun i x h => absurd h (Nat.not_lt_zero i)⟩
theorem Fnd.more {m : Nat → Nat → Nat} {gs fs : List Nat} {at_ y : Nat} (h : Fnd m gs fs at_) (hl : at_ ≤ fs.length) (hy : y ∉ fs) (ry : Rch m gs y) : Fnd m gs (fs ++ [y]) at_ := by
  refine ⟨?_, fun x hx => ?_, List.mem_append_left _ h.ze, fun i x hi hx g hg => List.mem_append_left _ (h.cl i x hi ?_ g hg)⟩
  · rw [List.nodup_append]
    exact ⟨h.nd, by simp, fun a ha b hb z => hy (by rw [List.mem_singleton.mp hb] at z; rw [← z]; exact ha)⟩
  · rcases List.mem_append.mp hx with hx | hx
    · exact h.rc x hx
    · rw [List.mem_singleton.mp hx]; exact ry
  · rw [List.getElem?_append_left (by omega)] at hx
    exact hx
theorem Fnd.all {m : Nat → Nat → Nat} {gs fs : List Nat} (h : Fnd m gs fs fs.length) : ∀ x, x ∈ fs ↔ Rch m gs x := fun x => ⟨h.rc x, fun r => by
  induction r with
  | zero => exact h.ze
  | step _ hg ih =>
    obtain ⟨i, hi, e⟩ := List.getElem_of_mem ih
    exact h.cl i _ hi (by rw [List.getElem?_eq_getElem hi, e]) _ hg⟩
theorem few_of_nodup {n : Nat} {l : List Nat} (nd : l.Nodup) (h : ∀ x ∈ l, x < n) : l.length ≤ n := by
  have := List.Nodup.length_le_of_subset nd (l₂ := List.range n) fun x hx => List.mem_range.mpr (h x hx)
  rw [List.length_range] at this
  exact this
theorem take_snoc' {α : Type} {l : List α} {j : Nat} {x : α} (h : l[j]? = some x) : l.take (j + 1) = l.take j ++ [x] := by rw [List.take_add_one, h]; rfl
theorem cast_ints {ns : List Int} {l : List Nat} (h : ∀ j : Int, j ∈ ns ↔ ∃ i ∈ l, j = (i : Nat)) : ∃ k : List Nat, ns = k.map (fun i : Nat => (i : Int)) ∧ ∀ i, i ∈ k ↔ i ∈ l := by
  refine ⟨ns.map Int.toNat, ?_, fun i => ?_⟩
  · rw [List.map_map]
    refine (List.map_id _).symm.trans (List.map_congr_left fun x hx => ?_)
    obtain ⟨i, _, rfl⟩ := (h x).mp hx
    simp
  · rw [List.mem_map]
    constructor
    · rintro ⟨x, hx, rfl⟩
      obtain ⟨i, hi, rfl⟩ := (h x).mp hx
      simpa using hi
    · intro hi
      exact ⟨(i : Int), (h _).mpr ⟨i, hi, rfl⟩, by simp⟩
theorem perm_cast {l : List Nat} {ns : List Int} (h : ns.Perm (l.map fun i : Nat => (i : Int))) : ∃ k : List Nat, ns = k.map (fun i : Nat => (i : Int)) ∧ k.Perm l := by
  obtain ⟨k, h1, h2⟩ := permInv h
  exact ⟨k, h2, h1⟩
theorem lt_of_le_nodup' {l : List Nat} (h : (l.map fun i : Nat => (i : Int)).Pairwise (· ≤ ·)) (nd : l.Nodup) : l.Pairwise (· < ·) := by
  rw [List.pairwise_map] at h
  exact (List.Pairwise.and h nd).imp fun {a b} ⟨h1, h2⟩ => by omega
end VL
namespace VL
open PySem PySem.Spec PyProof.Rows L2 HM
def spPart : VSp := fun ds t Q _ => ∃ (n : Nat) (m : Nat → Nat → Nat) (gs : List Nat), ds = [houD n m, .lst (nsD gs)] ∧ 0 < n ∧ n ≤ 60 ∧ gs.length < 64 ∧ (∀ a b, a < n → b < n → m a b < n) ∧ (∀ g ∈ gs, g < n) ∧ ∀ l : List Nat, IsPt m gs l → Q (.tup (nsD l)) t
end VL
namespace VL
open PySem PySem.Spec PyProof.Rows L2 HM
/-- keys that are whole numbers, each once -/
structure KyI (kvs : List (Key × Dt)) (fs : List Nat) : Prop where
  e : kvs.map (·.1) = fs.map fun i : Nat => (Sum.inl (i : Int) : Key)
theorem valD_some {κ : Type} [DecidableEq κ] {kvs : List (κ × Dt)} {k : κ} : (valD kvs k).isSome = decide (k ∈ kvs.map (·.1)) := by
  induction kvs with
  | nil => rfl
  | cons p r ih =>
    unfold valD at ih ⊢
    by_cases h : p.1 = k
    · rw [List.find?_cons_of_pos (by simpa using h)]
      simp [h]
    · rw [List.find?_cons_of_neg (by simpa using h), ih]
      have h' : ¬ k = p.1 := fun z => h z.symm
      simp [h']
theorem putD_new {κ : Type} [DecidableEq κ] {kvs : List (κ × Dt)} {k : κ} {v : Dt} (h : k ∉ kvs.map (·.1)) : putD kvs k v = kvs ++ [(k, v)] := by
  unfold putD
  rw [if_neg]
  intro z
  rw [List.any_eq_true] at z
  obtain ⟨p, hp, e⟩ := z
  exact h (List.mem_map.mpr ⟨p, hp, of_decide_eq_true e⟩)
theorem keyN_mem {fs : List Nat} {x : Nat} : (Sum.inl (x : Int) : Key) ∈ fs.map (fun i : Nat => (Sum.inl (i : Int) : Key)) ↔ x ∈ fs := by
  rw [List.mem_map]
  constructor
  · rintro ⟨i, hi, e⟩
    have : (i : Int) = x := Sum.inl.inj e
    have : i = x := by omega
    rw [← this]; exact hi
  · exact fun h => ⟨x, h, rfl⟩
/-- what is found, and what waits -/
structure Wt (m : Nat → Nat → Nat) (gs : List Nat) (fs ws : List Nat) : Prop where
  nd : fs.Nodup
  rc : ∀ x ∈ fs, Rch m gs x
  ze : 0 ∈ fs
  sb : ∀ x ∈ ws, x ∈ fs
  wn : ws.Nodup
  cl : ∀ x ∈ fs, x ∉ ws → ∀ g ∈ gs, m x g ∈ fs
theorem Wt.all {m : Nat → Nat → Nat} {gs fs : List Nat} (h : Wt m gs fs []) : ∀ x, x ∈ fs ↔ Rch m gs x := fun x => ⟨h.rc x, fun r => by
  induction r with
  | zero => exact h.ze
  | step _ hg ih => exact h.cl _ ih (by simp) _ hg⟩
theorem nsD_last {l : List Nat} {x : Nat} : (nsD (l ++ [x]))[(nsD (l ++ [x])).length - 1]? = some (nD x) := by
  rw [nsD_len]
  unfold nsD
  rw [List.getElem?_map, List.length_append, List.length_singleton, Nat.add_sub_cancel, List.getElem?_append_right (Nat.le_refl _)]
  simp
theorem nsD_dropLast {l : List Nat} {x : Nat} : (nsD (l ++ [x])).dropLast = nsD l := by
  unfold nsD
  rw [List.map_append, List.map_cons, List.map_nil, List.dropLast_concat]
theorem nsD_app (l : List Nat) (x : Nat) : nsD l ++ [nD x] = nsD (l ++ [x]) := by unfold nsD; rw [List.map_append]; rfl
theorem pl_ns (l : List Nat) : pl (.lst (nsD l)) = true := pls_map (fun _ => rfl) l
theorem pl_nt (l : List Nat) : pl (.tup (nsD l)) = true := pls_map (fun _ => rfl) l
theorem dep_ns (l : List Nat) : dep (.lst (nsD l)) ≤ 64 := Nat.le_trans (Nat.succ_le_succ (deps_map (f := nD) (k := 0) (fun _ => Nat.le_refl 0) l)) (by decide)
theorem dep_nt (l : List Nat) : dep (.tup (nsD l)) ≤ 64 := Nat.le_trans (Nat.succ_le_succ (deps_map (f := nD) (k := 0) (fun _ => Nat.le_refl 0) l)) (by decide)
theorem nsD_nil {l : List Nat} : Dt.lst (nsD l) = .lst [] ↔ l = [] := by
  cases l with
  | nil => exact ⟨fun _ => rfl, fun _ => rfl⟩
  | cons a l => exact ⟨(fun h => nomatch h), (fun h => nomatch h)⟩
end VL
namespace VL
open PySem PySem.Spec PyProof.Rows L2 HM
def dblM (m : Nat → Nat → Nat) (x y : Nat) : Nat := m (x / 2) (y / 2) * 2 + (x + y) % 2
def crM (h x y : Nat) : Nat := (x % (2 * h) + (if x / (2 * h) = 0 then y % (2 * h) else 2 * h - y % (2 * h)) + h * (x / (2 * h)) * (y / (2 * h))) % (2 * h) + 2 * h * ((x / (2 * h) + y / (2 * h)) % 2)
theorem cr_eq {h r j i : Nat} (er : r = 2 * h) (h0 : 0 < h) (hc : j / r = 0 ∨ j / r = 1) {d : Int} (hd : d = if j / r = 0 then ((i % r : Nat) : Int) else 0 - ((i % r : Nat) : Int)) :
    (((j % r : Nat) : Int) + d + (h : Int) * ((j / r : Nat) : Int) * ((i / r : Nat) : Int)) % (r : Int) + (r : Int) * ((((j / r : Nat) : Int) + ((i / r : Nat) : Int)) % 2) = ((crM h j i : Nat) : Int) := by
  have hu : i % r < r := Nat.mod_lt _ (by omega)
  unfold crM
  rw [← er]
  rcases hc with hc | hc
  · rw [hd, hc, if_pos rfl, if_pos rfl]
    push_cast
    rfl
  · rw [hd, hc, if_neg (by decide), if_neg (by decide)]
    rw [← Int.add_emod_right]
    rw [show ((j % r : Nat) : Int) + (0 - ((i % r : Nat) : Int)) + (h : Int) * ((1 : Nat) : Int) * ((i / r : Nat) : Int) + (r : Int) = ((j % r + (r - i % r) + h * 1 * (i / r) : Nat) : Int) by push_cast [Nat.le_of_lt hu]; omega]
    push_cast
    rfl
end VL
namespace VL
open PySem PySem.Spec PyProof.Rows L2 HM
def spDbl : VSp := fun ds t Q _ => ∃ (n : Nat) (m : Nat → Nat → Nat), ds = [houD n m] ∧ n ≤ 30 ∧ Q (houD (2 * n) (dblM m)) t
def spCr : VSp := fun ds t Q _ => ∃ (h : Nat), ds = [nD h] ∧ 0 < h ∧ h ≤ 6 ∧ Q (houD (2 * (2 * h)) (crM h)) t
end VL
namespace VL
open PySem PySem.Spec PyProof.Rows L2 HM
/-! ### the pen of the houses: its script, where it stands, what is left, whether a great house was -/
def pk4 (a : Addr) (t l : Int) (g : Bool) : List (Key × V) := [(.inr "script", .ref a), (.inr "at", .int t), (.inr "left", .int l), (.inr "great", .bl g)]
theorem kne {x y : Str} (h : x ≠ y) : ¬ (Sum.inr x : Key) = Sum.inr y := fun z => h (Sum.inr.inj z)
theorem k_sa : ¬ (Sum.inr ("script" : Str) : Key) = Sum.inr ("at" : Str) := by decide +kernel
theorem k_sl : ¬ (Sum.inr ("script" : Str) : Key) = Sum.inr ("left" : Str) := by decide +kernel
theorem k_sg : ¬ (Sum.inr ("script" : Str) : Key) = Sum.inr ("great" : Str) := by decide +kernel
theorem k_al : ¬ (Sum.inr ("at" : Str) : Key) = Sum.inr ("left" : Str) := by decide +kernel
theorem k_ag : ¬ (Sum.inr ("at" : Str) : Key) = Sum.inr ("great" : Str) := by decide +kernel
theorem k_lg : ¬ (Sum.inr ("left" : Str) : Key) = Sum.inr ("great" : Str) := by decide +kernel
theorem q_sa : ¬ (("script" : Str) = "at") := by decide +kernel
theorem q_sl : ¬ (("script" : Str) = "left") := by decide +kernel
theorem q_sg : ¬ (("script" : Str) = "great") := by decide +kernel
theorem q_as : ¬ (("at" : Str) = "script") := by decide +kernel
theorem q_al : ¬ (("at" : Str) = "left") := by decide +kernel
theorem q_ag : ¬ (("at" : Str) = "great") := by decide +kernel
theorem q_ls : ¬ (("left" : Str) = "script") := by decide +kernel
theorem q_la : ¬ (("left" : Str) = "at") := by decide +kernel
theorem q_lg : ¬ (("left" : Str) = "great") := by decide +kernel
theorem q_gs : ¬ (("great" : Str) = "script") := by decide +kernel
theorem q_ga : ¬ (("great" : Str) = "at") := by decide +kernel
theorem q_gl : ¬ (("great" : Str) = "left") := by decide +kernel
theorem pk4_script (a : Addr) (t l : Int) (g : Bool) : valV (pk4 a t l g) (.inr "script") = some (.ref a) := rfl
theorem pk4_at (a : Addr) (t l : Int) (g : Bool) : valV (pk4 a t l g) (.inr "at") = some (.int t) := by
  unfold valV pk4
  rw [List.find?_cons_of_neg (by simpa using k_sa), List.find?_cons_of_pos (by simp)]
  rfl
theorem pk4_left (a : Addr) (t l : Int) (g : Bool) : valV (pk4 a t l g) (.inr "left") = some (.int l) := by
  unfold valV pk4
  rw [List.find?_cons_of_neg (by simpa using k_sl), List.find?_cons_of_neg (by simpa using k_al), List.find?_cons_of_pos (by simp)]
  rfl
theorem pk4_great (a : Addr) (t l : Int) (g : Bool) : valV (pk4 a t l g) (.inr "great") = some (.bl g) := by
  unfold valV pk4
  rw [List.find?_cons_of_neg (by simpa using k_sg), List.find?_cons_of_neg (by simpa using k_ag), List.find?_cons_of_neg (by simpa using k_lg), List.find?_cons_of_pos (by simp)]
  rfl
theorem pk4_put_at (a : Addr) (t l t' : Int) (g : Bool) : putK (pk4 a t l g) (.inr "at") (.int t') = pk4 a t' l g := by
  unfold putK pk4
  simp [q_sa, q_la, q_ga]
theorem pk4_put_left (a : Addr) (t l l' : Int) (g : Bool) : putK (pk4 a t l g) (.inr "left") (.int l') = pk4 a t l' g := by
  unfold putK pk4
  simp [q_sl, q_al, q_gl]
theorem pk4_put_great (a : Addr) (t l : Int) (g g' : Bool) : putK (pk4 a t l g) (.inr "great") (.bl g') = pk4 a t l g' := by
  unfold putK pk4
  simp [q_sg, q_ag, q_lg]
theorem pk4_merge (a : Addr) (t l : Int) (g : Bool) : mergeK [] (pk4 a t l g) = pk4 a t l g := by
  unfold mergeK pk4
  simp [putK, q_sa, q_sl, q_sg, q_al, q_ag, q_lg]
/-- the pen runs along -/
structure PenIn (K : PySem.W.Frag) (am : Am) (p : Addr) : Prop where
  sp : am.sp p
  rd : ∀ {n H}, am.ok n H → ∃ a ns t l g, H p = some (.dK (pk4 a t l g)) ∧ Scr K H a ns ∧ ns.length ≤ 63 ∧ 0 ≤ t ∧ 0 ≤ l
  wr : ∀ {n H a t l g}, am.ok n H → H p = some (.dK (pk4 a t l g)) → ∀ (t' l' : Int) (g' : Bool), 0 ≤ t' → 0 ≤ l' → am.ok n (upd H p (.dK (pk4 a t' l' g')))
/-- nothing but the pen is written -/
theorem PenIn.out {K : PySem.W.Frag} {am : Am} {p a : Addr} (h : PenIn K am p) {F H : Hp} {n : Nat} {t l : Int} {g : Bool} (u : Up F H) (hs : ∀ a, am.sp a → F a = none) (ha : am.ok n H) (hp : H p = some (.dK (pk4 a t l g))) {t' l' : Int} {g' : Bool} (h1 : 0 ≤ t') (h2 : 0 ≤ l') :
    Out am F H F (upd H p (.dK (pk4 a t' l' g'))) n :=
  ⟨Up.refl F, fun b o e => by rw [upd_ne (fun (z : b = p) => by rw [z, hs p h.sp] at e; cases e)]; exact u b o e, hs, fun _ _ _ _ e => e, fun b o e nb => by rw [upd_ne (fun (z : b = p) => nb (by rw [z]; exact h.sp))]; exact e, h.wr ha hp t' l' g' h1 h2⟩
end VL
namespace VL
open PySem PySem.Spec PyProof.Rows L2 HM
def spPen : Sp := fun vs H Q _ => ∃ a : Addr, vs = [.ref a] ∧ ∀ p, H p = none → Q (.ref p) (upd H p (.dK (pk4 a 0 0 false)))
def spTake (p : Addr) : VSp := fun ds t Q _ => ∃ m : Nat, ds = [.obj p, nD m] ∧ 0 < m ∧ m ≤ 10000 ∧ ∀ r : Nat, r < m → Q (nD r) t
end VL
namespace VL
open PySem PySem.Spec PyProof.Rows L2 HM
def prM (s o : Nat) (pw : Nat → Nat) (x y : Nat) : Nat := (x / o + pw (x % o) * (y / o)) % s * o + (x % o + y % o) % o
/-- powers by which the numbers of the one are led by those of the other -/
structure Pws (s o : Nat) (pw : Nat → Nat) : Prop where
  bd : ∀ a, pw a ≤ 12
  one : pw 0 % s = 1 % s
  add : ∀ a b, a < o → b < o → pw ((a + b) % o) % s = (pw a * pw b) % s
def pwB (s b : Nat) : Nat → Nat
  | 0 => 1
  | j + 1 => pwB s b j * b % s
theorem pwB_mod (s b : Nat) : ∀ j, pwB s b j % s = b ^ j % s
  | 0 => by rw [pwB, Nat.pow_zero]
  | j + 1 => by rw [pwB, Nat.mod_mod, Nat.mul_mod, pwB_mod s b j, ← Nat.mul_mod, ← Nat.pow_succ]
theorem pwB_le {s : Nat} (b : Nat) (h0 : 0 < s) (h : s ≤ 12) : ∀ j, pwB s b j ≤ 12
  | 0 => by rw [pwB]; decide
  | j + 1 => by
    rw [pwB]
    have := Nat.mod_lt (pwB s b j * b) h0
    omega
theorem pow_wrap {s o b : Nat} (h : b ^ o % s = 1 % s) : ∀ k, b ^ (k % o) % s = b ^ k % s := fun k => by
  have e := Nat.div_add_mod k o
  have : b ^ k = (b ^ o) ^ (k / o) * b ^ (k % o) := by rw [← Nat.pow_mul, ← Nat.pow_add, e]
  rw [this, Nat.mul_mod, Nat.pow_mod (b ^ o), h, ← Nat.pow_mod, Nat.one_pow, ← Nat.mul_mod, Nat.one_mul]
theorem pws_b {s o b : Nat} (h0 : 0 < s) (hs : s ≤ 12) (h : pwB s b o % s = 1 % s) : Pws s o (pwB s b) := by
  rw [pwB_mod] at h
  refine ⟨pwB_le b h0 hs, rfl, fun x y hx hy => ?_⟩
  rw [pwB_mod, pow_wrap h, Nat.pow_add, Nat.mul_mod, ← pwB_mod, ← pwB_mod, ← Nat.mul_mod]
theorem pws_1 {s o : Nat} : Pws s o (fun _ => 1) := ⟨fun _ => by decide, rfl, fun _ _ _ _ => rfl⟩
theorem one_rep : ∀ k : Nat, List.flatten (List.replicate k [Dt.int 1]) = nsD ((List.range k).map fun _ => 1)
  | 0 => rfl
  | k + 1 => by
    rw [List.replicate_succ', List.flatten_append, one_rep k, List.range_succ, List.map_append]
    exact nsD_app _ _
end VL
namespace VL
open PySem PySem.Spec PyProof.Rows L2 HM
def spPairs (p : Addr) : VSp := fun ds t Q _ => ∃ c : Nat, ds = [.obj p, nD c] ∧ 12 ≤ c ∧ c ≤ 24 ∧ ∀ (s o : Nat) (pw : Nat → Nat), 0 < s → s ≤ 12 → 0 < o → s * o ≤ c → Pws s o pw → Q (houD (s * o) (prM s o pw)) t
end VL
namespace VL
open PySem PySem.Spec PyProof.Rows L2 HM
/-! ### turns, as lists of numbers -/
def Tn (m : Nat) (l : List Nat) : Prop := l.Perm (List.range m)
theorem Tn.len {m : Nat} {l : List Nat} (h : Tn m l) : l.length = m := by rw [List.Perm.length_eq h, List.length_range]
theorem Tn.lt {m : Nat} {l : List Nat} (h : Tn m l) {x : Nat} (hx : x ∈ l) : x < m := List.mem_range.mp ((List.Perm.mem_iff h).mp hx)
theorem Tn.nd {m : Nat} {l : List Nat} (h : Tn m l) : l.Nodup := (List.Perm.nodup_iff h).mpr List.nodup_range
theorem Tn.all {m : Nat} {l : List Nat} (h : Tn m l) {x : Nat} (hx : x < m) : x ∈ l := (List.Perm.mem_iff h).mpr (List.mem_range.mpr hx)
theorem tn_of {m : Nat} {l : List Nat} (hl : l.length = m) (h : ∀ x ∈ l, x < m) (nd : l.Nodup) : Tn m l := by
  refine (List.perm_ext_iff_of_nodup nd List.nodup_range).mpr fun x => ⟨fun hx => List.mem_range.mpr (h x hx), fun hx => ?_⟩
  rcases Classical.em (x ∈ l) with z | z
  · exact z
  · have hx := List.mem_range.mp hx
    have := few_of_nodup (n := m) (l := x :: l) (List.nodup_cons.mpr ⟨z, nd⟩) fun y hy => by
      rcases List.mem_cons.mp hy with rfl | hy
      · exact hx
      · exact h y hy
    rw [List.length_cons, hl] at this
    omega
theorem flats_ns (l : List Nat) : flats (nsD l) = true := by rw [nsD_ints]; exact flats_int _
def tA (l : List Nat) (k : Nat) : Nat := l.getD k 0
theorem tA_get {l : List Nat} {k : Nat} (h : k < l.length) : l[k]? = some (tA l k) := by
  unfold tA
  rw [List.getD_eq_getElem?_getD, List.getElem?_eq_getElem h]
  rfl
theorem tA_mem {l : List Nat} {k : Nat} (h : k < l.length) : tA l k ∈ l := List.mem_of_getElem? (tA_get h)
theorem Tn.at_lt {m : Nat} {l : List Nat} (h : Tn m l) {k : Nat} (hk : k < m) : tA l k < m := h.lt (tA_mem (by rw [h.len]; exact hk))
theorem Tn.inj {m : Nat} {l : List Nat} (h : Tn m l) {i j : Nat} (hi : i < m) (hj : j < m) (e : tA l i = tA l j) : i = j := by
  have h1 : l[i]? = l[j]? := by rw [tA_get (by rw [h.len]; exact hi), tA_get (by rw [h.len]; exact hj), e]
  exact (List.getElem?_inj (by rw [h.len]; exact hi) h.nd).mp h1
theorem Tn.onto {m : Nat} {l : List Nat} (h : Tn m l) {x : Nat} (hx : x < m) : ∃ k, k < m ∧ tA l k = x := by
  obtain ⟨k, hk, e⟩ := List.getElem_of_mem (h.all hx)
  refine ⟨k, by rw [← h.len]; exact hk, ?_⟩
  have := tA_get hk
  rw [List.getElem?_eq_getElem hk, e] at this
  exact (Option.some.inj this).symm
theorem nsD_tA {l : List Nat} {k : Nat} (h : k < l.length) : atI (nsD l) (k : Int) = some (nD (tA l k)) := nsD_get (tA_get h)
/-- a list whose places are filled at ns k by f k is a turn -/
theorem tn_put {m : Nat} {ns l r : List Nat} (hn : Tn m ns) (hl : Tn m l) (hr : r.length = m) (h : ∀ k, k < m → r[tA ns k]? = some (tA ns (tA l k))) : Tn m r := by
  have key : ∀ i, i < m → ∃ k, k < m ∧ tA ns k = i ∧ r[i]? = some (tA ns (tA l k)) := fun i hi => by
    obtain ⟨k, hk, rfl⟩ := hn.onto hi
    exact ⟨k, hk, rfl, h k hk⟩
  refine tn_of hr (fun x hx => ?_) ?_
  · obtain ⟨i, hi, e⟩ := List.getElem_of_mem hx
    obtain ⟨k, hk, _, e2⟩ := key i (by omega)
    rw [List.getElem?_eq_getElem hi, e] at e2
    rw [Option.some.inj e2]
    exact hn.at_lt (hl.at_lt hk)
  · refine List.pairwise_iff_getElem.mpr fun i j hi hj hij e => ?_
    have e' : r[i]? = r[j]? := by rw [List.getElem?_eq_getElem hi, List.getElem?_eq_getElem hj, e]
    obtain ⟨k, hk, rfl, e1⟩ := key i (by omega)
    obtain ⟨k2, hk2, rfl, e2⟩ := key j (by omega)
    rw [e1, e2] at e'
    have := hl.inj hk hk2 (hn.inj (hl.at_lt hk) (hl.at_lt hk2) (Option.some.inj e'))
    rw [this] at hij
    omega
theorem perm_popN {fs ls : List Nat} {m r : Nat} {y : Nat} (h : (fs ++ ls).Perm (List.range m)) (hy : ls[r]? = some y) : ((fs ++ [y]) ++ ls.eraseIdx r).Perm (List.range m) := by
  refine List.Perm.trans ?_ h
  rw [List.append_assoc]
  refine List.Perm.append_left fs ?_
  have hr := (List.getElem?_eq_some_iff.mp hy)
  obtain ⟨hr, rfl⟩ := hr
  have e : ls = ls.take r ++ ls[r] :: ls.drop (r + 1) := by rw [List.getElem_cons_drop, List.take_append_drop]
  rw [List.eraseIdx_eq_take_drop_succ]
  refine List.Perm.trans ?_ (List.Perm.of_eq e.symm)
  show (ls[r] :: (List.take r ls ++ List.drop (r + 1) ls)).Perm _
  exact List.perm_middle.symm
end VL
namespace VL
open PySem PySem.Spec PyProof.Rows L2 HM
def spTurn (p : Addr) : VSp := fun ds t Q _ => ∃ m : Nat, ds = [.obj p, nD m] ∧ m ≤ 60 ∧ ∀ l, Tn m l → Q (.tup (nsD l)) t
def spNamed : VSp := fun ds t Q _ => ∃ (m : Nat) (l ns : List Nat), ds = [.tup (nsD l), .tup (nsD ns)] ∧ m ≤ 60 ∧ Tn m l ∧ Tn m ns ∧ ∀ r, Tn m r → Q (.tup (nsD r)) t
end VL
namespace VL
open PySem PySem.Spec PyProof.Rows L2 HM
def tnB (m : Nat) (l : List Nat) : Bool := l.length == m && l.all (fun x => decide (x < m)) && decide l.Nodup
theorem tn_B {m : Nat} {l : List Nat} (h : tnB m l = true) : Tn m l := by
  unfold tnB at h
  rw [Bool.and_eq_true, Bool.and_eq_true, beq_iff_eq, List.all_eq_true, decide_eq_true_iff] at h
  exact tn_of h.1.1 (fun x hx => of_decide_eq_true (h.1.2 x hx)) h.2
def tnsD (ls : List (List Nat)) : List Dt := ls.map fun l => .tup (nsD l)
end VL
namespace VL
open PySem PySem.Spec PyProof.Rows L2 HM
def spKnown : VSp := fun ds t Q _ => ∃ c : Nat, ds = [nD c] ∧ c < 21 ∧ ∀ (m : Nat) (ls : List (List Nat)), 2 ≤ m → m ≤ 7 → ls.length ≤ 4 → (∀ l ∈ ls, Tn m l) → Q (.tup [nD m, .lst (tnsD ls)]) t
end VL
namespace VL
open PySem PySem.Spec PyProof.Rows L2 HM
/-! ### groups of turns -/
def thn (a b : List Nat) : List Nat := a.map (tA b)
def stay (m : Nat) : List Nat := List.range m
theorem thn_tn {m : Nat} {a b : List Nat} (ha : Tn m a) (hb : Tn m b) : Tn m (thn a b) := by
  refine tn_of (by unfold thn; rw [List.length_map, ha.len]) (fun x hx => ?_) ?_
  · obtain ⟨k, hk, rfl⟩ := List.mem_map.mp hx
    exact hb.at_lt (ha.lt hk)
  · unfold thn
    exact List.pairwise_map.mpr ((List.Pairwise.and_mem.mp ha.nd).imp fun {x y} h e => h.2.2 (hb.inj (ha.lt h.1) (ha.lt h.2.1) e))
theorem stay_tn (m : Nat) : Tn m (stay m) := List.Perm.refl _
theorem thn_stay {m : Nat} {a : List Nat} (ha : Tn m a) : thn a (stay m) = a := by
  unfold thn
  refine (List.map_congr_left fun x hx => ?_).trans (List.map_id a)
  unfold tA stay
  rw [List.getD_eq_getElem?_getD, List.getElem?_range (ha.lt hx)]
  rfl
theorem stay_thn {m : Nat} {a : List Nat} (ha : Tn m a) : thn (stay m) a = a := by
  refine List.ext_getElem? fun i => ?_
  unfold thn stay
  rw [List.getElem?_map]
  by_cases h : i < m
  · rw [List.getElem?_range h, tA_get (by rw [ha.len]; exact h)]
    rfl
  · rw [List.getElem?_eq_none (by rw [List.length_range]; omega), List.getElem?_eq_none (by rw [ha.len]; omega)]
    rfl
theorem tA_thn {a b : List Nat} {k : Nat} (h : k < a.length) : tA (thn a b) k = tA b (tA a k) := by
  have h1 : (thn a b)[k]? = some (tA b (tA a k)) := by
    unfold thn
    rw [List.getElem?_map, tA_get h]
    rfl
  unfold tA at h1 ⊢
  rw [List.getD_eq_getElem?_getD (l := thn a b), h1]
  rfl
theorem thn_assoc {m : Nat} {a b c : List Nat} (ha : Tn m a) (hb : Tn m b) : thn (thn a b) c = thn a (thn b c) := by
  unfold thn
  rw [List.map_map]
  refine List.map_congr_left fun x hx => ?_
  exact (tA_thn (b := c) (by rw [hb.len]; exact ha.lt hx)).symm
theorem thn_inj {m : Nat} {a b c : List Nat} (ha : Tn m a) (hb : Tn m b) (hc : Tn m c) (e : thn a b = thn a c) : b = c := by
  refine List.ext_getElem? fun i => ?_
  by_cases h : i < m
  · obtain ⟨k, hk, rfl⟩ := ha.onto h
    have e2 : tA (thn a b) k = tA (thn a c) k := by rw [e]
    rw [tA_thn (by rw [ha.len]; exact hk), tA_thn (by rw [ha.len]; exact hk)] at e2
    rw [tA_get (by rw [hb.len]; exact h), tA_get (by rw [hc.len]; exact h), e2]
  · rw [List.getElem?_eq_none (by rw [hb.len]; omega), List.getElem?_eq_none (by rw [hc.len]; omega)]
/-! what comes of one turn of at most seven things: at most sixty turns -/
def itr (f : Nat → Nat) : Nat → Nat → Nat
  | 0, x => x
  | i + 1, x => f (itr f i x)
theorem itr_add (f : Nat → Nat) (i j x : Nat) : itr f (i + j) x = itr f i (itr f j x) := by
  induction i with
  | zero => rw [Nat.zero_add]; rfl
  | succ i ih => rw [Nat.succ_add]; show f _ = f _; rw [ih]
theorem itr_mul {f : Nat → Nat} {c x : Nat} (h : itr f c x = x) : ∀ q, itr f (q * c) x = x
  | 0 => by rw [Nat.zero_mul]; rfl
  | q + 1 => by rw [Nat.succ_mul, itr_add, h, itr_mul h q]
theorem itr_lt {m : Nat} {g : List Nat} (h : Tn m g) {x : Nat} (hx : x < m) : ∀ i, itr (tA g) i x < m
  | 0 => hx
  | i + 1 => h.at_lt (itr_lt h hx i)
theorem itr_inj {m : Nat} {g : List Nat} (h : Tn m g) {x y : Nat} (hx : x < m) (hy : y < m) : ∀ i, itr (tA g) i x = itr (tA g) i y → x = y
  | 0, e => e
  | i + 1, e => itr_inj h hx hy i (h.inj (itr_lt h hx i) (itr_lt h hy i) e)
theorem itr_back {m : Nat} {g : List Nat} (h : Tn m g) {x i j : Nat} (hx : x < m) (hij : i ≤ j) (e : itr (tA g) i x = itr (tA g) j x) : itr (tA g) (j - i) x = x := by
  have e2 : itr (tA g) i x = itr (tA g) i (itr (tA g) (j - i) x) := by rw [← itr_add, show i + (j - i) = j by omega]; exact e
  exact (itr_inj h hx (itr_lt h hx _) i e2).symm
theorem itr_ring {m : Nat} {g : List Nat} (h : Tn m g) {x : Nat} (hx : x < m) : ∃ c, 1 ≤ c ∧ c ≤ m ∧ itr (tA g) c x = x := by
  rcases Classical.em (∃ i j, i < j ∧ j ≤ m ∧ itr (tA g) i x = itr (tA g) j x) with ⟨i, j, hij, hj, e⟩ | no
  · exact ⟨j - i, by omega, by omega, itr_back h hx (by omega) e⟩
  · exfalso
    have nd : ((List.range (m + 1)).map fun i => itr (tA g) i x).Nodup := by
      refine List.pairwise_map.mpr (List.Pairwise.imp_of_mem (fun {a b} ha hb hab e => ?_) (List.pairwise_lt_range (n := m + 1)))
      exact no ⟨a, b, hab, by have := List.mem_range.mp hb; omega, e⟩
    have := few_of_nodup (n := m) nd fun y hy => by
      obtain ⟨i, _, rfl⟩ := List.mem_map.mp hy
      exact itr_lt h hx i
    rw [List.length_map, List.length_range] at this
    omega
theorem ring60 {m : Nat} {g : List Nat} (h : Tn m g) (hm : m ≤ 7) : (∀ x, x < m → itr (tA g) 60 x = x) ∨ ∀ x, x < m → itr (tA g) 7 x = x := by
  rcases Classical.em (∀ x, x < m → ∃ c, 1 ≤ c ∧ c ≤ 6 ∧ itr (tA g) c x = x) with al | no
  · refine .inl fun x hx => ?_
    obtain ⟨c, h1, h6, e⟩ := al x hx
    have hd : ∃ q, 60 = q * c := by
      rcases (by omega : c = 1 ∨ c = 2 ∨ c = 3 ∨ c = 4 ∨ c = 5 ∨ c = 6) with rfl | rfl | rfl | rfl | rfl | rfl
      · exact ⟨60, rfl⟩
      · exact ⟨30, rfl⟩
      · exact ⟨20, rfl⟩
      · exact ⟨15, rfl⟩
      · exact ⟨12, rfl⟩
      · exact ⟨10, rfl⟩
    obtain ⟨q, hq⟩ := hd
    rw [hq]
    exact itr_mul e q
  · refine .inr ?_
    obtain ⟨x, hn⟩ := Classical.not_forall.mp no
    obtain ⟨hx, hno⟩ := Classical.not_imp.mp hn
    clear hn
    obtain ⟨c, h1, hc, e⟩ := itr_ring h hx
    have hc7 : c = 7 := by
      rcases Nat.lt_or_ge c 7 with z | z
      · exact absurd ⟨c, h1, by omega, e⟩ hno
      · omega
    have hm7 : m = 7 := by omega
    subst hm7
    subst hc7
    have tn : Tn 7 ((List.range 7).map fun i => itr (tA g) i x) := by
      refine tn_of (by rw [List.length_map, List.length_range]) (fun y hy => ?_) ?_
      · obtain ⟨i, _, rfl⟩ := List.mem_map.mp hy
        exact itr_lt h hx i
      · refine List.pairwise_map.mpr (List.Pairwise.imp_of_mem (fun {a b} ha hb hab e2 => ?_) (List.pairwise_lt_range (n := 7)))
        have := List.mem_range.mp hb
        exact hno ⟨b - a, by omega, by omega, itr_back h hx (by omega) e2⟩
    intro y hy
    obtain ⟨i, _, rfl⟩ := List.mem_map.mp (tn.all hy)
    rw [← itr_add, Nat.add_comm, itr_add, e]
/-- what comes of some turns -/
inductive GR (m : Nat) (ts : List (List Nat)) : List Nat → Prop
  | stay : GR m ts (stay m)
  | step {a g : List Nat} : GR m ts a → g ∈ ts → GR m ts (thn a g)
theorem GR.tn {m : Nat} {ts : List (List Nat)} (h : ∀ g ∈ ts, Tn m g) : ∀ {a : List Nat}, GR m ts a → Tn m a
  | _, .stay => stay_tn m
  | _, .step a g => thn_tn (GR.tn h a) (h _ g)
theorem GR.mul {m : Nat} {ts : List (List Nat)} (h : ∀ g ∈ ts, Tn m g) {a : List Nat} (ha : GR m ts a) : ∀ {b : List Nat}, GR m ts b → GR m ts (thn a b)
  | _, .stay => by rw [thn_stay (ha.tn h)]; exact ha
  | _, .step b g => by rw [← thn_assoc (ha.tn h) (b.tn h)]; exact .step (GR.mul h ha b) g
def gpw (m : Nat) (g : List Nat) (i : Nat) : List Nat := (List.range m).map (itr (tA g) i)
theorem gpw_thn {m : Nat} {g : List Nat} (i : Nat) : thn (gpw m g i) g = gpw m g (i + 1) := by
  unfold thn gpw
  rw [List.map_map]
  rfl
theorem gpw_wrap {m : Nat} {g : List Nat} {c : Nat} (hc : ∀ x, x < m → itr (tA g) c x = x) : gpw m g c = gpw m g 0 := List.map_congr_left fun x hx => hc x (List.mem_range.mp hx)
theorem GR.one {m c : Nat} {g : List Nat} (h0 : 0 < c) (hc : ∀ x, x < m → itr (tA g) c x = x) : ∀ {a : List Nat}, GR m [g] a → ∃ i, i < c ∧ a = gpw m g i
  | _, .stay => ⟨0, h0, (List.map_id _).symm⟩
  | _, .step a g' => by
    obtain ⟨i, hi, rfl⟩ := GR.one h0 hc a
    rw [List.mem_singleton.mp g', gpw_thn]
    rcases Nat.lt_or_ge (i + 1) c with z | z
    · exact ⟨i + 1, z, rfl⟩
    · exact ⟨0, h0, by rw [show i + 1 = c by omega, gpw_wrap hc]⟩
theorem GR.few {m : Nat} {ts fs : List (List Nat)} (h : ∀ g ∈ ts, Tn m g) (hm : m ≤ 7) (h1 : ts.length ≤ 1) (nd : fs.Nodup) (hf : ∀ a ∈ fs, GR m ts a) : fs.length ≤ 60 := by
  match ts, h1 with
  | [], _ =>
    have : fs.length ≤ [VL.stay m].length := List.Nodup.length_le_of_subset nd fun a ha => by
      cases hf a ha with
      | stay => exact List.mem_singleton.mpr rfl
      | step _ z => cases z
    exact Nat.le_trans this (show 1 ≤ 60 by decide)
  | [g], _ =>
    obtain ⟨c, h0, h60, hc⟩ : ∃ c, 0 < c ∧ c ≤ 60 ∧ ∀ x, x < m → itr (tA g) c x = x := by
      rcases ring60 (h g (List.mem_singleton.mpr rfl)) hm with z | z
      · exact ⟨60, by decide, by decide, z⟩
      · exact ⟨7, by decide, by decide, z⟩
    have : fs.length ≤ ((List.range c).map (gpw m g)).length := List.Nodup.length_le_of_subset nd fun a ha => by
      obtain ⟨i, hi, rfl⟩ := GR.one h0 hc (hf a ha)
      exact List.mem_map.mpr ⟨i, List.mem_range.mpr hi, rfl⟩
    rw [List.length_map, List.length_range] at this
    omega
  | _ :: _ :: _, z => simp at z
end VL
namespace VL
open PySem PySem.Spec PyProof.Rows L2 HM
/-- a group of turns, the stay first -/
structure IsGr (m : Nat) (gl : List (List Nat)) : Prop where
  few : gl.length ≤ 60
  nd : gl.Nodup
  tn : ∀ a ∈ gl, Tn m a
  mul : ∀ a ∈ gl, ∀ b ∈ gl, thn a b ∈ gl
  hd : gl[0]? = some (stay m)
def iN (l : List Nat) : List Int := l.map fun i : Nat => (i : Int)
def kN (l : List Nat) : List Key := l.map fun i : Nat => (Sum.inl (i : Int) : Key)
theorem tup_key (l : List Nat) : Dt.tup (nsD l) = tupD (kN l) := by
  unfold tupD kN nsD
  rw [List.map_map]
  rfl
theorem kN_ikey (l : List Nat) : ikey (iN l) = kN l := by
  unfold ikey iN kN
  rw [List.map_map]
  rfl
theorem kN_inj : ∀ {a b : List Nat}, kN a = kN b → a = b := fun {a b} h => by
  refine nsD_inj ?_
  have : Dt.tup (nsD a) = Dt.tup (nsD b) := by rw [tup_key, tup_key, h]
  injection this
theorem kN_mem {fs : List (List Nat)} {x : List Nat} : kN x ∈ fs.map kN ↔ x ∈ fs := by
  rw [List.mem_map]
  exact ⟨fun ⟨y, hy, e⟩ => kN_inj e ▸ hy, fun h => ⟨x, h, rfl⟩⟩
theorem tns_int (gl : List (List Nat)) : (gl.map iN).map (fun l => Dt.tup (l.map Dt.int)) = tnsD gl := by
  unfold tnsD
  rw [List.map_map]
  refine List.map_congr_left fun l _ => ?_
  show Dt.tup ((iN l).map Dt.int) = _
  rw [nsD_ints]
  rfl
theorem tnsD_len (l : List (List Nat)) : (tnsD l).length = l.length := List.length_map _
theorem tnsD_last {l : List (List Nat)} {x : List Nat} : (tnsD (l ++ [x]))[(tnsD (l ++ [x])).length - 1]? = some (.tup (nsD x)) := by
  rw [tnsD_len]
  unfold tnsD
  rw [List.getElem?_map, List.length_append, List.length_singleton, Nat.add_sub_cancel, List.getElem?_append_right (Nat.le_refl _)]
  simp
theorem tnsD_dropLast {l : List (List Nat)} {x : List Nat} : (tnsD (l ++ [x])).dropLast = tnsD l := by
  unfold tnsD
  rw [List.map_append, List.map_cons, List.map_nil, List.dropLast_concat]
theorem tnsD_app (l : List (List Nat)) (x : List Nat) : tnsD l ++ [.tup (nsD x)] = tnsD (l ++ [x]) := by unfold tnsD; rw [List.map_append]; rfl
theorem tnsD_nil {l : List (List Nat)} : Dt.lst (tnsD l) = .lst [] ↔ l = [] := by
  cases l with
  | nil => exact ⟨fun _ => rfl, fun _ => rfl⟩
  | cons a l => exact ⟨(fun h => nomatch h), (fun h => nomatch h)⟩
theorem pl_tns (l : List (List Nat)) : pl (.lst (tnsD l)) = true := pls_map (fun x => pl_nt x) l
theorem dep_tns (l : List (List Nat)) : dep (.lst (tnsD l)) ≤ 64 := Nat.le_trans (Nat.succ_le_succ (deps_map (f := fun x => Dt.tup (nsD x)) (k := 1) (fun x => Nat.succ_le_succ (deps_map (f := nD) (k := 0) (fun _ => Nat.le_refl 0) x)) l)) (by decide)
theorem thn_lc (a g : List Nat) : (List.range (nsD a).length).map (fun j => nD (tA g (tA a j))) = nsD (thn a g) := by
  rw [nsD_len]
  unfold nsD thn
  rw [List.map_map]
  refine List.ext_getElem? fun i => ?_
  rw [List.getElem?_map, List.getElem?_map]
  by_cases h : i < a.length
  · rw [List.getElem?_range h, tA_get h]
    rfl
  · rw [List.getElem?_eq_none (by rw [List.length_range]; omega), List.getElem?_eq_none (by omega)]
    rfl
/-- of all turns the stay comes first -/
theorem stay_least {B : Int} : ∀ {n i : Nat} {l : List Nat}, l.length = n → l.Nodup → (∀ x ∈ l, i ≤ x) → TS.Bd B (iN (List.range' i n)) → TS.Bd B (iN l) → l = List.range' i n ∨ TS.code B (iN (List.range' i n)) < TS.code B (iN l)
  | 0, _, l, hl, _, _, _, _ => .inl (by rw [List.length_eq_zero_iff.mp hl]; rfl)
  | n + 1, i, [], hl, _, _, _, _ => by simp at hl
  | n + 1, i, x :: r, hl, nd, hx, b1, b2 => by
    rw [List.nodup_cons] at nd
    have hl' : r.length = n := by simpa using hl
    have hx0 := hx x List.mem_cons_self
    rw [List.range'_succ] at b1 ⊢
    have ll : (iN (List.range' (i + 1) n)).length = (iN r).length := by unfold iN; rw [List.length_map, List.length_map, List.length_range', hl']
    rcases Nat.lt_or_ge i x with z | z
    · exact .inr (TS.code_lt ll (TS.Bd.tail b1) (TS.Bd.tail b2) (by show (i : Int) < (x : Int); omega))
    · have e : x = i := by omega
      subst e
      rcases stay_least (i := x + 1) hl' nd.2 (fun y hy => by
        have h1 := hx y (List.mem_cons_of_mem _ hy)
        have h2 : y ≠ x := fun z => nd.1 (z ▸ hy)
        omega) (TS.Bd.tail b1) (TS.Bd.tail b2) with h | h
      · exact .inl (by rw [h])
      · exact .inr ((TS.code_same ll).mpr h)
theorem bd_tn {m : Nat} {a : List Nat} (h : Tn m a) : TS.Bd (m : Int) (iN a) := fun x hx => by
  obtain ⟨y, hy, rfl⟩ := List.mem_map.mp hx
  have := h.lt hy
  exact ⟨by omega, by omega⟩
theorem stay_first {m : Nat} {gl : List (List Nat)} (h : ∀ a ∈ gl, Tn m a) (hs : stay m ∈ gl) (hp : (gl.map iN).Pairwise fun q r => TS.code (m : Int) q ≤ TS.code (m : Int) r) : gl[0]? = some (stay m) := by
  match gl, h, hs, hp with
  | a :: r, h, hs, hp =>
    rw [List.map_cons, List.pairwise_cons] at hp
    have ha := h a List.mem_cons_self
    have e : stay m = List.range' 0 m := List.range_eq_range'
    rcases List.mem_cons.mp hs with z | z
    · rw [z]; rfl
    · have h1 := hp.1 (iN (stay m)) (List.mem_map.mpr ⟨_, z, rfl⟩)
      rcases stay_least (B := (m : Int)) (n := m) (i := 0) ha.len ha.nd (fun x _ => Nat.zero_le x) (by rw [← e]; exact bd_tn (stay_tn m)) (bd_tn ha) with h2 | h2
      · rw [h2, ← e]; rfl
      · rw [← e] at h2
        omega
theorem cut1 (ts : List (List Nat)) : cutD (tnsD ts) none (some 1) = tnsD (ts.take 1) := by
  unfold cutD
  rw [show HT.sIx (tnsD ts).length 0 none = 0 from rfl]
  match ts with
  | [] => rfl
  | a :: r =>
    rw [show HT.sIx (tnsD (a :: r)).length (tnsD (a :: r)).length (some 1) = 1 by
      rw [tnsD_len, List.length_cons]
      unfold HT.sIx
      simp]
    rfl
/-- what is found, and what waits -/
structure GWt (m : Nat) (ts fs ws : List (List Nat)) : Prop where
  nd : fs.Nodup
  rc : ∀ x ∈ fs, GR m ts x
  ze : stay m ∈ fs
  sb : ∀ x ∈ ws, x ∈ fs
  wn : ws.Nodup
  cl : ∀ x ∈ fs, x ∉ ws → ∀ g ∈ ts, thn x g ∈ fs
theorem GWt.all {m : Nat} {ts fs : List (List Nat)} (h : GWt m ts fs []) : ∀ x, x ∈ fs ↔ GR m ts x := fun x => ⟨h.rc x, fun r => by
  induction r with
  | stay => exact h.ze
  | step _ hg ih => exact h.cl _ ih (by simp) _ hg⟩
theorem rg_stay (m : Nat) : rngD 0 m = nsD (stay m) := by
  unfold rngD nsD stay
  refine List.map_congr_left fun i _ => ?_
  rw [Int.zero_add]
  rfl
end VL
namespace VL
open PySem PySem.Spec PyProof.Rows L2 HM
section
variable {P : Program} {w : World} {K : PySem.W.Frag} {mg : Str → Option Value} {base : Heap} {am : Am} {gd : Around → Prop} {k : Nat}
theorem never {f : Addr} {fd : FuncData} {ps : List Str} : VFn gd P w K mg base CX0 k f fd ps am (fun _ _ _ _ => False) :=
  ⟨fun vs H Q E ⟨_, _, _, _, _, _, _, _, _, h, _⟩ => h.elim, fun A out s H args us vs Q E hgd hr e0 hb r ⟨_, _, _, _, _, _, _, _, _, h, _⟩ => h.elim⟩
end
end VL
namespace VL
open PySem PySem.Spec PyProof.Rows L2 HM
def spGroup (most : Nat) : VSp := fun ds t Q _ => ∃ (m : Nat) (ts : List (List Nat)), ds = [nD m, .lst (tnsD ts)] ∧ 1 ≤ m ∧ m ≤ 7 ∧ ts.length ≤ most ∧ ts.length ≤ 4 ∧ (∀ g ∈ ts, Tn m g) ∧ ∀ gl, IsGr m gl → Q (.lst (tnsD gl)) t
end VL
namespace VL
open PySem PySem.Spec PyProof.Rows L2 HM
def glA (gl : List (List Nat)) (a : Nat) : List Nat := gl.getD a []
def tblM (gl : List (List Nat)) (a b : Nat) : Nat := gl.idxOf (thn (glA gl a) (glA gl b))
theorem glA_get {gl : List (List Nat)} {a : Nat} (h : a < gl.length) : gl[a]? = some (glA gl a) := by
  unfold glA
  rw [List.getD_eq_getElem?_getD, List.getElem?_eq_getElem h]
  rfl
theorem glA_mem {gl : List (List Nat)} {a : Nat} (h : a < gl.length) : glA gl a ∈ gl := List.mem_of_getElem? (glA_get h)
theorem tns_get {gl : List (List Nat)} {j : Nat} {x : Dt} (h : (tnsD gl)[j]? = some x) : x = .tup (nsD (glA gl j)) ∧ j < gl.length := by
  have hj := (List.getElem?_eq_some_iff.mp h).1
  rw [tnsD_len] at hj
  unfold tnsD at h
  rw [List.getElem?_map, glA_get hj] at h
  exact ⟨(Option.some.inj h).symm, hj⟩
/-- the numbers of the turns -/
def numK (gl : List (List Nat)) (j : Nat) : List (List Key × Dt) := (List.range j).map fun i => (kN (glA gl i), nD i)
theorem numK_keys (gl : List (List Nat)) (j : Nat) : (numK gl j).map (·.1) = (List.range j).map fun i => kN (glA gl i) := by
  unfold numK
  rw [List.map_map]
  rfl
theorem glA_inj {gl : List (List Nat)} (nd : gl.Nodup) {i j : Nat} (hi : i < gl.length) (hj : j < gl.length) (e : glA gl i = glA gl j) : i = j :=
  (List.getElem?_inj hi nd).mp (by rw [glA_get hi, glA_get hj, e])
theorem numK_put {gl : List (List Nat)} (nd : gl.Nodup) {j : Nat} (hj : j < gl.length) : putD (numK gl j) (kN (glA gl j)) (nD j) = numK gl (j + 1) := by
  rw [putD_new]
  · unfold numK
    rw [List.range_succ, List.map_append]
    rfl
  · rw [numK_keys]
    intro h
    obtain ⟨i, hi, e⟩ := List.mem_map.mp h
    have hi := List.mem_range.mp hi
    have := glA_inj nd (by omega) hj (kN_inj e)
    omega
theorem glA_idx {gl : List (List Nat)} {x : List Nat} (h : x ∈ gl) : glA gl (gl.idxOf x) = x := by
  have hl := List.idxOf_lt_length_of_mem h
  have := glA_get hl
  rw [List.getElem?_eq_getElem hl, List.getElem_idxOf hl] at this
  exact (Option.some.inj this).symm
theorem numK_val {gl : List (List Nat)} (nd : gl.Nodup) : ∀ {j a : Nat}, j ≤ gl.length → a < j → valD (numK gl j) (kN (glA gl a)) = some (nD a) := fun {j a} hj ha => by
  unfold valD numK
  rw [List.find?_map]
  have : (List.range j).find? ((fun p : List Key × Dt => decide (p.1 = kN (glA gl a))) ∘ fun i => (kN (glA gl i), nD i)) = some a := by
    rw [List.find?_eq_some_iff_getElem]
    refine ⟨by simp, a, by rw [List.length_range]; exact ha, by simp, fun i hi => ?_⟩
    rw [List.getElem_range]
    simp only [Function.comp, Bool.not_eq_true', decide_eq_false_iff_not]
    intro e
    have := glA_inj nd (by omega) (by omega) (kN_inj e)
    omega
  rw [this]
  rfl
theorem thn_lc2 (a g : List Nat) (f : Nat → Dt) (h : ∀ j, f j = nD (tA g (tA a j))) : (List.range (nsD a).length).map f = nsD (thn a g) := by
  rw [← thn_lc]
  exact List.map_congr_left fun j _ => h j
end VL
namespace VL
open PySem PySem.Spec PyProof.Rows L2 HM
def spTable : VSp := fun ds t Q _ => ∃ (m : Nat) (gl : List (List Nat)), ds = [.lst (tnsD gl)] ∧ m ≤ 7 ∧ IsGr m gl ∧ Q (houD gl.length (tblM gl)) t
end VL
namespace VL
open PySem PySem.Spec PyProof.Rows L2 HM
/-! ### houses -/
structure Hse (n : Nat) (m : Nat → Nat → Nat) : Prop where
  pos : 0 < n
  lt : ∀ a b, a < n → b < n → m a b < n
  zl : ∀ a, a < n → m 0 a = a
  zr : ∀ a, a < n → m a 0 = a
  as : ∀ a b c, a < n → b < n → c < n → m (m a b) c = m a (m b c)
  cn : ∀ a b c, a < n → b < n → c < n → m a b = m a c → b = c
/-- each number has a contrary -/
theorem Hse.inv {n : Nat} {m : Nat → Nat → Nat} (h : Hse n m) {a : Nat} (ha : a < n) : ∃ b, b < n ∧ m a b = 0 := by
  have tn : Tn n ((List.range n).map (m a)) := by
    refine tn_of (by rw [List.length_map, List.length_range]) (fun x hx => ?_) ?_
    · obtain ⟨b, hb, rfl⟩ := List.mem_map.mp hx
      exact h.lt a b ha (List.mem_range.mp hb)
    · refine List.pairwise_map.mpr (List.Pairwise.imp_of_mem (fun {x y} hx hy hxy e => ?_) (List.pairwise_lt_range (n := n)))
      have := h.cn a x y ha (List.mem_range.mp hx) (List.mem_range.mp hy) e
      omega
  obtain ⟨b, hb, e⟩ := List.mem_map.mp (tn.all h.pos)
  exact ⟨b, List.mem_range.mp hb, e⟩
theorem Hse.rch {n : Nat} {m : Nat → Nat → Nat} (h : Hse n m) {gs : List Nat} (hg : ∀ g ∈ gs, g < n) {a b : Nat} (ha : Rch m gs a) (hb : Rch m gs b) : Rch m gs (m a b) := by
  induction hb with
  | zero => rw [h.zr a (ha.lt h.pos h.lt hg)]; exact ha
  | step r g ih => rw [← h.as a _ _ (ha.lt h.pos h.lt hg) (r.lt h.pos h.lt hg) (hg _ g)]; exact .step ih g
theorem Hse.rch_self {n : Nat} {m : Nat → Nat → Nat} (h : Hse n m) {gs l : List Nat} (hg : ∀ g ∈ gs, g < n) (hl : IsPt m gs l) : ∀ x, Rch m l x ↔ Rch m gs x := fun x => ⟨fun r => by
  induction r with
  | zero => exact .zero
  | step _ g ih => exact h.rch hg ih ((hl.mem _).mp g), fun r => by
  have hx := (hl.mem x).mpr r
  have := Rch.step (m := m) (gs := l) .zero hx
  rw [h.zl x (r.lt h.pos h.lt hg)] at this
  exact this⟩
/-- the house of a group of turns -/
theorem hse_tbl {m : Nat} {gl : List (List Nat)} (h : IsGr m gl) : Hse gl.length (tblM gl) := by
  have h0 : 0 < gl.length := by
    have := h.hd
    exact (List.getElem?_eq_some_iff.mp this).1
  have e0 : glA gl 0 = stay m := Option.some.inj ((glA_get h0).symm.trans h.hd)
  have hin : ∀ {a b}, a < gl.length → b < gl.length → thn (glA gl a) (glA gl b) ∈ gl := fun ha hb => h.mul _ (glA_mem ha) _ (glA_mem hb)
  have lt : ∀ a b, a < gl.length → b < gl.length → tblM gl a b < gl.length := fun a b ha hb => List.idxOf_lt_length_of_mem (hin ha hb)
  have at_ : ∀ {a b}, a < gl.length → b < gl.length → glA gl (tblM gl a b) = thn (glA gl a) (glA gl b) := fun ha hb => glA_idx (hin ha hb)
  have tn : ∀ {a}, a < gl.length → Tn m (glA gl a) := fun ha => h.tn _ (glA_mem ha)
  refine ⟨h0, lt, fun a ha => ?_, fun a ha => ?_, fun a b c ha hb hc => ?_, fun a b c ha hb hc e => ?_⟩
  · exact glA_inj h.nd (lt 0 a h0 ha) ha (by rw [at_ h0 ha, e0, stay_thn (tn ha)])
  · exact glA_inj h.nd (lt a 0 ha h0) ha (by rw [at_ ha h0, e0, thn_stay (tn ha)])
  · refine glA_inj h.nd (lt _ _ (lt _ _ ha hb) hc) (lt _ _ ha (lt _ _ hb hc)) ?_
    rw [at_ (lt _ _ ha hb) hc, at_ ha (lt _ _ hb hc), at_ ha hb, at_ hb hc, thn_assoc (tn ha) (tn hb)]
  · refine glA_inj h.nd hb hc (thn_inj (tn ha) (tn hb) (tn hc) ?_)
    rw [← at_ ha hb, ← at_ ha hc, e]
/-- with a sign beside -/
theorem hse_dbl {n : Nat} {m : Nat → Nat → Nat} (h : Hse n m) : Hse (2 * n) (dblM m) := by
  have d2 : ∀ x y, (m (x / 2) (y / 2) * 2 + (x + y) % 2) / 2 = m (x / 2) (y / 2) := fun x y => by omega
  have hp := h.pos
  refine ⟨by omega, fun a b ha hb => ?_, fun a ha => ?_, fun a ha => ?_, fun a b c ha hb hc => ?_, fun a b c ha hb hc e => ?_⟩
  · have := h.lt (a / 2) (b / 2) (by omega) (by omega)
    unfold dblM
    omega
  · have := h.zl (a / 2) (by omega)
    unfold dblM
    rw [show 0 / 2 = 0 from rfl, this]
    omega
  · have := h.zr (a / 2) (by omega)
    unfold dblM
    rw [show 0 / 2 = 0 from rfl, this]
    omega
  · have := h.as (a / 2) (b / 2) (c / 2) (by omega) (by omega) (by omega)
    unfold dblM
    rw [d2 a b, d2 b c, this]
    omega
  · unfold dblM at e
    have := h.cn (a / 2) (b / 2) (c / 2) (by omega) (by omega) (by omega) (by omega)
    omega
/-- [[0]] -/
theorem hse_one : Hse 1 (fun _ _ => 0) := ⟨by decide, fun _ _ _ _ => by decide, fun a h => by omega, fun a h => by omega, fun _ _ _ _ _ _ => rfl, fun a b c _ hb hc _ => by omega⟩
/-- numbered anew: o leads the old numbers to the new ones -/
theorem hse_ren {n : Nat} {m m' : Nat → Nat → Nat} {o : List Nat} (h : Hse n m) (ho : Tn n o) (h0 : tA o 0 = 0) (e : ∀ a b, a < n → b < n → m' (tA o a) (tA o b) = tA o (m a b)) : Hse n m' := by
  have z : m' 0 0 = 0 ∨ True := .inr trivial
  refine ⟨h.pos, fun a b ha hb => ?_, fun a ha => ?_, fun a ha => ?_, fun a b c ha hb hc => ?_, fun a b c ha hb hc e2 => ?_⟩
  · obtain ⟨x, hx, rfl⟩ := ho.onto ha
    obtain ⟨y, hy, rfl⟩ := ho.onto hb
    rw [e x y hx hy]
    exact ho.at_lt (h.lt x y hx hy)
  · obtain ⟨x, hx, rfl⟩ := ho.onto ha
    have := e 0 x h.pos hx
    rw [h0, h.zl x hx] at this
    exact this
  · obtain ⟨x, hx, rfl⟩ := ho.onto ha
    have := e x 0 hx h.pos
    rw [h0, h.zr x hx] at this
    exact this
  · obtain ⟨x, hx, rfl⟩ := ho.onto ha
    obtain ⟨y, hy, rfl⟩ := ho.onto hb
    obtain ⟨z, hz, rfl⟩ := ho.onto hc
    rw [e x y hx hy, e y z hy hz, e _ z (h.lt x y hx hy) hz, e x _ hx (h.lt y z hy hz), h.as x y z hx hy hz]
  · obtain ⟨x, hx, rfl⟩ := ho.onto ha
    obtain ⟨y, hy, rfl⟩ := ho.onto hb
    obtain ⟨z, hz, rfl⟩ := ho.onto hc
    rw [e x y hx hy, e x z hx hz] at e2
    rw [h.cn x y z hx hy hz (ho.inj (h.lt x y hx hy) (h.lt x z hx hz) e2)]
end VL
namespace VL
open PySem PySem.Spec PyProof.Rows L2 HM
theorem mod_by {r X Y k k' : Nat} (h : X + r * k = Y + r * k') : X % r = Y % r := by
  have e1 := Nat.add_mul_mod_self_left X r k
  have e2 := Nat.add_mul_mod_self_left Y r k'
  rw [← e1, ← e2, h]
theorem cg_mul {s a b c d : Nat} (h1 : a % s = b % s) (h2 : c % s = d % s) : (a * c) % s = (b * d) % s := by rw [Nat.mul_mod, h1, h2, ← Nat.mul_mod]
theorem cg_add {s a b c d : Nat} (h1 : a % s = b % s) (h2 : c % s = d % s) : (a + c) % s = (b + d) % s := by rw [Nat.add_mod, h1, h2, ← Nat.add_mod]
theorem cg_cancel {s a b c : Nat} (hs : 0 < s) (h : (a + b) % s = (a + c) % s) : b % s = c % s := by
  have e := cg_add (rfl : ((s - 1) * a) % s = ((s - 1) * a) % s) h
  have f : ∀ y, (s - 1) * a + (a + y) = y + s * a := fun y => by
    have : (s - 1) * a + a = s * a := by rw [← Nat.succ_mul, Nat.succ_eq_add_one, Nat.sub_add_cancel hs]
    omega
  rw [f, f, Nat.add_mul_mod_self_left, Nat.add_mul_mod_self_left] at e
  exact e
/-! pairs -/
theorem pr_div {o A B : Nat} (h : B < o) : (A * o + B) / o = A := by rw [Nat.mul_comm, Nat.mul_add_div (by omega), Nat.div_eq_of_lt h, Nat.add_zero]
theorem pr_mod {o A B : Nat} (h : B < o) : (A * o + B) % o = B := by rw [Nat.mul_comm, Nat.mul_add_mod, Nat.mod_eq_of_lt h]
theorem pr_lt {s o A B : Nat} (hA : A < s) (hB : B < o) : A * o + B < s * o := by
  have := Nat.mul_le_mul_right o (show A + 1 ≤ s by omega)
  rw [Nat.succ_mul] at this
  omega
theorem pr_eq (o x : Nat) : x / o * o + x % o = x := by rw [Nat.mul_comm]; exact Nat.div_add_mod x o
theorem hse_pairs {s o : Nat} {pw : Nat → Nat} (hs : 0 < s) (ho : 0 < o) (h : Pws s o pw) : Hse (s * o) (prM s o pw) := by
  have dv : ∀ {x}, x < s * o → x / o < s := fun hx => Nat.div_lt_of_lt_mul (by rw [Nat.mul_comm]; exact hx)
  have md : ∀ x, x % o < o := fun x => Nat.mod_lt _ ho
  have ms : ∀ x, x % s < s := fun x => Nat.mod_lt _ hs
  have fd : ∀ x y, prM s o pw x y / o = (x / o + pw (x % o) * (y / o)) % s := fun x y => pr_div (md _)
  have fm : ∀ x y, prM s o pw x y % o = (x % o + y % o) % o := fun x y => pr_mod (md _)
  have ext : ∀ {x y : Nat}, x / o = y / o → x % o = y % o → x = y := fun {x y} e1 e2 => by rw [← pr_eq o x, ← pr_eq o y, e1, e2]
  refine ⟨Nat.mul_pos hs ho, fun a b ha hb => pr_lt (ms _) (md _), fun a ha => ?_, fun a ha => ?_, fun a b c ha hb hc => ?_, fun a b c ha hb hc e => ?_⟩
  · refine ext ?_ ?_
    · rw [fd, Nat.zero_mod, Nat.zero_div, Nat.zero_add, cg_mul h.one (rfl : (a / o) % s = (a / o) % s), Nat.one_mul, Nat.mod_eq_of_lt (dv ha)]
    · rw [fm, Nat.zero_mod, Nat.zero_add, Nat.mod_mod]
  · refine ext ?_ ?_
    · rw [fd, Nat.zero_div, Nat.mul_zero, Nat.add_zero, Nat.mod_eq_of_lt (dv ha)]
    · rw [fm, Nat.zero_mod, Nat.add_zero, Nat.mod_mod]
  · refine ext ?_ ?_
    · rw [fd, fd a, fd a, fm, fd b]
      have e1 : ((a / o + pw (a % o) * (b / o)) % s + pw ((a % o + b % o) % o) * (c / o)) % s = ((a / o + pw (a % o) * (b / o)) + (pw (a % o) * pw (b % o)) * (c / o)) % s := cg_add (Nat.mod_mod _ _) (cg_mul (h.add _ _ (md a) (md b)) rfl)
      have e2 : (a / o + pw (a % o) * ((b / o + pw (b % o) * (c / o)) % s)) % s = (a / o + pw (a % o) * (b / o + pw (b % o) * (c / o))) % s := cg_add rfl (cg_mul rfl (Nat.mod_mod _ _))
      rw [e1, e2, Nat.mul_add, ← Nat.mul_assoc, Nat.add_assoc]
    · rw [fm, fm a, fm a, fm b]
      have e1 : ((a % o + b % o) % o + c % o) % o = (a % o + b % o + c % o) % o := cg_add (Nat.mod_mod _ _) rfl
      have e2 : (a % o + (b % o + c % o) % o) % o = (a % o + (b % o + c % o)) % o := cg_add rfl (Nat.mod_mod _ _)
      rw [e1, e2, Nat.add_assoc]
  · have e1 : prM s o pw a b / o = prM s o pw a c / o := by rw [e]
    have e2 : prM s o pw a b % o = prM s o pw a c % o := by rw [e]
    rw [fd, fd] at e1
    rw [fm, fm] at e2
    refine ext ?_ ?_
    · have e3 := cg_cancel hs e1
      have ja := md a
      have e4 : (pw ((o - a % o) % o) * pw (a % o)) % s = 1 % s := by
        rw [← h.add _ _ (md _) ja, ← h.one]
        congr 2
        have : ((o - a % o) % o + a % o) % o = ((o - a % o) + a % o) % o := cg_add (Nat.mod_mod _ _) rfl
        rw [this, Nat.sub_add_cancel (Nat.le_of_lt ja), Nat.mod_self]
      have e5 : ∀ y, (pw ((o - a % o) % o) * (pw (a % o) * y)) % s = y % s := fun y => by rw [← Nat.mul_assoc, cg_mul e4 (rfl : y % s = y % s), Nat.one_mul]
      have e6 := cg_mul (rfl : pw ((o - a % o) % o) % s = _) e3
      rw [e5, e5, Nat.mod_eq_of_lt (dv hb), Nat.mod_eq_of_lt (dv hc)] at e6
      exact e6
    · have e3 := cg_cancel ho e2
      rw [Nat.mod_mod, Nat.mod_mod] at e3
      exact e3
/-! crossed -/
theorem hse_cr {h : Nat} (h0 : 0 < h) : Hse (2 * (2 * h)) (crM h) := by
  obtain ⟨r, hr⟩ : ∃ r, r = 2 * h := ⟨_, rfl⟩
  rw [← hr]
  have r0 : 0 < r := by omega
  have md : ∀ x, x % r < r := fun x => Nat.mod_lt _ r0
  have dv : ∀ {x}, x < 2 * r → x / r = 0 ∨ x / r = 1 := fun {x} hx => by
    have : x / r < 2 := Nat.div_lt_of_lt_mul (by omega)
    generalize x / r = c at this ⊢
    omega
  have fd : ∀ x y, crM h x y / r = (x / r + y / r) % 2 := fun x y => by
    unfold crM
    rw [← hr, Nat.add_mul_div_left _ _ r0, Nat.div_eq_of_lt (md _), Nat.zero_add]
  have fm : ∀ x y, crM h x y % r = (x % r + (if x / r = 0 then y % r else r - y % r) + h * (x / r) * (y / r)) % r := fun x y => by
    unfold crM
    rw [← hr, Nat.add_mul_mod_self_left, Nat.mod_mod]
  have ext : ∀ {x y : Nat}, x / r = y / r → x % r = y % r → x = y := fun {x y} e1 e2 => by rw [← pr_eq r x, ← pr_eq r y, e1, e2]
  have lt : ∀ a b, crM h a b < 2 * r := fun a b => by
    have e := pr_eq r (crM h a b)
    rw [fd] at e
    have h1 := md (crM h a b)
    have h2 : (a / r + b / r) % 2 = 0 ∨ (a / r + b / r) % 2 = 1 := by omega
    rcases h2 with h2 | h2 <;> rw [h2] at e <;> omega
  refine ⟨by omega, fun a b _ _ => lt a b, fun a ha => ?_, fun a ha => ?_, fun a b c ha hb hc => ?_, fun a b c ha hb hc e => ?_⟩
  · refine ext ?_ ?_
    · rw [fd, Nat.zero_div]
      rcases dv ha with z | z <;> rw [z]
    · rw [fm, Nat.zero_div, if_pos rfl, Nat.zero_mod, Nat.mul_zero, Nat.zero_mul, Nat.zero_add, Nat.add_zero, Nat.mod_mod]
  · refine ext ?_ ?_
    · rw [fd, Nat.zero_div]
      rcases dv ha with z | z <;> rw [z]
    · rw [fm, Nat.zero_div, Nat.zero_mod, Nat.mul_zero, Nat.add_zero, Nat.sub_zero]
      split
      · rw [Nat.add_zero, Nat.mod_mod]
      · rw [Nat.add_mod_right, Nat.mod_mod]
  · refine ext ?_ ?_
    · rw [fd, fd a, fd a, fd b]
      omega
    · rw [fm, fm a, fm a, fd a, fm b, fd b]
      have ua := md a
      have ub := md b
      have uc := md c
      generalize a % r = i at ua ⊢
      generalize b % r = u at ub ⊢
      generalize c % r = w at uc ⊢
      rcases dv ha with za | za <;> rcases dv hb with zb | zb <;> rcases dv hc with zc | zc <;> rw [za, zb, zc]
      · simp only [↓reduceIte, Nat.mul_zero, Nat.zero_mul, Nat.mul_one, Nat.add_zero, Nat.zero_add, Nat.one_ne_zero, Nat.zero_mod, Nat.reduceMod, Nat.reduceAdd]
        have e1 := Nat.div_add_mod (i + u) r
        have e2 := Nat.div_add_mod (u + w) r
        have l1 := Nat.mod_lt (i + u) r0
        have l2 := Nat.mod_lt (u + w) r0
        refine mod_by (k := (i + u) / r) (k' := (u + w) / r) ?_
        skip
        omega
      · simp only [↓reduceIte, Nat.mul_zero, Nat.zero_mul, Nat.mul_one, Nat.add_zero, Nat.zero_add, Nat.one_ne_zero, Nat.zero_mod, Nat.reduceMod, Nat.reduceAdd]
        have e1 := Nat.div_add_mod (i + u) r
        have e2 := Nat.div_add_mod (u + w) r
        have l1 := Nat.mod_lt (i + u) r0
        have l2 := Nat.mod_lt (u + w) r0
        refine mod_by (k := (i + u) / r) (k' := (u + w) / r) ?_
        skip
        omega
      · simp only [↓reduceIte, Nat.mul_zero, Nat.zero_mul, Nat.mul_one, Nat.add_zero, Nat.zero_add, Nat.one_ne_zero, Nat.zero_mod, Nat.reduceMod, Nat.reduceAdd]
        have e1 := Nat.div_add_mod (i + u) r
        have e2 := Nat.div_add_mod (u + (r - w)) r
        have l1 := Nat.mod_lt (i + u) r0
        have l2 := Nat.mod_lt (u + (r - w)) r0
        refine mod_by (k := (i + u) / r) (k' := (u + (r - w)) / r) ?_
        skip
        omega
      · simp only [↓reduceIte, Nat.mul_zero, Nat.zero_mul, Nat.mul_one, Nat.add_zero, Nat.zero_add, Nat.one_ne_zero, Nat.zero_mod, Nat.reduceMod, Nat.reduceAdd]
        have e1 := Nat.div_add_mod (i + u) r
        have e2 := Nat.div_add_mod (u + (r - w) + h) r
        have l1 := Nat.mod_lt (i + u) r0
        have l2 := Nat.mod_lt (u + (r - w) + h) r0
        refine mod_by (k := (i + u) / r) (k' := (u + (r - w) + h) / r) ?_
        skip
        omega
      · simp only [↓reduceIte, Nat.mul_zero, Nat.zero_mul, Nat.mul_one, Nat.add_zero, Nat.zero_add, Nat.one_ne_zero, Nat.zero_mod, Nat.reduceMod, Nat.reduceAdd]
        have e1 := Nat.div_add_mod (i + (r - u)) r
        have e2 := Nat.div_add_mod (u + w) r
        have l1 := Nat.mod_lt (i + (r - u)) r0
        have l2 := Nat.mod_lt (u + w) r0
        refine mod_by (k := (i + (r - u)) / r + (u + w) / r) (k' := 1) ?_
        rw [Nat.mul_add]
        omega
      · simp only [↓reduceIte, Nat.mul_zero, Nat.zero_mul, Nat.mul_one, Nat.add_zero, Nat.zero_add, Nat.one_ne_zero, Nat.zero_mod, Nat.reduceMod, Nat.reduceAdd]
        have e1 := Nat.div_add_mod (i + (r - u)) r
        have e2 := Nat.div_add_mod (u + w) r
        have l1 := Nat.mod_lt (i + (r - u)) r0
        have l2 := Nat.mod_lt (u + w) r0
        refine mod_by (k := (i + (r - u)) / r + (u + w) / r) (k' := 1) ?_
        rw [Nat.mul_add]
        omega
      · simp only [↓reduceIte, Nat.mul_zero, Nat.zero_mul, Nat.mul_one, Nat.add_zero, Nat.zero_add, Nat.one_ne_zero, Nat.zero_mod, Nat.reduceMod, Nat.reduceAdd]
        have e1 := Nat.div_add_mod (i + (r - u) + h) r
        have e2 := Nat.div_add_mod (u + (r - w)) r
        have l1 := Nat.mod_lt (i + (r - u) + h) r0
        have l2 := Nat.mod_lt (u + (r - w)) r0
        refine mod_by (k := (i + (r - u) + h) / r + (u + (r - w)) / r) (k' := 1) ?_
        rw [Nat.mul_add]
        omega
      · simp only [↓reduceIte, Nat.mul_zero, Nat.zero_mul, Nat.mul_one, Nat.add_zero, Nat.zero_add, Nat.one_ne_zero, Nat.zero_mod, Nat.reduceMod, Nat.reduceAdd]
        have e1 := Nat.div_add_mod (i + (r - u) + h) r
        have e2 := Nat.div_add_mod (u + (r - w) + h) r
        have l1 := Nat.mod_lt (i + (r - u) + h) r0
        have l2 := Nat.mod_lt (u + (r - w) + h) r0
        refine mod_by (k := (i + (r - u) + h) / r + (u + (r - w) + h) / r) (k' := 2) ?_
        rw [Nat.mul_add]
        omega
  · have e1 : crM h a b / r = crM h a c / r := by rw [e]
    have e2 : crM h a b % r = crM h a c % r := by rw [e]
    rw [fd, fd] at e1
    rw [fm, fm] at e2
    have ub := md b
    have uc := md c
    have hbc : b / r = c / r := by
      have h1 := dv hb
      have h2 := dv hc
      omega
    refine ext hbc ?_
    rw [hbc] at e2
    rcases dv ha with za | za
    · rw [za, if_pos rfl, if_pos rfl, Nat.mul_zero, Nat.zero_mul, Nat.add_zero, Nat.add_zero] at e2
      have := cg_cancel r0 e2
      rw [Nat.mod_mod, Nat.mod_mod] at this
      exact this
    · rw [za, if_neg (by decide), if_neg (by decide)] at e2
      have e3 := cg_cancel (a := a % r + h * 1 * (c / r)) (b := r - b % r) (c := r - c % r) r0 (by rw [Nat.add_right_comm (a % r) (h * 1 * (c / r)) (r - b % r), Nat.add_right_comm (a % r) (h * 1 * (c / r)) (r - c % r)]; exact e2)
      generalize b % r = u at ub e3 ⊢
      generalize c % r = w at uc e3 ⊢
      have e4 := cg_add e3 (rfl : (u + w) % r = (u + w) % r)
      rw [show r - u + (u + w) = w + r * 1 by omega, show r - w + (u + w) = u + r * 1 by omega, Nat.add_mul_mod_self_left, Nat.add_mul_mod_self_left, Nat.mod_eq_of_lt ub, Nat.mod_eq_of_lt uc] at e4
      exact e4.symm
end VL
namespace VL
open PySem PySem.Spec PyProof.Rows L2 HM
section
variable {K : PySem.W.Frag} {am : Am} {p : Addr} {F0 H0 : Hp} {X : Cx} {o : Expr} {pos p1 p2 : Pos} {i k1 k3 : Nat}
/-- pen["great"]: whatever stands there -/
def vPG (p : Addr) (i : Nat) : VTE := fun env n Q => env[i]? = some (.fz (.obj p)) ∧ ∀ g : Bool, Q (.bl g) env n
theorem ve_pget (PI : PenIn K am p) (hu : X.A.units + 1 < cLine) (ho : PE X o (tVar i)) : PE X (.Subscript o (.Constant (.str "great") k1 p1) pos) (tOf ⟨am, F0, H0⟩ (vPG p i)) :=
  PE.imp (pe_dget hu ho pe_str (fun _ _ => rfl)) fun σ H R ⟨F, env, n, Q, rr, ⟨e, q⟩, k⟩ => by
    obtain ⟨v, e2, rp⟩ := rr.sl i _ e
    cases rp
    obtain ⟨a, ns, t, l, g, hp, _⟩ := PI.rd rr.amb
    exact ⟨_, e2, p, _, rfl, pk4_great a t l g ▸ DGet.k (k := Sum.inr "great") hp, k _ H F (.bl g) env n rr (Up.refl F) (.bl g) (q g)⟩
/-- pen["great"] = b -/
def vPP (p : Addr) (i : Nat) : VTS := fun V env n => env[i]? = some (.fz (.obj p)) ∧ V.nx env n
theorem vs_pput {b : Bool} {p3 : Pos} (PI : PenIn K am p) (hu : X.A.units + 1 < cLine) (ho : PE X o (tVar i)) (hs : swapsWith (.Constant (.bool b) k3 p3) (some (.Subscript o (.Constant (.str "great") k1 p1) p2)) pos.line X.env = pure false) : PS X (.Assign [.Subscript o (.Constant (.str "great") k1 p1) p2] (.Constant (.bool b) k3 p3) pos) (sOf ⟨am, F0, H0⟩ (vPP p i)) :=
  PS.imp (ps_dput hu ho pe_str pe_bl hs) fun D σ H ⟨F, env, n, V, rr, ⟨e, q⟩, k⟩ => by
    obtain ⟨v, e2, rp⟩ := rr.sl i _ e
    cases rp
    obtain ⟨a, ns, t, l, g, hp, _, _, h1, h2⟩ := PI.rd rr.amb
    have o := PI.out rr.sub rr.spf rr.amb hp h1 h2 (g' := b)
    exact ⟨_, e2, p, _, rfl, pk4_put_great a t l g b ▸ DPut.k (k := Sum.inr "great") hp (by show 4 < sizeLine; decide), k.nx F _ σ env n (rr.call o.u o.s o.f o.o o.k o.a) (Up.refl F) q⟩
end
end VL
namespace VL
open PySem PySem.Spec PyProof.Rows L2 HM
def spHse (p : Addr) (most : Nat) : VSp := fun ds t Q _ => ∃ c : Nat, ds = [.obj p, nD c] ∧ c < most ∧ ∀ (n : Nat) (m : Nat → Nat → Nat), Hse n m → n ≤ 60 → Q (houD n m) t
end VL
namespace VL
open PySem PySem.Spec PyProof.Rows L2 HM
def spRen (p : Addr) : VSp := fun ds t Q _ => ∃ (n : Nat) (m : Nat → Nat → Nat), ds = [.obj p, houD n m] ∧ Hse n m ∧ n ≤ 60 ∧ ∀ m', Hse n m' → Q (houD n m') t
def spHouse (p : Addr) : VSp := fun ds t Q _ => ds = [.obj p] ∧ ∀ (n : Nat) (m : Nat → Nat → Nat), Hse n m → n ≤ 60 → Q (houD n m) t
end VL
namespace VL
open PySem PySem.Spec PyProof.Rows L2 HM
theorem perm_pop2 {fs ls bs : List Nat} {r : Nat} {y : Nat} (h : (fs ++ ls).Perm bs) (hy : ls[r]? = some y) : ((fs ++ [y]) ++ ls.eraseIdx r).Perm bs := by
  refine List.Perm.trans ?_ h
  rw [List.append_assoc]
  refine List.Perm.append_left fs ?_
  have hr := (List.getElem?_eq_some_iff.mp hy)
  obtain ⟨hr, rfl⟩ := hr
  have e : ls = ls.take r ++ ls[r] :: ls.drop (r + 1) := by rw [List.getElem_cons_drop, List.take_append_drop]
  rw [List.eraseIdx_eq_take_drop_succ]
  refine List.Perm.trans ?_ (List.Perm.of_eq e.symm)
  show (ls[r] :: (List.take r ls ++ List.drop (r + 1) ls)).Perm _
  exact List.perm_middle.symm
theorem rep_ints (n : Nat) : List.flatten (List.replicate n [Dt.int 0]) = (List.replicate n (0 : Int)).map Dt.int := by
  induction n with
  | zero => rfl
  | succ n ih => rw [List.replicate_succ, List.flatten_cons, ih, List.replicate_succ]; rfl
theorem objD_at {n : Nat} {A : Nat → Addr} {i : Nat} (h : i < n) : atI (objD n A) (i : Int) = some (.obj (A i)) := atI_nat (by unfold objD; rw [List.getElem?_map, List.getElem?_range h]; rfl)
theorem rng1_ns (n : Nat) (h : 0 < n) : rngD 1 ((n : Int) - 1).toNat = nsD ((List.range (n - 1)).map (· + 1)) := by
  unfold rngD nsD
  rw [List.map_map, show ((n : Int) - 1).toNat = n - 1 by omega]
  refine List.map_congr_left fun i _ => ?_
  show Dt.int (1 + (i : Int)) = Dt.int ((i + 1 : Nat) : Int)
  congr 1
  omega
theorem tn_cons {n : Nat} {fs : List Nat} (hn : 0 < n) (h : fs.Perm ((List.range (n - 1)).map (· + 1))) : Tn n (0 :: fs) := by
  have e : List.range n = 0 :: (List.range (n - 1)).map (· + 1) := by
    obtain ⟨k, rfl⟩ : ∃ k, n = k + 1 := ⟨n - 1, by omega⟩
    rw [List.range_succ_eq_map]
    rfl
  unfold Tn
  rw [e]
  exact List.Perm.cons 0 h
/-- rows written by places -/
theorem rows_hou {n : Nat} {r : Nat → List Int} (hl : ∀ i, i < n → (r i).length = n) (hr : ∀ i j, i < n → j < n → ∃ k : Nat, (r i)[j]? = some (k : Int)) : Dt.lst ((List.range n).map fun i => .lst ((r i).map Dt.int)) = houD n fun i j => ((r i).getD j 0).toNat := by
  unfold houD
  refine congrArg Dt.lst (List.map_congr_left fun i hi => ?_)
  have hi := List.mem_range.mp hi
  unfold rowD
  refine congrArg Dt.lst (List.ext_getElem? fun j => ?_)
  by_cases hj : j < n
  · obtain ⟨k, hk⟩ := hr i j hi hj
    unfold nsD
    rw [List.getElem?_map, hk, List.getElem?_map, List.getElem?_map, List.getElem?_range hj]
    show some (Dt.int (k : Int)) = some (nD ((r i).getD j 0).toNat)
    rw [List.getD_eq_getElem?_getD, hk]
    rfl
  · rw [List.getElem?_eq_none (by rw [List.length_map, hl i hi]; omega), List.getElem?_eq_none (by rw [nsD_len, List.length_map, List.length_range]; omega)]
end VL
namespace VL
open PySem PySem.Spec PyProof.Rows L2 HM
/-! ### whole numbers in lists and tuples, d deep -/
def wd : Nat → Dt → Prop
  | _, .int _ => True
  | d + 1, .lst ds => ds.length ≤ 1000 ∧ ∀ x ∈ ds, wd d x
  | d + 1, .tup ds => ds.length ≤ 1000 ∧ ∀ x ∈ ds, wd d x
  | _, _ => False
theorem wd_ty : ∀ {d : Nat} {x : Dt}, wd d x → tyD x ≠ ""
  | _, .int _, _ => show ("int" : String) ≠ "" by decide
  | _, .lst _, _ => show ("list" : String) ≠ "" by decide
  | _, .tup _, _ => show ("tuple" : String) ≠ "" by decide
  | 0, .non, h => h.elim
  | 0, .bl _, h => h.elim
  | 0, .str _, h => h.elim
  | 0, .ty _, h => h.elim
  | 0, .obj _, h => h.elim
  | _ + 1, .non, h => h.elim
  | _ + 1, .bl _, h => h.elim
  | _ + 1, .str _, h => h.elim
  | _ + 1, .ty _, h => h.elim
  | _ + 1, .obj _, h => h.elim
def sqD : Dt → Option (List Dt)
  | .lst ds => some ds
  | .tup ds => some ds
  | _ => none
theorem wd_cases : ∀ {d : Nat} {x : Dt}, wd d x → (∃ i, x = .int i) ∨ ∃ d' xs, d = d' + 1 ∧ (x = .lst xs ∨ x = .tup xs) ∧ xs.length ≤ 1000 ∧ ∀ z ∈ xs, wd d' z
  | _, .int i, _ => .inl ⟨i, rfl⟩
  | d + 1, .lst xs, h => .inr ⟨d, xs, rfl, .inl rfl, h.1, h.2⟩
  | d + 1, .tup xs, h => .inr ⟨d, xs, rfl, .inr rfl, h.1, h.2⟩
  | 0, .lst _, h => h.elim
  | 0, .tup _, h => h.elim
  | 0, .non, h => h.elim
  | 0, .bl _, h => h.elim
  | 0, .str _, h => h.elim
  | 0, .ty _, h => h.elim
  | 0, .obj _, h => h.elim
  | _ + 1, .non, h => h.elim
  | _ + 1, .bl _, h => h.elim
  | _ + 1, .str _, h => h.elim
  | _ + 1, .ty _, h => h.elim
  | _ + 1, .obj _, h => h.elim
theorem wd_ns (l : List Nat) (h : l.length ≤ 1000) : wd 1 (.tup (nsD l)) := ⟨by rw [nsD_len]; exact h, fun x hx => by
  obtain ⟨n, _, rfl⟩ := List.mem_map.mp hx
  trivial⟩
def spSameG (d : Nat) : VSp := fun ds t Q _ => ∃ x y, ds = [x, y] ∧ wd d x ∧ wd d y ∧ ∀ b : Bool, (b = true ↔ x = y) → Q (.bl b) t
end VL
namespace VL
open PySem PySem.Spec PyProof.Rows L2 HM
/-! ### the pen of a law: it stands at p, its script at a -/
def penAm (K : PySem.W.Frag) (p a : Addr) (ns : List Int) (q : Prop) : Am where
  sp b := b = p ∨ (q ∧ b = a)
  ok _ H := (∃ t l g, H p = some (.dK (pk4 a t l g)) ∧ 0 ≤ t ∧ 0 ≤ l) ∧ (q → ∃ ob, H a = some (.frz ob (.lst (ns.map V.int)))) ∧ (¬ q → ∀ H', Scr K H' a ns)
  trk := fun {n H b} ⟨⟨t, l, g, h, _⟩, h2, _⟩ hb z => by
    rcases hb with rfl | ⟨hq, rfl⟩
    · rw [h] at z; cases z
    · obtain ⟨ob, h3⟩ := h2 hq
      rw [h3] at z; cases z
  ntp := fun {n H b xs} ⟨⟨t, l, g, h, _⟩, h2, _⟩ hb z => by
    rcases hb with rfl | ⟨hq, rfl⟩
    · rw [h] at z; cases z
    · obtain ⟨ob, h3⟩ := h2 hq
      rw [h3] at z; cases z
  mono := fun {n H H'} ⟨⟨t, l, g, h, h0⟩, h2, h3⟩ e => ⟨⟨t, l, g, by rw [e p (.inl rfl)]; exact h, h0⟩, fun hq => by
    obtain ⟨ob, h4⟩ := h2 hq
    exact ⟨ob, by rw [e a (.inr ⟨hq, rfl⟩)]; exact h4⟩, h3⟩
theorem pen_in {K : PySem.W.Frag} {p a : Addr} {ns : List Int} {q : Prop} (hl : ns.length ≤ 63) : PenIn K (penAm K p a ns q) p where
  sp := .inl rfl
  rd := fun {n H} ⟨⟨t, l, g, h, h1, h2⟩, h3, h4⟩ => ⟨a, ns, t, l, g, h, by
    by_cases hq : q
    · obtain ⟨ob, h5⟩ := h3 hq
      exact .inl ⟨ob, h5⟩
    · exact h4 hq H, hl, h1, h2⟩
  wr := fun {n H a' t l g} ⟨⟨t1, l1, g1, h, _⟩, h3, h4⟩ hp t' l' g' h1 h2 => by
    rw [h] at hp
    have ea : a = a' := by
      have : pk4 a t1 l1 g1 = pk4 a' t l g := by injection (Option.some.inj hp)
      injection this with e1
      injection e1 with _ e2
      injection e2
    refine ⟨⟨t', l', g', by rw [upd_same, ea], h1, h2⟩, fun hq => ?_, h4⟩
    obtain ⟨ob, h5⟩ := h3 hq
    refine ⟨ob, ?_⟩
    rw [upd_ne fun z => by rw [z, h] at h5; cases h5]
    exact h5
/-- behind the pen: for whatever pen -/
theorem pss_pen {X : Cx} {b : List Stmt} {K : PySem.W.Frag} {ts : Addr → VTS} (h : ∀ (am : Am) (p : Addr), PenIn K am p → ∀ F0 H0, PSs X b (sOf ⟨am, F0, H0⟩ (ts p))) : PSs X b (fun D σ H => ∃ am p, PenIn K am p ∧ ∃ F0 H0, sOf ⟨am, F0, H0⟩ (ts p) D σ H) :=
  ⟨fun pins s σ H D I ⟨am, p, PI, F0, H0, q⟩ => (h am p PI F0 H0).run pins s σ H D I q⟩
def spLaw (K : PySem.W.Frag) : Sp := fun vs H Q _ => ∃ (a : Addr) (ns : List Int), vs = [.ref a] ∧ Scr K H a ns ∧ ns.length ≤ 63 ∧ ∀ H', Q (.bl true) H'
theorem scr_out {K : PySem.W.Frag} {H : Hp} {a : Addr} {ns : List Int} (h : Scr K H a ns) (n : ¬ ∃ ob, H a = some (.frz ob (.lst (ns.map V.int)))) (H' : Hp) : Scr K H' a ns := by
  rcases h with h | h
  · exact absurd h n
  · exact .inr h
/-- the start of a law -/
theorem pen_start {K : PySem.W.Frag} {H : Hp} {a p : Addr} {ns : List Int} {D : Ends} {ts : Addr → VTS} {σ : L2.St} {rest : List (Option V)} (eσ : σ = some (.ref a) :: some (.ref p) :: rest) (hS : Scr K H a ns) (hl : ns.length ≤ 63) (np : H p = none) (hD : ∀ H', D.rt (.bl true) H')
    (q : ts p { nx := fun _ _ => False, rt := fun d _ => d = .bl true } (.no :: .fz (.obj p) :: rest.map fun _ => .no) 0) :
    ∃ am p', PenIn K am p' ∧ ∃ F0 H0, sOf ⟨am, F0, H0⟩ (ts p') D σ (upd H p (.dK (pk4 a 0 0 false))) := by
  subst eσ
  refine ⟨penAm K p a ns (∃ ob, H a = some (.frz ob (.lst (ns.map V.int)))), p, pen_in hl, fun _ => none, upd H p (.dK (pk4 a 0 0 false)), fun _ => none, _, 0, _, ?_, q, ⟨fun _ _ _ _ _ _ _ z => z.elim, fun F' H' σ' env' n' v d _ _ rv e => ?_, fun _ _ _ _ _ _ _ z => z.elim, fun _ _ _ _ _ _ _ z => z.elim⟩⟩
  · refine ⟨fun _ _ e => (by cases e), fun _ _ => rfl, ⟨⟨0, 0, false, upd_same, by decide, by decide⟩, fun ⟨ob, h⟩ => ⟨ob, by rw [upd_ne (ne_of_none h np)]; exact h⟩, fun n H' => scr_out hS n H'⟩, fun _ _ e => e, fun _ _ _ _ e => e, fun _ _ e _ => e, by simp, fun i s e => ?_, fun i j b k k' _ e1 _ _ => ?_⟩
    · match i, e with
      | 0, e => cases e; trivial
      | 1, e => cases e; exact ⟨_, rfl, .obj p⟩
      | i + 2, e =>
        have e' : (rest.map fun _ => Sl.no)[i]? = some s := e
        rw [List.getElem?_map] at e'
        obtain ⟨_, _, rfl⟩ := Option.map_eq_some_iff.mp e'
        trivial
    · match i, e1 with
      | 0, e => cases e
      | 1, e => cases e
      | i + 2, e =>
        have e' : (rest.map fun _ => Sl.no)[i]? = some (.ow k) := e
        rw [List.getElem?_map] at e'
        obtain ⟨_, _, z⟩ := Option.map_eq_some_iff.mp e'
        cases z
  · have e' : d = .bl true := e
    rw [e'] at rv
    rw [rv.bl_inv]
    exact hD _
end VL
namespace K15
open PySem PySem.Spec PyProof.Rows L2 HM VL
def topS (i : Nat) : Stmt := PySem.Challenge.pw_heldmarks_k15_shares_told.main.body.getD i (.Pass ⟨0, 0, 0, 0⟩)
abbrev bn : List Str := ["isinstance", "int", "bool", "len", "abs", "list", "range", "tuple", "set", "all", "sorted", "zip", "sum", "min"]
end K15
namespace K15
open PySem PySem.Spec PyProof.Rows L2 HM VL
abbrev s_l_pen : Stmt := topS 3
abbrev s_l_take : Stmt := topS 4
section
variable {P : Program} {w : World} {K : PySem.W.Frag} {mg : Str → Option Value} {base : Heap}
theorem emodb2 (x : Int) : -(2 ^ 64) < x % 2147483629 ∧ x % 2147483629 < 2 ^ 64 := ⟨by have := Int.emod_nonneg x (b := 2147483629) (by decide); omega, by have := Int.emod_lt_of_pos x (b := 2147483629) (by decide); omega⟩
theorem sc_l_pen : FnScope ["_law_script"] ["_law_script"] (defScope s_l_pen) := ⟨rfl, rfl, rfl, by decide +kernel, rfl, by decide +kernel, by decide +kernel⟩
theorem ok_pen {gd : Around → Prop} {f : Addr} {fd : FuncData} {k : Nat} (F : Fun K "_law_pen" "_law_pen" s_l_pen f fd) : PFn gd P w K mg base CX0 (k + 1) f fd ["_law_script"] spPen := by
  refine pfn_of F sc_l_pen (fun vs H Q E h => ?_) (fun cdv A outer s H vs Q E hcd hgd hr h => ?_)
  · obtain ⟨a, rfl, _⟩ := h
    rfl
  · obtain ⟨a, rfl, q⟩ := h
    refine ⟨_, pss_one (ps_ret (pe_disp (pps_cons pe_str (pv 0) (pps_cons pe_str pe_int (pps_cons pe_str pe_int (pps_cons pe_str pe_bl pps_nil)))) rfl rfl (by simp) (by decide))), ?_⟩
    refine fun p np => ⟨_, rfl, upd_same, pk4 a 0 0 false, rfl, by show 4 ≤ 15; decide, ?_⟩
    rw [upd_upd, pk4_merge]
    exact q p np
theorem sc_l_take : FnScope ["_law_pen_here", "_law_many", "_law_digit", "_law_script", "_law_at", "_law_cell", "_law_number"] ["_law_pen_here", "_law_many"] (defScope s_l_take) := ⟨rfl, rfl, rfl, by decide +kernel, rfl, by decide +kernel, by decide +kernel⟩
theorem ok_take {gd : Around → Prop} {am : Am} {p f : Addr} {fd : FuncData} {k : Nat} (PI : PenIn K am p) (F : Fun K "_law_take" "_law_take" s_l_take f fd) (mz : ∀ x ∈ bn, mg x = none) : VFn gd P w K mg base CX0 (k + 1) f fd ["_law_pen_here", "_law_many"] am (spTake p) := by
  refine pfn_of F sc_l_take (fun vs H Q E h => ?_) (fun cdv A outer s H vs Q E hcd hgd hr h => ?_)
  · obtain ⟨F0, ds, n, Q', E', _, _, _, r, ⟨m, rfl, _⟩, _⟩ := h
    rw [r.len]
    rfl
  · obtain ⟨F0, ds, n, Q', E', u, hs, ha, r, ⟨m, rfl, hm0, hm1, q⟩, kq, ke⟩ := h
    obtain ⟨a, ns, t, l, g, hp, hS, hlen, ht, hl⟩ := PI.rd ha
    cases r with | cons r1 r =>
    cases r with | cons r2 r =>
    cases r
    cases r1
    cases r2
    have hu := hu_of hr
    have ml := mz "len" (by decide)
    have ma := mz "abs" (by decide)
    refine ⟨_, pss_cons (ps_if (pt_cmpR op_gt (pe_dget hu (pv 0) pe_str (fun _ _ => rfl)) pe_int (nomark _))
        (pss_cons (ps_set (i := 2) sc_l_take.nd rfl (.inl rfl) (pe_op op_mod (pe_dget hu (pv 0) pe_str (fun _ _ => rfl)) (pv 1)))
        (pss_cons (ps_dput hu (pv 0) pe_str (pe_op op_fdiv (pe_dget hu (pv 0) pe_str (fun _ _ => rfl)) (pv 1)) rfl)
        (pss_one (ps_ret (pv 2))))) pss_nil)
      (pss_cons (ps_set (i := 3) sc_l_take.nd rfl (.inl rfl) (pe_dget hu (pv 0) pe_str (fun _ _ => rfl)))
      (pss_cons (ps_set (i := 4) sc_l_take.nd rfl (.inl rfl) (pe_dget hu (pv 0) pe_str (fun _ _ => rfl)))
      (pss_cons (ps_dput hu (pv 0) pe_str (pe_op op_add (pv 4) pe_int) rfl)
      (pss_cons (ps_set (i := 5) sc_l_take.nd rfl (.inl rfl) (pe_op op_add (pe_op op_mul pe_int (pv 4)) pe_int))
      (pss_cons (ps_if (pt_cmpR op_lt (pv 4) (pe_callB call_len_seq (by rfl) ml PySem.boot_len (pa_cons (pv 3) pa_nil)) (nomark _))
        (pss_cons (ps_set (i := 5) sc_l_take.nd rfl (.inl rfl) (pe_ix ix_list (pv 3) (pv 4) (fun _ _ => rfl)))
        (pss_one (ps_if (pt_cmpR op_ge (pe_callB call_abs (by rfl) ma (by decide +kernel) (pa_cons (pv 5) pa_nil)) (pe_op op_pow pe_int pe_int) (nomark _))
          (pss_cons (ps_dput hu (pv 0) pe_str (pe_op op_fdiv (pe_callB call_abs (by rfl) ma (by decide +kernel) (pa_cons (pv 5) pa_nil)) (pv 1)) rfl)
          (pss_one (ps_ret (pe_op op_mod (pe_callB call_abs (by rfl) ma (by decide +kernel) (pa_cons (pv 5) pa_nil)) (pv 1))))) pss_nil)))
        (pss_one (ps_if (pt_cmpR op_gt (pe_callB call_len_seq (by rfl) ml PySem.boot_len (pa_cons (pv 3) pa_nil)) pe_int (nomark _))
          (pss_one (ps_set (i := 5) sc_l_take.nd rfl (.inl rfl) (pe_op op_add (pe_op op_mod (pe_ix ix_list (pv 3) (pe_op op_mod (pv 4) (pe_callB call_len_seq (by rfl) ml PySem.boot_len (pa_cons (pv 3) pa_nil))) (fun _ _ => rfl)) (pe_op op_pow pe_int pe_int)) (pe_op op_mul pe_int (pv 4))))) pss_nil)))
      (pss_cons (ps_set (i := 6) sc_l_take.nd rfl (.inl rfl) (pe_op op_mod (pe_op op_mul (pe_op op_add (pe_op op_add (pe_op op_mod (pv 5) pe_int) (pe_op op_mul pe_int (pv 4))) pe_int) pe_int) pe_int))
      (pss_cons (ps_set (i := 6) sc_l_take.nd rfl (.inl rfl) (pe_op op_mod (pe_op op_add (pe_op op_mul (pv 6) (pe_op op_add (pe_op op_mod (pv 6) pe_int) pe_int)) pe_int) pe_int))
      (pss_one (ps_ret (pe_op op_mod (pe_op op_fdiv (pv 6) pe_int) (pv 1))))))))))), ?_⟩
    have gS : ∀ {H' : Hp} {t' l' : Int} {g' : Bool}, H' p = some (.dK (pk4 a t' l' g')) → DGet H' p (.str "script") (some (.ref a)) := fun {H' t' l' g'} e => pk4_script a t' l' g' ▸ DGet.k (k := Sum.inr "script") e
    have gA : ∀ {H' : Hp} {t' l' : Int} {g' : Bool}, H' p = some (.dK (pk4 a t' l' g')) → DGet H' p (.str "at") (some (.int t')) := fun {H' t' l' g'} e => pk4_at a t' l' g' ▸ DGet.k (k := Sum.inr "at") e
    have gL : ∀ {H' : Hp} {t' l' : Int} {g' : Bool}, H' p = some (.dK (pk4 a t' l' g')) → DGet H' p (.str "left") (some (.int l')) := fun {H' t' l' g'} e => pk4_left a t' l' g' ▸ DGet.k (k := Sum.inr "left") e
    have pA : ∀ {H' : Hp} {t' l' v : Int} {g' : Bool}, H' p = some (.dK (pk4 a t' l' g')) → DPut H' p (.str "at") (.int v) (upd H' p (.dK (pk4 a v l' g'))) := fun {H' t' l' v g'} e => pk4_put_at a t' l' v g' ▸ DPut.k (k := Sum.inr "at") e (by show 4 < sizeLine; decide)
    have pL : ∀ {H' : Hp} {t' l' v : Int} {g' : Bool}, H' p = some (.dK (pk4 a t' l' g')) → DPut H' p (.str "left") (.int v) (upd H' p (.dK (pk4 a t' v g'))) := fun {H' t' l' v g'} e => pk4_put_left a t' l' v g' ▸ DPut.k (k := Sum.inr "left") e (by show 4 < sizeLine; decide)
    have sc : ∀ {o : List (Key × V)}, Scr K (upd H p (.dK o)) a ns := fun {o} => hS.up fun b ob u e => by
      rw [upd_ne (ne_of e hp (by intro z; cases z))]
      exact e
    have sq : ∀ {o : List (Key × V)}, SqL K (upd H p (.dK o)) a (ns.map V.int) := fun {o} => sc.sq
    have mi : (0 : Int) < (m : Int) := by omega
    have fin : ∀ (x t' l' : Int), 0 ≤ t' → 0 ≤ l' → Q (.int (x % (m : Int))) (upd H p (.dK (pk4 a t' l' g))) := fun x t' l' h1 h2 => by
      have e0 := Int.emod_nonneg x (b := (m : Int)) (by omega)
      have e1 := Int.emod_lt_of_pos x mi
      obtain ⟨y, hy⟩ : ∃ y : Nat, x % (m : Int) = (y : Int) := ⟨(x % (m : Int)).toNat, by omega⟩
      rw [hy]
      rw [hy] at e1
      exact kq _ F0 _ (nD y) n (PI.out u hs ha hp h1 h2) (.int _) (q y (by omega))
    have hne : ∀ (c : Int), 0 ≤ (if c < 0 then -c else c) := fun c => by split <;> omega
    refine ⟨.ref p, rfl, p, _, rfl, gL hp, _, _, rfl, rfl, _, rfl, ite2 (fun e => ?_) (fun e => ?_)⟩
    · refine ⟨.ref p, rfl, p, _, rfl, gL hp, .int m, rfl, _, _, rfl, rfl, mi, .ref p, rfl, p, _, rfl, gL hp, .int m, rfl, _, _, rfl, rfl, ⟨mi, by omega⟩, .ref p, rfl, p, _, rfl, pL hp, _, rfl, ?_⟩
      exact fin _ t _ ht (Int.ediv_nonneg hl (by omega))
    · refine ⟨.ref p, rfl, p, _, rfl, gS hp, .ref p, rfl, p, _, rfl, gA hp, .int t, rfl, t, 1, rfl, rfl, .ref p, rfl, p, _, rfl, pA hp, .int t, rfl, _, _, rfl, rfl, .inl ⟨by decide, by decide⟩, _, _, rfl, rfl, .int t, rfl, .ref a, rfl, a, _, rfl, .inl sq, _, _, rfl, rfl, _, rfl, ite2 (fun e1 => ?_) (fun e1 => ?_)⟩
      · have hlt : t < ((ns.map V.int).length : Int) := of_decide_eq_true e1
        have hj : t.toNat < ns.length := by
          rw [List.length_map] at hlt
          omega
        have hat : atI (ns.map V.int) t = some (.int (ns[t.toNat]'hj)) := by
          refine at_of (j := t.toNat) (by omega) ?_
          rw [List.getElem?_map, List.getElem?_eq_getElem hj]
          rfl
        refine ⟨.ref a, rfl, .int t, rfl, a, _, _, _, rfl, rfl, sq, hat, ?_⟩
        generalize (ns[t.toNat]'hj) = c
        refine ⟨.int c, rfl, c, rfl, 10, 18, rfl, rfl, ⟨by decide, by decide, by decide⟩, _, _, rfl, rfl, _, rfl, ite2 (fun e2 => ?_) (fun e2 => ?_)⟩
        · refine ⟨.int c, rfl, c, rfl, .int (m : Int), rfl, _, _, rfl, rfl, ⟨mi, by omega⟩, .ref p, rfl, p, _, rfl, pL upd_same, ?_⟩
          rw [upd_upd]
          refine ⟨.int c, rfl, c, rfl, .int (m : Int), rfl, _, _, rfl, rfl, mi, ?_⟩
          exact fin _ (t + 1) _ (by omega) (Int.ediv_nonneg (hne c) (by omega))
        · refine ⟨.int _, rfl, _, _, rfl, rfl, (by show (0 : Int) < _; decide), .int t, rfl, _, _, rfl, rfl, .inl ⟨by decide, by decide⟩, _, _, rfl, rfl, _, _, rfl, rfl, _, _, rfl, rfl, .inr ⟨by decide, by decide⟩, _, _, rfl, rfl, (by show (0 : Int) < _; decide), ?_⟩
          refine ⟨.int _, rfl, .int _, rfl, _, _, rfl, rfl, (by show (0 : Int) < _; decide), _, _, rfl, rfl, _, _, rfl, rfl, .inl (emodb2 _), _, _, rfl, rfl, _, _, rfl, rfl, (by show (0 : Int) < _; decide), .int _, rfl, _, _, rfl, rfl, ⟨by decide, by decide⟩, .int (m : Int), rfl, _, _, rfl, rfl, mi, ?_⟩
          exact fin _ (t + 1) l (by omega) hl
      · refine ⟨.ref a, rfl, a, _, rfl, .inl sq, _, _, rfl, rfl, _, rfl, ite2 (fun e2 => ?_) (fun e2 => ?_)⟩
        · have hpos : (0 : Int) < ((ns.map V.int).length : Int) := of_decide_eq_true e2
          have hb0 : 0 ≤ t % ((ns.map V.int).length : Int) := Int.emod_nonneg _ (by omega)
          have hb1 : t % ((ns.map V.int).length : Int) < ((ns.map V.int).length : Int) := Int.emod_lt_of_pos _ hpos
          have hj : (t % ((ns.map V.int).length : Int)).toNat < ns.length := by
            rw [List.length_map] at hb0 hb1 ⊢
            omega
          have hat : atI (ns.map V.int) (t % ((ns.map V.int).length : Int)) = some (.int (ns[(t % ((ns.map V.int).length : Int)).toNat]'hj)) := by
            refine at_of (j := (t % ((ns.map V.int).length : Int)).toNat) (by omega) ?_
            rw [List.getElem?_map, List.getElem?_eq_getElem hj]
            rfl
          refine ⟨.ref a, rfl, .int t, rfl, .ref a, rfl, a, _, rfl, .inl sq, _, _, rfl, rfl, hpos, a, _, _, _, rfl, rfl, sq, hat, ?_⟩
          generalize (ns[(t % ((ns.map V.int).length : Int)).toNat]'hj) = c
          refine ⟨10, 17, rfl, rfl, ⟨by decide, by decide, by decide⟩, _, _, rfl, rfl, (by show (0 : Int) < _; decide), .int t, rfl, _, _, rfl, rfl, .inl ⟨by decide, by decide⟩, _, _, rfl, rfl, ?_⟩
          refine ⟨.int _, rfl, _, _, rfl, rfl, (by show (0 : Int) < _; decide), .int t, rfl, _, _, rfl, rfl, .inl ⟨by decide, by decide⟩, _, _, rfl, rfl, _, _, rfl, rfl, _, _, rfl, rfl, .inr ⟨by decide, by decide⟩, _, _, rfl, rfl, (by show (0 : Int) < _; decide), ?_⟩
          refine ⟨.int _, rfl, .int _, rfl, _, _, rfl, rfl, (by show (0 : Int) < _; decide), _, _, rfl, rfl, _, _, rfl, rfl, .inl (emodb2 _), _, _, rfl, rfl, _, _, rfl, rfl, (by show (0 : Int) < _; decide), .int _, rfl, _, _, rfl, rfl, ⟨by decide, by decide⟩, .int (m : Int), rfl, _, _, rfl, rfl, mi, ?_⟩
          exact fin _ (t + 1) l (by omega) hl
        · refine ⟨.int _, rfl, _, _, rfl, rfl, (by show (0 : Int) < _; decide), .int t, rfl, _, _, rfl, rfl, .inl ⟨by decide, by decide⟩, _, _, rfl, rfl, _, _, rfl, rfl, _, _, rfl, rfl, .inr ⟨by decide, by decide⟩, _, _, rfl, rfl, (by show (0 : Int) < _; decide), ?_⟩
          refine ⟨.int _, rfl, .int _, rfl, _, _, rfl, rfl, (by show (0 : Int) < _; decide), _, _, rfl, rfl, _, _, rfl, rfl, .inl (emodb2 _), _, _, rfl, rfl, _, _, rfl, rfl, (by show (0 : Int) < _; decide), .int _, rfl, _, _, rfl, rfl, ⟨by decide, by decide⟩, .int (m : Int), rfl, _, _, rfl, rfl, mi, ?_⟩
          exact fin _ (t + 1) l (by omega) hl
end
end K15
namespace K15
open PySem PySem.Spec PyProof.Rows L2 HM VL
abbrev s_l_closed : Stmt := topS 17
theorem sc_l_closed : FnScope ["_law_house_here", "_law_numbers", "_law_found", "_law_waiting", "_law_one", "_law_number", "_law_more"] ["_law_house_here", "_law_numbers"] (defScope s_l_closed) := ⟨rfl, rfl, rfl, by decide +kernel, rfl, by decide +kernel, by decide +kernel⟩
section
variable {P : Program} {w : World} {K : PySem.W.Frag} {mg : Str → Option Value} {base : Heap} {am : Am} {gd : Around → Prop} {k : Nat}
theorem ok_closed {f : Addr} {fd : FuncData} (F : Fun K "_law_closed" "_law_closed" s_l_closed f fd) (mz : ∀ x ∈ bn, mg x = none) : VFn gd P w K mg base CX0 (k + 1) f fd ["_law_house_here", "_law_numbers"] am spPart := by
  refine vfn_of F sc_l_closed (fun ds n Q E h => ?_) ⟨_, fun cdv A out s H E F0 H0 hcd hgd hr =>
    (vss_cons (vs_setN (i := 2) sc_l_closed.nd rfl (.inl rfl) (vn_dispK (fun F0 H0 => ve_int) (fun F0 H0 => ve_bl)))
      (vss_cons (vs_setN (i := 3) sc_l_closed.nd rfl (.inl rfl) (vn_lst (va_cons ve_int va_nil)))
      (vss_cons (vs_while PassesOwn.never (vt_cmpN (op_neD hr.units) lft_neD (pv 3) (vr_of (ve_new (vn_lst va_nil))) (nomark _))
        (vss_cons (vs_set (i := 4) sc_l_closed.nd rfl (.inl rfl) (ve_m0 (pe_bm0 PySem.F.plainAttrs_list PySem.F.slot_list_pop PySem.F.type_list_pop mt_pop (pv 3)) lft_pop))
        (vss_one (vs_for PassesOwn.never rfl (vi_list (ve_var (pv 1))) (vg_name (pg_name (i := 5) sc_l_closed.nd rfl (.inl rfl)))
          (vss_cons (vs_set (i := 6) sc_l_closed.nd rfl (.inl rfl) (ve_ix ix_list lft_ixL (ve_ixO (pv 0) (ve_var (pv 4)) (fun _ _ => rfl)) (ve_var (pv 5)) (fun _ _ => rfl)))
          (vss_one (vs_if (vt_dnotin (hu_of hr) (ve_var (pv 6)) (pv 2))
            (vss_cons (vs_dput (hu_of hr) (pv 2) (ve_var (pv 6)) ve_bl rfl)
            (vss_one (vs_expr (ve_m (pe_bm PySem.F.plainAttrs_list PySem.F.slot_list_append PySem.F.type_list_append mt_append (pv 3) (va_cons (ve_var (pv 6)) va_nil)) lft_append))))
            vss_nil)))))))
      (vss_one (vs_ret (ve_tyTR call_tuple_of lft_tupleOf (by rfl) (mz "tuple" (by decide)) (by decide +kernel) (vb_cons (ve_new (vn_dsortK rfl (by rfl) (mz "sorted" (by decide)) (pv 2))) vb_nil))))))), fun ds t Q E h => ?_⟩
  · obtain ⟨n, m, gs, rfl, _⟩ := h
    rfl
  · obtain ⟨n, m, gs, rfl, h0, h60, hgl, hm, hg, q⟩ := h
    obtain ⟨hou, ehou⟩ : ∃ hou, hou = houD n m := ⟨_, rfl⟩
    rw [← ehou]
    refine ⟨.inl 0, rfl, by decide, ?_⟩
    let I : List Nat → List Nat → Sl → Ev → Prop := fun fs ws s4 env => ∃ kvs s5 s6, env = [.fz hou, .fz (.lst (nsD gs)), .ow (.dK kvs), .ow (.lst (nsD ws)), s4, s5, s6] ∧ kvs.map (·.1) = fs.map (fun i : Nat => (Sum.inl (i : Int) : Key))
    have hfew : ∀ {fs ws : List Nat}, Wt m gs fs ws → fs.length ≤ n := fun h => few_of_nodup h.nd fun x hx => (h.rc x hx).lt h0 hm hg
    refine ⟨fun mm env t' => ∃ fs ws, mm = 2 * (61 - fs.length) + ws.length ∧ t' = t ∧ (∃ s4, I fs ws s4 env) ∧ Wt m gs fs ws, ⟨_, [0], [0], rfl, rfl, ⟨.no, _, .no, .no, rfl, rfl⟩, ⟨by simp, fun x hx => by rw [List.mem_singleton.mp hx]; exact .zero, by simp, fun x hx => hx, by simp, fun x hx hn => absurd hx hn⟩⟩, fun mm env t' hW => ?_⟩
    obtain ⟨fs, ws, rfl, rfl, ⟨s4, kvs, s5, s6, rfl, hk⟩, hW⟩ := hW
    refine ⟨⟨_, .inr ⟨_, rfl, rfl⟩⟩, by decide, _, rfl, _, .inr ⟨_, rfl, rfl⟩, dNeD_pl (pl_ns ws) rfl (dep_ns ws) (by decide) fun b hb => ⟨rfl, b, rfl, iteB (fun e => ?_) (fun e => ?_)⟩⟩
    · have hne : ws ≠ [] := fun z => (hb.mp e) (nsD_nil.mpr z)
      obtain ⟨ws', x0, rfl⟩ : ∃ l x, ws = l ++ [x] := ⟨_, _, (List.dropLast_concat_getLast hne).symm⟩
      have hx0 : x0 ∈ fs := hW.sb x0 (by simp)
      have hx0n : x0 < n := (hW.rc x0 hx0).lt h0 hm hg
      have hwn := hW.wn
      rw [List.nodup_append] at hwn
      have hx0w : x0 ∉ ws' := fun z => hwn.2.2 x0 z x0 (by simp) rfl
      have hfn := hfew hW
      refine ⟨⟨_, rfl⟩, _, rfl, nD x0, rfl, nsD_last, ?_⟩
      rw [nsD_dropLast]
      refine ⟨_, rfl, nsD gs, rfl, fun j env t3 => t3 = t' ∧ ∃ ext, I (fs ++ ext) (ws' ++ ext) (.fz (nD x0)) env ∧ (fs ++ ext).Nodup ∧ (∀ x ∈ fs ++ ext, Rch m gs x) ∧ ∀ g ∈ gs.take j, m x0 g ∈ fs ++ ext, ⟨rfl, [], ⟨kvs, s5, s6, by rw [List.append_nil]; rfl, by rw [List.append_nil]; exact hk⟩, by rw [List.append_nil]; exact hW.nd, by rw [List.append_nil]; exact hW.rc, fun g hg => by rw [List.take_zero] at hg; cases hg⟩, fun j x env t3 hx hP => ?_, fun env t3 hP => ?_⟩
      · obtain ⟨rfl, ext, ⟨kvs, s5, s6, rfl, hk⟩, hnd, hrc, hcl⟩ := hP
        unfold nsD at hx
        rw [List.getElem?_map] at hx
        obtain ⟨g, hg1, rfl⟩ := Option.map_eq_some_iff.mp hx
        have hgm := List.mem_of_getElem? hg1
        have hl : (fs ++ ext).length ≤ n := few_of_nodup hnd fun x hx => (hrc x hx).lt h0 hm hg
        have hkl : kvs.length = (fs ++ ext).length := by
          have := congrArg List.length hk
          rw [List.length_map, List.length_map] at this
          exact this
        have htk : ∀ g2 ∈ gs.take (j + 1), g2 ∈ gs.take j ∨ g2 = g := fun g2 h => by
          rw [take_snoc' hg1] at h
          rcases List.mem_append.mp h with h | h
          · exact .inl h
          · exact .inr (List.mem_singleton.mp h)
        have hmem : (valD kvs (Sum.inl ((m x0 g : Nat) : Int) : Key)).isSome = decide (m x0 g ∈ fs ++ ext) := by
          rw [valD_some, hk]
          exact decide_eq_decide.mpr keyN_mem
        refine ⟨⟨_, .inl rfl⟩, _, rfl, _, _, _, .inl (by rw [ehou]; rfl), rfl, hou_at hx0n, _, rfl, _, _, _, rfl, rfl, row_at (hg g hgm), ?_⟩
        refine ⟨_, rfl, _, .inl ⟨kvs, .inl ((m x0 g : Nat) : Int), rfl, rfl, rfl⟩, _, rfl, iteB (fun e2 => ?_) (fun e2 => ?_)⟩
        · have hnin : m x0 g ∉ fs ++ ext := by
            have e3 : (!(valD kvs (Sum.inl ((m x0 g : Nat) : Int) : Key)).isSome) = true := e2
            rw [hmem, Bool.not_eq_true', decide_eq_false_iff_not] at e3
            exact e3
          have hnk : (Sum.inl ((m x0 g : Nat) : Int) : Key) ∉ kvs.map (·.1) := by rw [hk, keyN_mem]; exact hnin
          refine ⟨.inl ⟨_, rfl⟩, _, rfl, .inl ⟨kvs, .inl ((m x0 g : Nat) : Int), rfl, rfl, by omega, ⟨_, rfl⟩, _, rfl, _, rfl, _, rfl, ?_, rfl, ext ++ [m x0 g], ⟨putD kvs (.inl ((m x0 g : Nat) : Int)) (.bl true), .fz (nD g), .fz (nD (m x0 g)), ?_, ?_⟩, ?_, fun x hx => ?_, fun g2 hg2 => ?_⟩⟩
          · have := few_of_nodup (n := n) (l := ws' ++ ext) ?_ fun x hx => ?_
            · rw [nsD_len]; omega
            · rw [List.nodup_append] at hnd ⊢
              exact ⟨hwn.1, hnd.2.1, fun a ha b hb => hnd.2.2 a (hW.sb a (List.mem_append_left _ ha)) b hb⟩
            · rcases List.mem_append.mp hx with hx | hx
              · exact (hW.rc x (hW.sb x (List.mem_append_left _ hx))).lt h0 hm hg
              · exact (hrc x (List.mem_append_right _ hx)).lt h0 hm hg
          · rw [nsD_app, ← List.append_assoc]
            rfl
          · rw [putD_new hnk, List.map_append, hk, ← List.append_assoc, List.map_append (l₁ := fs ++ ext)]
            rfl
          · rw [← List.append_assoc, List.nodup_append]
            exact ⟨hnd, by simp, fun a ha b hb z => hnin (by rw [List.mem_singleton.mp hb] at z; rw [← z]; exact ha)⟩
          · rw [← List.append_assoc] at hx
            rcases List.mem_append.mp hx with hx | hx
            · exact hrc x hx
            · rw [List.mem_singleton.mp hx]
              exact .step (hW.rc x0 hx0) hgm
          · rw [← List.append_assoc]
            rcases htk g2 hg2 with h | rfl
            · exact List.mem_append_left _ (hcl g2 h)
            · exact List.mem_append_right _ (List.mem_singleton.mpr rfl)
        · have hin : m x0 g ∈ fs ++ ext := by
            have e3 : (!(valD kvs (Sum.inl ((m x0 g : Nat) : Int) : Key)).isSome) = false := e2
            rw [hmem, Bool.not_eq_false', decide_eq_true_iff] at e3
            exact e3
          refine ⟨rfl, ext, ⟨kvs, _, _, rfl, hk⟩, hnd, hrc, fun g2 hg2 => ?_⟩
          rcases htk g2 hg2 with h | rfl
          · exact hcl g2 h
          · exact hin
      · obtain ⟨rfl, ext, ⟨kvs, s5, s6, rfl, hk⟩, hnd, hrc, hcl⟩ := hP
        rw [nsD_len, List.take_of_length_le (Nat.le_refl _)] at hcl
        have hl : (fs ++ ext).length ≤ n := few_of_nodup hnd fun x hx => (hrc x hx).lt h0 hm hg
        rw [List.length_append] at hl
        rw [List.nodup_append] at hnd
        refine ⟨_, by rw [List.length_append, List.length_append, List.length_append, List.length_singleton]; omega, fs ++ ext, ws' ++ ext, rfl, rfl, ⟨_, kvs, s5, s6, rfl, hk⟩, ⟨List.nodup_append.mpr hnd, hrc, List.mem_append_left _ hW.ze, fun x hx => ?_, ?_, fun x hx hnx g hg => ?_⟩⟩
        · rcases List.mem_append.mp hx with hx | hx
          · exact List.mem_append_left _ (hW.sb x (List.mem_append_left _ hx))
          · exact List.mem_append_right _ hx
        · rw [List.nodup_append]
          exact ⟨hwn.1, hnd.2.1, fun a ha b hb => hnd.2.2 a (hW.sb a (List.mem_append_left _ ha)) b hb⟩
        · rw [List.mem_append, not_or] at hnx
          rcases List.mem_append.mp hx with hx | hx
          · by_cases z : x = x0
            · rw [z]
              exact hcl g hg
            · exact List.mem_append_left _ (hW.cl x hx (by rw [List.mem_append, List.mem_singleton, not_or]; exact ⟨hnx.1, z⟩) g hg)
          · exact absurd hx hnx.2
    · have hnil : ws = [] := Classical.byContradiction fun z => by
        have := hb.mpr fun h => z (nsD_nil.mp h)
        rw [this] at e
        cases e
      subst hnil
      have hfn := hfew hW
      refine ⟨kvs, fs.map (fun i : Nat => (i : Int)), rfl, by rw [hk, List.map_map]; rfl, by rw [List.length_map]; omega, fun ns h1 h2 => ⟨_, rfl, _, rfl, flats_int ns, ?_⟩⟩
      obtain ⟨l, rfl, hpm⟩ := perm_cast h1
      rw [← nsD_ints]
      refine q l ⟨lt_of_le_nodup' h2 (hpm.nodup_iff.mpr hW.nd), fun x => ?_⟩
      rw [hpm.mem_iff, hW.all]
end
end K15
/-! generator expressions whose elements and tests may do what defs do -/
namespace HG
open PySem PySem.Spec PyProof.Rows L2 HM GenW
/-- the frame of a generator expression: A where it runs; s, H what stood when it was made; fp its iterator's objects; pn its own object -/
abbrev gx (X : Cx) (A : Around) (s : Shared) (H : Hp) (cenv : Env) (fp : List Addr) (pn : List (Addr × Obj)) : Cx :=
  { X with A := A, s_0 := s, H_0 := H, env := cenv, outer := X.stack, stack := cenv :: X.stack, ex := fp, fn := fun _ => false, pn := pn, xe := fun _ _ => False }
section
variable {X : Cx} {pins : List (Addr × Obj)} {σ : L2.St} {H : Hp} {s : Shared}
theorem gen_start {scope : Scope} {own : List (Str × Nat)} {fp : List Addr} {A : Around} {code : Value} {C : Addr} {pn ip : List (Addr × Obj)} {s2 : Shared} {m0 : Str → Option Value} (I : Inv X pins σ H s) (ok : BlkOk X.N X.env.scope scope own) (hN : X.N.Nodup) (nc : ∀ y ∈ scope.names, y.2 ≠ .cell)
    (hfp : ∀ b ∈ fp, FpOk X pins H b ∧ b < s.heap.objs.size) (hC : s.heap.objs.size ≤ C) (hA : X.calm = true → A.handled = none) (hfr : A.frames = some (genEnv scope (cloFrom X.env.cells scope.names []) C code builtinsNs X.env :: X.stack))
    (kp : ∀ b o, s.heap.get? b = some o → s2.heap.get? b = some o) (hns : s2.heap.Ns C m0) (os : s2.os = s.os) (bare : AllBare s2.gens)
    (hp : ∀ p ∈ pn ++ ip, s2.heap.get? p.1 = some p.2 ∧ H p.1 = none ∧ p.1 ≠ C ∧ p.1 ∉ frs X.stack ∧ ∀ v, p.2.data ≠ .cell v) :
    Inv (gx X A s H (genEnv scope (cloFrom X.env.cells scope.names []) C code builtinsNs X.env) fp pn) ip (wipe σ (own.map (·.2))) H s2 := by
  have hfree : ∀ y ∈ scope.names, y.2 = .free → ∃ c, X.env.cells.lookup y.1 = some c := fun y hy e => by
    rcases ok.free y hy e with k | k
    · exact I.ok.has _ (.inl k)
    · exact I.ok.has _ (.inr k)
  generalize hcenv : genEnv scope (cloFrom X.env.cells scope.names []) C code builtinsNs X.env = cenv at hfr
  have hL : cenv.locals = C := by rw [← hcenv]; rfl
  have hcl : cenv.cells = cloFrom X.env.cells scope.names [] := by rw [← hcenv]; rfl
  have hsc : cenv.scope = scope := by rw [← hcenv]; rfl
  have cm : ∀ {y c}, cenv.cells.lookup y = some c → X.env.cells.lookup y = some c ∧ c < s.heap.objs.size := fun {y c} e => by
    rw [hcl] at e
    rcases cloFrom_mem (PySem.mem_of_lookup e) with hm | ⟨h1, rfl⟩
    · cases hm
    · obtain ⟨c, hc⟩ := hfree _ h1 rfl
      rw [hc]
      obtain ⟨w, z⟩ := I.cell _ _ hc
      exact ⟨rfl, z.lt⟩
  have look : ∀ {y}, scope.names.lookup y = some .free → ∃ c, cenv.cells.lookup y = some c ∧ X.env.cells.lookup y = some c := fun {y} hl => by
    obtain ⟨c', e'⟩ := mem_lookup (cloFrom_has (cells := X.env.cells) (acc := []) (PySem.mem_of_lookup hl))
    rw [← hcl] at e'
    exact ⟨c', e', (cm e').1⟩
  have okB : (gx X A s H cenv fp pn).Ok := by
    refine ⟨I.ok.mod, by show cenv.scope.kind = _; rw [hsc]; exact ok.kind, by show cenv.globals = _; rw [← hcenv]; exact I.ok.glob, by show cenv.builtins = _; rw [← hcenv]; rfl, by show s.heap.objs.size ≤ cenv.locals; rw [hL]; exact hC,
      fun y z c e1 e2 => I.ok.inj y z c (cm e1).1 (cm e2).1, fun y hy => ?_, fun y c z _ => (by cases z), hA, hfr, .inr ⟨rfl, by show cenv.frame = some cenv.locals; rw [← hcenv]; rfl⟩, fun b hb => ⟨?_, fun y c e => (hfp b hb).1.2.2.2.2.1 y c (cm e).1⟩, I.bs, Nat.le_trans I.ok.bsz I.sz, fun b o e hb => ?_, fun b hb z => ?_, I.stack, I.stkFree⟩
    · show ∃ c, cenv.cells.lookup y = some c
      rcases hy with hy | hy
      · have hy : cenv.kindOf y = some .cell := hy
        unfold Env.kindOf at hy
        rw [hsc] at hy
        exact absurd rfl (nc _ (PySem.mem_of_lookup hy))
      · have hy : cenv.kindOf y = some .free := hy
        unfold Env.kindOf at hy
        rw [hsc] at hy
        obtain ⟨c, h1, _⟩ := look hy
        exact ⟨c, h1⟩
    · show b ≠ cenv.locals
      rw [hL]; exact Nat.ne_of_lt (Nat.lt_of_lt_of_le (hfp b hb).2 hC)
    · rcases (hfp b hb).1.2.2.2.1 with z | z
      · exact I.ok.noex b o e z
      · exact absurd (Nat.lt_of_lt_of_le (Heap.lt_size e) (Nat.le_trans I.ok.bsz z)) (Nat.lt_irrefl _)
    · rcases List.mem_cons.mp (I.stkSub b z) with z | z
      · exact (hfp b hb).1.2.1 z
      · exact (hfp b hb).1.2.2.1 z
  refine ⟨okB, os, bare, Un.kept kp, ⟨m0, by show s2.heap.Ns cenv.locals m0; rw [hL]; exact hns, fun i y av e1 e2 e3 => ?_⟩, fun y c e => ?_, ?_, fun y c e => I.freeC y c (cm e).1, fun p hp' => ?_, I.hok.kept kp, by rw [wipe_length]; exact I.len⟩
  · obtain ⟨e2, hne⟩ := wipe_some e2
    have hfr2 : scope.names.lookup y = some .free := by
      have e3 : Vis cenv.scope y := e3
      rw [hsc] at e3
      have no : ∀ {k : NameKind}, scope.names.lookup y = some k → ¬ (k = .local ∨ k = .cell) := fun {k} e hh => by
        rcases ok.own _ (PySem.mem_of_lookup e) hh with e' | e'
        · obtain ⟨p, hp, hpy⟩ := List.mem_map.mp e'
          have e3 := ok.ix p hp
          have : p.1 = y := hpy
          rw [this] at e3
          exact hne (List.mem_map.mpr ⟨p, hp, nodup_ix hN e3 e1⟩)
        · exact e' (List.mem_of_getElem? e1)
      rcases e3 with e3 | e3 | e3
      · exact absurd (.inl rfl) (no e3)
      · exact absurd (.inr rfl) (no e3)
      · exact e3
    obtain ⟨m, hn, hl⟩ := I.loc
    have hvis : Vis X.env.scope y := (ok.free _ (PySem.mem_of_lookup hfr2) rfl).elim (fun k => .inr (.inl k)) (fun k => .inr (.inr k))
    obtain ⟨w, r, q⟩ := hl i y av e1 e2 hvis
    refine ⟨w, r, .inr ⟨.inr (by show cenv.scope.names.lookup y = _; rw [hsc]; exact hfr2), ?_⟩⟩
    obtain ⟨c, h1, h2⟩ := look hfr2
    rcases q with ⟨k, _⟩ | ⟨_, c', e', z⟩
    · have k : X.env.scope.names.lookup y = some .local := k
      rcases ok.free _ (PySem.mem_of_lookup hfr2) rfl with k' | k' <;> rw [show X.env.scope.names.lookup y = _ from k'] at k <;> cases k
    · rw [h2] at e'; cases e'
      exact ⟨c, h1, z.keeps kp⟩
  · obtain ⟨w, z⟩ := I.cell y c (cm e).1
    exact ⟨w, z.keeps kp⟩
  · show H cenv.locals = none
    rw [hL]; exact I.hok.fresh hC
  · obtain ⟨p1, p2, p3, p4, p5⟩ := hp p hp'
    exact ⟨p1, p2, by show p.1 ≠ cenv.locals; rw [hL]; exact p3, p4, p5⟩
end
end HG
namespace HG
open PySem PySem.Spec PyProof.Rows L2 HM GenW
section
variable {X : Cx}
abbrev geLoop (elt tg iter : Expr) (ifs : List Expr) (scope : Scope) (pos : Pos) (it : Addr) (cenv : Env) : Code := .compLoop (.GeneratorExp elt [⟨tg, iter, ifs, 0⟩] scope pos) 0 (.ref it) .none cenv
theorem over_frames {A : Around} {elt tg iter : Expr} {ifs : List Expr} {scope : Scope} {pos : Pos} {it : Addr} {cenv : Env} {l : List Env} (h : A.frames = some l) : (A.over (geLoop elt tg iter ifs scope pos it cenv) []).frames = some (cenv :: l) := by
  show pushEnvs [cenv] (pushEnvs [] A.frames) = _
  rw [h]
  rfl
theorem over_room {A : Around} {elt tg iter : Expr} {ifs : List Expr} {scope : Scope} {pos : Pos} {it : Addr} {cenv : Env} {k : Nat} (r : Room (k + 1) A) : Room k (A.over (geLoop elt tg iter ifs scope pos it cenv) []) :=
  ⟨r.hd, by have := r.dp; show A.depth + 0 + 1 + 3 * k + 5 < _; omega, by have := r.un; show A.units + 0 + 3 + 16 * k + 200 < _; omega⟩
theorem seg_geLoop {elt tg iter : Expr} {ifs : List Expr} {scope : Scope} {pos : Pos} {it : Addr} {fp : List Addr} {tn : Nat → Heap → Prop} {J : It} {A : Around} {sc : Shared} {Hc : Hp} {cenv : Env} {a S : Addr} {g : Nat} {go : Obj} {σ : L2.St} {vs : List Nat} {cont : List V → Hp → Prop} {gt : TG} {tt : TT} {te : TE} {W : Nat → Nat → List V → Hp → Prop} {E : XK}
    (hc : X.calm = true) (hco : cenv.scope.isCoroutine = false) (T : Turn X.prog X.w X.K tg J fp it tn)
    (pg : PG (gx X (A.over (geLoop elt tg iter ifs scope pos it cenv) []) sc Hc cenv fp [(a, go)]) tg gt) (pt : PTs (gx X (A.over (geLoop elt tg iter ifs scope pos it cenv) []) sc Hc cenv fp [(a, go)]) ifs tt) (pe : PE (gx X (A.over (geLoop elt tg iter ifs scope pos it cenv) []) sc Hc cenv fp [(a, go)]) elt te)
    (hgo : ∀ h : Heap, h.get? a = some go → h.IsGen a g) (haS : a ≠ S) (hfa : ∀ b ∈ fp, b ≠ a ∧ b ≠ S) (hAp : Apart (gx X (A.over (geLoop elt tg iter ifs scope pos it cenv) []) sc Hc cenv fp [(a, go)]) S)
    (turn : ∀ i m ys H, W i m ys H → (J.stop i H ∧ cont ys H) ∨ (J.go i H ∧ ∃ Nx : List V → Hp → Prop, (∀ ys' H', Nx ys' H' → ∃ m', m' < m ∧ W (i + 1) m' ys' H') ∧ ∀ x H', J.yld i H x H' → gt x (wipe σ vs) H' fun σ2 H2 => wipe σ2 vs = wipe σ vs ∧ tt σ2 H2 fun b H3 =>
      if b = true then te σ2 H3 fun y H4 => ys.length < sizeLine ∧ Nx (ys ++ [y]) H4 else Nx ys H3)) :
    ∀ (m i n : Nat) (ys : List V) (H : Hp) (s₀ s : Shared), n + ys.length = sizeLine → GI (gx X (A.over (geLoop elt tg iter ifs scope pos it cenv) []) sc Hc cenv fp [(a, go)]) S [] ys (wipe σ vs) H s → tn i s.heap → (∀ b ∈ fp, H b = none) → W i m ys H →
      Seg (model X.prog X.w) A (REnd X.prog X.w X.stack Hc sc fp S a g cont E) (YItem sc S a g) n s₀ (geLoop elt tg iter ifs scope pos it cenv) ((model X.prog X.w).den (geLoop elt tg iter ifs scope pos it cenv)) [] s := by
  generalize hXg : gx X (A.over (geLoop elt tg iter ifs scope pos it cenv) []) sc Hc cenv fp [(a, go)] = Xg at pg pt pe hAp
  have xA : Xg.A = A.over (geLoop elt tg iter ifs scope pos it cenv) [] := by rw [← hXg]
  have xP : Xg.prog = X.prog := by rw [← hXg]
  have xw : Xg.w = X.w := by rw [← hXg]
  have xK : Xg.K = X.K := by rw [← hXg]
  have xc : Xg.calm = true := by rw [← hXg]; exact hc
  have xpn : Xg.pn = [(a, go)] := by rw [← hXg]
  have xex : Xg.ex = fp := by rw [← hXg]
  have xenv : Xg.env = cenv := by rw [← hXg]
  have xxe : ∀ e s, ¬ Xg.xe e s := fun e s z => by rw [← hXg] at z; exact z
  have stat : ∀ {σ' : L2.St} {H' : Hp} {s' : Shared} {ip : List (Addr × Obj)}, Inv Xg ip σ' H' s' → (∀ b ∈ fp, H' b = none) → (∀ p ∈ ip, ∀ b ∈ fp, p.1 ≠ b) → ∀ b ∈ fp, FpOk Xg ip H' b := fun {σ' H' s' ip} I' hn hi b hb =>
    ⟨hn b hb, (I'.ok.exf b (by rw [xex]; exact hb)).1, I'.ok.exfs b (by rw [xex]; exact hb), .inl (by rw [xex]; exact hb), fun x c e => (I'.ok.exf b (by rw [xex]; exact hb)).2 x c e, fun p hp => by
      rcases List.mem_append.mp hp with z | z
      · rw [xpn] at z
        rw [List.mem_singleton.mp z]
        exact Ne.symm (hfa b hb).1
      · exact hi p z b hb⟩
  have hpn : ∀ p ∈ Xg.pn, p.1 ≠ S := fun p hp => by
    rw [xpn] at hp
    rw [List.mem_singleton.mp hp]
    exact haS
  intro m
  induction m using Nat.strongRecOn with
  | ind m ih =>
  intro i n ys H s₀ s hn hI st hfn w
  show Seg _ A _ _ _ s₀ _ ((compTurn (.GeneratorExp elt [⟨tg, iter, ifs, 0⟩] scope pos) 0 (.ref it) .none cenv).onRaise (leaving cenv)) [] s
  rw [compTurn_gen, Sem.onRaise_eq_wrap]
  refine seg_bind_wrap (wpAny_standAt ?_)
  obtain ⟨hS0, hSL, hSf, _⟩ := hI.at
  obtain ⟨acc, c, ra, I⟩ := hI
  have hip : ∀ p ∈ [(S, lstObj acc c)], ∀ b ∈ fp, p.1 ≠ b := fun p hp b hb => by rw [List.mem_singleton.mp hp]; exact Ne.symm (hfa b hb).2
  rcases turn i m ys H w with ⟨stop, qq⟩ | ⟨gof, Nx, hNx, step⟩
  · have td := T.done Xg xP xw xK xc i [(S, lstObj acc c)] s _ H (fun _ _ => False) I (stat I hfn hip) st stop
    rw [xA] at td
    refine seg_bind_wrap (wpAny_mono td (fun r s6 ⟨hr, I6⟩ => ?_) fun _ _ e => e.elim)
    subst hr
    have e6 : s6.heap.get? S = some (lstObj acc c) := (I6.pin (S, lstObj acc c) (List.mem_append_right _ List.mem_cons_self)).1
    refine seg_end (.ok .next) (.inl ⟨.inr rfl, H, ys, acc, c, ?_, I6.bare, ?_, ?_, hS0, e6, ra, by omega, qq⟩)
    · have := I6.os; rw [← hXg] at this; exact this
    · have := I6.base; rw [← hXg] at this; exact this
    · have := I6.hok; rw [← hXg] at this; exact this
  · have ti := T.item Xg xP xw xK xc i [(S, lstObj acc c)] s _ H (fun _ _ => False) I (stat I hfn hip) st gof
    rw [xA] at ti
    refine seg_bind_wrap (wpAny_mono ti (fun r s6 ⟨u, hr, h6⟩ => ?_) fun _ _ e => e.elim)
    subst hr
    refine seg_bind_wrap (wpAny_mono h6 (fun _ s7 ⟨x, H7, I7, r7, y7, st7, n7⟩ => ?_) fun _ _ e => e.elim)
    have I7' := I7.pinned (stat I7 n7 hip) (T.obj _ _ st7)
    have g1 := pg.run _ s7 _ H7 x u _ I7' r7 (step x H7 y7)
    rw [xA, xP, xw, xenv] at g1
    refine seg_bind_wrap (wpAny_mono g1 (fun _ s8 ⟨σ8, H8, I8, hw8, q8⟩ => ?_) fun e s' z => absurd z (xxe e s'))
    have g2 := pt.run _ s8 σ8 H8 _ I8 q8
    rw [xA, xP, xw, xenv] at g2
    refine seg_bind_wrap (wpAny_mono g2 (fun b s9 ⟨H9, I9, q9⟩ => ?_) fun e s' z => absurd z (xxe e s'))
    have hfpS : ∀ p ∈ pinsAt fp s7.heap, p.1 ≠ S := fun p hp => (hfa p.1 (of_pinsAt hp).1).2
    -- the turn's end
    have fin : ∀ {s' : Shared} {H' : Hp} {ys' : List V}, GI Xg S (pinsAt fp s7.heap) ys' σ8 H' s' → Nx ys' H' → ∀ (n : Nat) (s₀ : Shared), n + ys'.length = sizeLine →
        Seg (model X.prog X.w) A (REnd X.prog X.w X.stack Hc sc fp S a g cont E) (YItem sc S a g) n s₀ (geLoop elt tg iter ifs scope pos it cenv) ((model X.prog X.w).den (geLoop elt tg iter ifs scope pos it cenv)) [] s' := fun {s' H' ys'} hI' nx n s₀ hn' => by
      obtain ⟨m', hm, w'⟩ := hNx ys' H' nx
      obtain ⟨acc', c', ra', I'⟩ := hI'
      have pin' : ∀ b ∈ fp, ∀ o, s7.heap.get? b = some o → s'.heap.get? b = some o ∧ H' b = none := fun b hb o e =>
        let z := I'.pin (b, o) (List.mem_append_right _ (List.mem_cons_of_mem _ (mem_pinsAt hb e)))
        ⟨z.1, z.2.1⟩
      have hl : (wipe σ vs).length = σ8.length := by rw [← hw8, wipe_length]
      have I'' : Inv Xg [(S, lstObj acc' c')] σ8 H' s' := I'.pins_of fun p hp => I'.pin p (List.mem_append_right _ (by rw [List.mem_singleton.mp hp]; exact List.mem_cons_self))
      refine ih m' hm (i + 1) n ys' H' s₀ s' hn' ⟨acc', c', ra', I''.weak hl fun j v e => ?_⟩ (T.keep _ _ _ st7 fun b hb o e => (pin' b hb o e).1) (fun b hb => ?_) w'
      · rw [← hw8] at e
        exact (wipe_some e).1
      · obtain ⟨o, e, _⟩ := T.obj _ _ st7 b hb
        exact (pin' b hb o e).2
    cases b with
    | false =>
      simp only [Bool.false_eq_true, if_false] at q9 ⊢
      exact seg_again rfl (fin ⟨acc, c, ra, I9⟩ q9 n s₀ hn)
    | true =>
      simp only [if_true] at q9 ⊢
      have hy : ∀ v, yieldOut cenv v = yieldValue v := fun v => by simp only [yieldOut, hco, Bool.false_eq_true, if_false]
      simp only [hy]
      rw [Sem.bind_eq_wrap', Sem.bind_eq_wrap', Sem.wrap_wrap, Sem.wrap_wrap]
      have g3 := pe.run _ s9 σ8 H9 _ I9 q9
      rw [xA, xP, xw, xenv] at g3
      refine seg_wrap (wpAny_mono g3 (fun z s10 ⟨yv, H10, I10, r10, hlt, nx⟩ => ?_) fun e s' z => absurd z (xxe e s'))
      obtain ⟨n', rfl⟩ : ∃ n', n = n' + 1 := ⟨n - 1, by omega⟩
      have e10 : s10.heap.get? S = some (lstObj acc c) := (I10.pin (S, lstObj acc c) (List.mem_append_right _ List.mem_cons_self)).1
      have ea : s10.heap.get? a = some go := (I10.pin (a, go) (List.mem_append_left _ (by rw [xpn]; exact List.mem_cons_self))).1
      have hsz : acc.size = ys.length := by
        have e1 := ra.length
        have e2 : acc.toList.length = acc.size := by simp
        omega
      refine seg_at (seg_yield rfl rfl rfl ⟨?_, I10.bare, I10.nolimit, hgo _ ea, ⟨acc, c, e10, by omega⟩, fun s'' slept => ?_⟩)
      · have := I10.os; rw [← hXg] at this; exact this
      · exact seg_again rfl (fin (GI.woken hpn hfpS hAp ⟨acc, c, ra, I10⟩ r10 slept) nx n' s'' (by rw [List.length_append, List.length_singleton]; omega))
end
end HG
namespace HG
open PySem PySem.Spec PyProof.Rows L2 HM GenW
/-- what a generator expression will hand out: W by the turn, a measure, what is out; the table at P may have grown -/
def tGe (P : Addr) (wi : TI) (g : TG) (tt : TT) (te : TE) (vs : List Nat) : TGen := fun σ H cont => wi σ H fun J H1 => GxR.TabG H1 P ∧ ∀ H2, GxR.Tabbed P H1 H2 → ∃ W : Nat → Nat → List V → Hp → Prop, (∃ m, W 0 m [] H2) ∧ ∀ i m ys H, W i m ys H →
  (J.stop i H ∧ cont ys H) ∨ (J.go i H ∧ ∃ Nx : List V → Hp → Prop, (∀ ys' H', Nx ys' H' → ∃ m', m' < m ∧ W (i + 1) m' ys' H') ∧ ∀ x H', J.yld i H x H' → g x (wipe σ vs) H' fun σ2 H2 => wipe σ2 vs = wipe σ vs ∧ tt σ2 H2 fun b H3 =>
    if b = true then te σ2 H3 fun y H4 => ys.length < sizeLine ∧ Nx (ys ++ [y]) H4 else Nx ys H3)
/-- the names of a generator expression's frame -/
structure GeS (scope : Scope) : Prop where
  co : scope.isCoroutine = false
  cell : ∀ y ∈ scope.names, y.2 ≠ .cell
  dot : scope.names.lookup (".0" : Str) = some NameKind.local
section
variable {X : Cx}
theorem seg_geStart {A : Around} {R : GenEnd} {Y : Protocol} {n : Nat} {s₀ s : Shared} {elt tg iter : Expr} {ifs : List Expr} {scope : Scope} {pos : Pos} {it : Addr} {cenv : Env} {fp : List Addr} {tn : Nat → Heap → Prop} {J : It}
    (T : Turn X.prog X.w X.K tg J fp it tn) (st : tn 0 s.heap) (loop : Seg (model X.prog X.w) A R Y n s₀ (geLoop elt tg iter ifs scope pos it cenv) ((model X.prog X.w).den (geLoop elt tg iter ifs scope pos it cenv)) [] s) :
    Seg (model X.prog X.w) A R Y n s₀ (.compStart (.GeneratorExp elt [⟨tg, iter, ifs, 0⟩] scope pos) 0 (.ref it) .none cenv) ((model X.prog X.w).den (.compStart (.GeneratorExp elt [⟨tg, iter, ifs, 0⟩] scope pos) 0 (.ref it) .none cenv)) [] s := by
  show Seg _ A _ _ _ s₀ _ ((compStart (.GeneratorExp elt [⟨tg, iter, ifs, 0⟩] scope pos) 0 (.ref it) .none cenv).onRaise (leaving cenv)) [] s
  unfold compStart
  rw [Sem.onRaise_eq_wrap]
  show Seg _ A _ _ _ s₀ _ ((ask >>= _).wrap _ _ _ _) [] s
  refine seg_bind_wrap (wpAny_askSetting ?_)
  split
  · exact seg_again rfl loop
  · first
      | exact seg_bind_wrap (wpAny_rule (seg_bind_wrap (wpAny_standAt (seg_bind_wrap (T.self _ 0 s _ _ st (seg_again rfl loop))))))
      | (refine seg_bind_wrap (wpAny_rule ?_); show Seg _ A _ _ _ s₀ _ ((standAt iter.pos >>= _).wrap _ _ _ _) [] s; exact seg_bind_wrap (wpAny_standAt (seg_bind_wrap (T.self _ 0 s _ _ st (seg_again rfl loop)))))
/-- THE RULE: a generator expression, not begun -/
theorem pgen_ge {c P : Addr} {elt tg iter : Expr} {ifs : List Expr} {scope : Scope} {own : List (Str × Nat)} {gpos : Pos} {wi : TI} {gt : TG} {tt : TT} {te : TE} {k j : Nat} {E : XK}
    (hc : X.calm = true) (hN : X.N.Nodup) (hr : Room j X.A) (TB : GxR.TabB X.base X.mg c P) (hcode : X.env.code = .ref c) (ok : BlkOk X.N X.env.scope scope own) (Sc : GeS scope) (hi : PI X tg iter wi)
    (hg : ∀ (A : Around) (s : Shared) (H : Hp) (C : Addr) (code : Value) (fp : List Addr) (pn : List (Addr × Obj)), PG (gx X A s H (genEnv scope (cloFrom X.env.cells scope.names []) C code builtinsNs X.env) fp pn) tg gt)
    (ht : ∀ (A : Around) (s : Shared) (H : Hp) (C : Addr) (code : Value) (fp : List Addr) (pn : List (Addr × Obj)), Room k A → PTs (gx X A s H (genEnv scope (cloFrom X.env.cells scope.names []) C code builtinsNs X.env) fp pn) ifs tt)
    (he : ∀ (A : Around) (s : Shared) (H : Hp) (C : Addr) (code : Value) (fp : List Addr) (pn : List (Addr × Obj)), Room k A → PE (gx X A s H (genEnv scope (cloFrom X.env.cells scope.names []) C code builtinsNs X.env) fp pn) elt te)
    (hs : ∀ v, genFold iter X.env v = pure v := by intro _; rfl) : PGen X (k + 1) (.GeneratorExp elt [⟨tg, iter, ifs, 0⟩] scope gpos) (tGe P wi gt tt te (own.map (·.2))) E := by
  refine ⟨fun pins s σ H cont I h => ?_⟩
  have hfree : ∀ y ∈ scope.names, y.2 = .free → ∃ c, X.env.cells.lookup y.1 = some c := fun y hy e => by
    rcases ok.free y hy e with k | k
    · exact I.ok.has _ (.inl k)
    · exact I.ok.has _ (.inr k)
  refine wpAny_GeneratorExp_make Sc.co (closure_ok hfree) Sc.cell Sc.dot ok.kind (by have := hr.dp; omega) (L2.thn (hi.run pins s σ H _ I h) fun xv s1 hx => L2.thn hx fun itv s2 h2 => ?_) hs
  obtain ⟨it, fp, tn, J, H2, e, I2, T, st2, f2, ⟨ps, hP, htr⟩, q⟩ := h2
  subst e
  have hPs : s2.heap.get? P = some { cls := .none, data := .fields ps } := I2.hok P _ hP
  have cd : PySem.W.CodeHd s2.heap c P := TB.code.keeps fun b u e => I2.bk b u e
  refine ⟨I2.nolimit, ?_⟩
  have sz : ∀ b ∈ fp, b < s2.heap.objs.size := fun b hb => by
    obtain ⟨o, e, _⟩ := T.obj _ _ st2 b hb
    exact Heap.lt_size e
  have key : ∀ (code : Value) (h3 : Heap) (tk : Nat) (more : Array Value), Heap.ExtBut P s2.heap h3 → s2.heap.objs.size ≤ h3.objs.size → h3.get? P = some { cls := .none, data := .fields (ps ++ more) } → TriplesOk (ps ++ more).toList →
      wpAny (model X.prog X.w) X.A (builtinsFor X.env.globals X.env.builtins) (fun bi s₄ =>
        ∀ h', h'.Ns s₄.heap.objs.size (fun y => if y = ".0" then some (.ref it) else none) → Heap.SameBut s₄.heap.objs.size (s₄.heap.push { cls := .type "frame", data := .dict #[] }) h' →
          ∃ H1 sc ex, Inv X pins σ H1 sc ∧ ExOk X pins ex ∧ GMade X.prog X.w (k + 1) X.stack H1 sc ex cont E (.ref h'.objs.size) { s₄ with
            gens := s₄.gens.push (.fresh (.compStart (.GeneratorExp elt [⟨tg, iter, ifs, 0⟩] scope gpos) 0 (.ref it) .none (genEnv scope (cloFrom X.env.cells scope.names []) s₄.heap.objs.size code bi X.env))),
            toks := s₄.toks + 1 + 1 + 1,
            heap := h'.push { cls := .type "generator", data := .fields #[.int s₄.gens.size 0, .str "<genexpr>" (s₄.toks + 1), .str (X.env.qual ++ "<genexpr>") (s₄.toks + 1 + 1)] } }) X.xe { s2 with heap := h3, toks := tk } := by
    intro code h3 tk more hx hsz hP3 ht3
    obtain ⟨bm, ob, e1, e2, e3, e4, e5, e6, e7, e8⟩ := TB.bm
    refine wpAny_builtinsFor (m := X.mg) (by rw [I2.ok.glob]; exact ((I2.mod.glob.keeps I2.bk)).extBut hx TB.gP) e1 e2 (hx _ _ e4 (I2.bk _ _ e5)) e6 e7 e8 ?_
    intro h' hn' hs'
    have J3 : Inv X pins σ (upd H2 P (.tbl (ps ++ more))) { s2 with heap := h3, toks := tk } := GxR.inv_tab (more := more) (h' := h3) (g' := s2.gens) (d' := s2.drawn) (t' := tk) I2 hP (fun b u hb e => hx b u hb e) hP3 I2.bare
    generalize hs4 : ({ s2 with heap := h3, toks := tk } : Shared) = s4 at J3 hn' hs' ⊢
    have h4 : s4.heap = h3 := by rw [← hs4]
    have g4 : s4.gens = s2.gens := by rw [← hs4]
    generalize hH3 : upd H2 P (.tbl (ps ++ more)) = H3 at J3
    obtain ⟨W, ⟨m0, w0⟩, turn⟩ := q H3 (by rw [← hH3]; exact ⟨⟨ps ++ more, upd_same, ht3⟩, fun b hb => upd_ne hb⟩)
    have bP : ∀ b ∈ fp, b ≠ P := fun b hb z => by
      have := (f2 b hb).1
      rw [z, hP] at this
      cases this
    have n3 : ∀ b ∈ fp, H3 b = none := fun b hb => by rw [← hH3, upd_ne (bP b hb)]; exact (f2 b hb).1
    have hsz' : h'.objs.size = s4.heap.objs.size + 1 := by rw [hs'.1, Heap.size_push]
    have keep' : ∀ b o, s4.heap.get? b = some o → h'.get? b = some o := fun b o e => hs'.extBut b o (Nat.ne_of_lt (Heap.lt_size e)) (Heap.get?_push_of_some _ e)
    generalize hgo : ({ cls := .type "generator", data := .fields #[.int s4.gens.size 0, .str "<genexpr>" (s4.toks + 1), .str (X.env.qual ++ "<genexpr>") (s4.toks + 1 + 1)] } : Obj) = go
    have keep5 : ∀ b o, s4.heap.get? b = some o → (h'.push go).get? b = some o := fun b o e => Heap.get?_push_of_some _ (keep' b o e)
    have hpush : (h'.push go).get? h'.objs.size = some go := Heap.get?_push_size _ (by rw [← hgo]; rfl)
    have hgen : ∀ h : Heap, h.get? h'.objs.size = some go → h.IsGen h'.objs.size s4.gens.size := fun h e => ⟨go, _, _, e, by rw [← hgo], by rw [← hgo], by rw [← hgo]⟩
    refine ⟨H3, s4, fp, J3, fun b hb => ⟨(f2 b hb).2.2.2.1, (f2 b hb).2.1, (f2 b hb).2.2.2.2.1, (f2 b hb).2.2.2.2.2⟩, h'.objs.size, s4.gens.size, _, rfl, by omega, ?_, hgen _ hpush, Array.getElem?_push_size .., rfl, AllBare.push J3.bare rfl, J3.nolimit.keeps keep5, keep5, ?_⟩
    · show _ < (h'.push go).objs.size
      rw [Heap.size_push]; exact Nat.lt_succ_self _
    intro Aw S s6 hrw hfr hS hk6 hSo hos hba
    have hSz : h'.objs.size < S := by
      have z : (h'.push go).objs.size ≤ S := hS
      rw [Heap.size_push] at z
      exact z
    obtain ⟨cS, heS⟩ := hSo
    have h4' : s4.heap.objs.size < h'.objs.size := by omega
    have hS4 : s4.heap.objs.size < S := Nat.lt_trans h4' hSz
    have kp6 : ∀ b o, s4.heap.get? b = some o → s6.heap.get? b = some o := fun b o e => hk6 b o (keep5 b o e)
    have nfr : ∀ b, s4.heap.objs.size ≤ b → b ∉ frs X.stack := fun b hb z => by
      obtain ⟨_, o, e, _⟩ := J3.stack.mem z
      exact absurd (Nat.lt_of_lt_of_le (Heap.lt_size e) hb) (Nat.lt_irrefl _)
    have hfp4 : ∀ b ∈ fp, FpOk X pins H3 b ∧ b < s4.heap.objs.size := fun b hb => ⟨⟨n3 b hb, (f2 b hb).2⟩, Nat.lt_of_lt_of_le (sz b hb) (by rw [h4]; exact hsz)⟩
    have I6 : Inv (gx X (Aw.over (geLoop elt tg iter ifs scope gpos it (genEnv scope (cloFrom X.env.cells scope.names []) s4.heap.objs.size code builtinsNs X.env)) []) s4 H3 (genEnv scope (cloFrom X.env.cells scope.names []) s4.heap.objs.size code builtinsNs X.env) fp [(h'.objs.size, go)]) [(S, lstObj #[] cS)] (wipe σ (own.map (·.2))) H3 s6 := by
      refine gen_start J3 ok hN Sc.cell hfp4 (Nat.le_refl _) (fun _ => hrw.hd) (over_frames hfr) kp6 ((hn'.push go).keeps hk6) hos hba fun p hp => ?_
      rcases List.mem_append.mp hp with z | z
      · rw [List.mem_singleton.mp z]
        exact ⟨hk6 _ _ hpush, J3.hok.fresh (by omega), by show h'.objs.size ≠ s4.heap.objs.size; omega, nfr _ (by omega), fun v z2 => by rw [← hgo] at z2; cases z2⟩
      · rw [List.mem_singleton.mp z]
        exact ⟨heS, J3.hok.fresh (Nat.le_of_lt hS4), Nat.ne_of_gt hS4, nfr _ (Nat.le_of_lt hS4), fun v z2 => by cases z2⟩
    have st6 : tn 0 s6.heap := T.keep _ _ _ st2 fun b hb o e => kp6 b o (by rw [h4]; exact hx b o (bP b hb) e)
    refine seg_geStart T st6 (seg_geLoop (W := W) (σ := σ) (vs := own.map (·.2)) hc Sc.co T (hg _ _ _ _ _ _ _) (ht _ _ _ _ _ _ _ (over_room hrw)) (he _ _ _ _ _ _ _ (over_room hrw)) hgen (Nat.ne_of_lt hSz) (fun b hb => ?_) ⟨Nat.le_of_lt hS4, Nat.ne_of_gt hS4, fun y c e z => ?_⟩ turn m0 0 sizeLine [] H3 s6 s6 (Nat.add_zero _) ⟨#[], cS, .nil, I6⟩ st6 n3 w0)
    · have := (hfp4 b hb).2
      exact ⟨Nat.ne_of_lt (Nat.lt_trans this h4'), Nat.ne_of_lt (Nat.lt_trans this hS4)⟩
    · have e : (cloFrom X.env.cells scope.names []).lookup y = some c := e
      rcases cloFrom_mem (PySem.mem_of_lookup e) with hm | ⟨h1, rfl⟩
      · cases hm
      · obtain ⟨c, hc2⟩ := hfree _ h1 rfl
        rw [hc2] at z
        obtain ⟨v, zc⟩ := J3.cell _ _ hc2
        have h5 := zc.lt
        have z : c = S := z
        rw [z] at h5
        exact absurd (Nat.lt_trans h5 hS4) (Nat.lt_irrefl _)
  cases hf : codeAmong gpos ps.toList with
  | some cv =>
    refine wpAny_genexprCode_hit hcode (cd.code hPs htr) hf ?_
    have e0 : ps ++ (#[] : Array Value) = ps := by simp
    exact key cv s2.heap s2.toks #[] (Heap.ExtBut.refl _ _) (Nat.le_refl _) (by rw [e0]; exact hPs) (by rw [e0]; exact htr)
  | none =>
    refine wpAny_genexprCodeX hcode (cd.code hPs htr) (cd.tab hPs) hf fun c' h' tk hx hge hlt hco' _ htab' _ => ?_
    obtain ⟨o1, vs, f1, tf, fl, tgv, inF, tx, tt', op, _, _, _, _, _, _, _, _, _, htr', _⟩ := hco'
    exact key _ h' tk _ hx (Nat.le_trans hge (Nat.le_of_lt hlt)) htab'.2 htr'
end
end HG
namespace HG
open PySem PySem.Spec PyProof.Rows L2 HM GenW
abbrev noX : XK := fun _ _ _ => False
/-- all that a generator hands out -/
theorem collect_made {P : Program} {w : World} {outer : List Env} {H : Hp} {sc s : Shared} {ex : List Addr} {Q : List V → Hp → Prop} {A : Around} {k : Nat} {u : Value} {Q' : List Value → Shared → Prop} {E : Value → Shared → Prop}
    (hr : Room (k + 3) A) (hfr : A.frames = some outer) (h : GMade P w k outer H sc ex Q noX u s)
    (hQ : ∀ S s' acc c H' ys, s.heap.objs.size ≤ S → s'.heap.get? S = some (lstObj acc c) → Vals ys acc.toList → ys.length ≤ sizeLine → s'.os = sc.os → AllBare s'.gens → Un (frs outer) ex H H' sc.heap s'.heap → HOk P w H' s'.heap → H' S = none → Q ys H' → Q' acc.toList s') :
    wpAny (model P w) A (collect u) Q' E s := by
  obtain ⟨a, g, c, rfl, ha1, ha2, hg, hgs, hos, hb, hl, hkp, wake⟩ := h
  have hSa : s.heap.objs.size ≠ a := Nat.ne_of_gt ha2
  have hcl : cStatics < s.heap.objs.size := let ⟨_, hn, _⟩ := hl; hn.lt
  have hSc : s.heap.objs.size ≠ cStatics := Nat.ne_of_gt hcl
  unfold collect
  refine wpAny_bind (wpAny_runValue (codeAny_builtin F.entry_proto_collect ?_))
  rw [Around.under_plainId F.plain_proto_collect _]
  show wpAny _ A.in1 (newList [] >>= fun l => again (.builtin "list.__iadd__" ⟨[l, .ref a], []⟩)) _ _ s
  refine wpAny_bind (wpAny_newObj_type ?_)
  refine wpAny_pure ⟨plainId_quiet F.plain_list_iadd _, codeAny_builtin F.entry_list_iadd ?_⟩
  rw [Around.under_plainId F.plain_list_iadd _]
  have hS : (s.heap.push { cls := .type "list", data := .seq ([] : List Value).toArray }).get? s.heap.objs.size = some { cls := .type "list", data := .seq ([] : List Value).toArray } := Heap.get?_push_size _ rfl
  show wpAny _ A.in1 (Builtin.List.listExtendWith (.ref s.heap.objs.size) (.ref a) (.ref s.heap.objs.size)) _ _ _
  unfold Builtin.List.listExtendWith
  have up : ∀ (h : Heap) (f : Obj → Obj), (∀ b o, s.heap.get? b = some o → h.get? b = some o) → ∀ b o, s.heap.get? b = some o → (h.update s.heap.objs.size f).get? b = some o := fun h f q b o e =>
    (Heap.get?_update_other _ _ (Ne.symm (Nat.ne_of_lt (Heap.lt_size e)))).trans (q b o e)
  have k1 : ∀ b o, s.heap.get? b = some o → (s.heap.push { cls := .type "list", data := .seq ([] : List Value).toArray }).get? b = some o := fun b o e => Heap.get?_push_of_some _ e
  have gty : ∀ {h : Heap}, (∀ b o, s.heap.get? b = some o → h.get? b = some o) → h.IsGen a g := fun {h} q => hg.keeps q
  refine wpAny_bind (wpAny_typeOf (Heap.IsGen.typeIs (s := { s with heap := _ }) (gty k1)) ?_)
  have h1 : Builtin.List.listSameRef (.ref s.heap.objs.size) (.ref a) = false := by simp [Builtin.List.listSameRef, hSa]
  have h2 : (Value.type "generator" == Value.type "list") = false := by decide
  have h3 : (Value.type "generator" == Value.type "tuple") = false := by decide
  simp only [h1, h2, h3, Bool.or_false, Bool.false_eq_true, if_false]
  refine wpAny_bind (wpAny_pyIter_gen (s := { s with heap := _ }) (gty k1) ?_)
  refine wpAny_bind (wpAny_holding ?_)
  unfold Builtin.List.listLengthHint
  refine wpAny_bind (wpAny_specialOf (Heap.IsGen.typeIs (s := { s with heap := _ }) (gty k1)) F.gen_no_len ?_)
  show wpAny _ A.in1 (specialOf (Value.ref a) (Str.ofString "__length_hint__") >>= _) _ _ _
  refine wpAny_bind (wpAny_specialOf (Heap.IsGen.typeIs (s := { s with heap := _ }) (gty k1)) F.gen_no_hint ?_)
  refine wpAny_pure ?_
  show wpAny _ A.in1 (rule "list.extend.makes-room" >>= fun _ => Builtin.List.listTouch (.ref s.heap.objs.size) >>= fun _ =>
    again (.builtin "list.extend.loop" ⟨[.ref s.heap.objs.size, .ref a, .ref s.heap.objs.size], []⟩)) _ _ _
  refine wpAny_bind (wpAny_rule ?_)
  refine wpAny_bind ?_
  show wpAny _ A.in1 (updateSeq s.heap.objs.size (·.push .none) >>= fun _ => updateSeq s.heap.objs.size (·.pop)) _ _ _
  refine wpAny_bind (wpAny_updateSeq hS rfl ?_)
  have hS3 := Heap.get?_update_self (Obj.mapSeq (·.push Value.none)) hS rfl
  refine wpAny_updateSeq (hz := by seq_fits) hS3 rfl ?_
  have hS4 := Heap.get?_update_self (Obj.mapSeq (·.pop)) hS3 rfl
  have k4 := up _ (Obj.mapSeq (·.pop)) (up _ (Obj.mapSeq (·.push Value.none)) k1)
  refine wpAny_pure ⟨plainId_quiet F.plain_extend_loop _, ?_⟩
  refine drain (P := P) (w := w) (outer := outer) (H := H) (sc := sc) (ex := ex) (Q := Q) (EX := noX) (A := A) (g := g) hr.hd (by have := hr.dp; show A.depth < _; omega) hSa hSc
    (fun s' acc c H' ys q1 q2 q3 q4 q5 q6 q7 q8 q9 => ?_) (fun e s' hc => ?_)
    sizeLine _ (gty k4) (hl.keeps k4) ⟨_, hgs, rfl, ?_⟩
  · show wpAny _ A (load s.heap.objs.size >>= _) _ _ s'
    refine wpAny_bind (wpAny_load q1 ?_)
    exact wpAny_pure (hQ _ s' acc c H' ys (Nat.le_refl _) q1 q2 q3 q4 q5 q6 q7 q8 q9)
  · obtain ⟨_, _, _, _, _, _, _, _, _, _, _, _, hW⟩ := hc
    exact hW.elim
  refine wake _ _ _ ⟨hr.hd, ?_, ?_⟩ hfr (Nat.le_refl _) k4 ⟨_, hS4⟩ hos (allBare_setGen (s := { s with heap := _ }) hb rfl)
  · have := hr.dp
    show A.depth + 3 * k + 5 < _
    omega
  · have := hr.un
    show A.units + 1 + 1 + 16 * k + 200 < _
    omega
end HG
namespace HG
open PySem PySem.Spec PyProof.Rows L2 HM GenW
open AutoSeq1 (wpAny_loadPart')
theorem GMade.ty {P : Program} {w : World} {k : Nat} {outer : List Env} {H : Hp} {sc s : Shared} {ex : List Addr} {Q : List V → Hp → Prop} {E : XK} {u : Value} (h : GMade P w k outer H sc ex Q E u s) : s.TypeIs u "generator" := by
  obtain ⟨a, g, c, rfl, ha1, ha2, hg, _⟩ := h
  exact hg.typeIs
theorem GMade.sz {P : Program} {w : World} {k : Nat} {outer : List Env} {H : Hp} {sc s : Shared} {ex : List Addr} {Q : List V → Hp → Prop} {E : XK} {u : Value} (h : GMade P w k outer H sc ex Q E u s) : sc.heap.objs.size ≤ s.heap.objs.size := by
  obtain ⟨a, g, c, rfl, ha1, ha2, hg, _⟩ := h
  exact Nat.le_trans ha1 (Nat.le_of_lt ha2)
theorem code_tuple_made {P : Program} {w : World} {outer : List Env} {H : Hp} {sc s : Shared} {ex : List Addr} {Q : List V → Hp → Prop} {A : Around} {k : Nat} {u : Value} {Q₁ : Value → Shared → Prop} {E : Value → Shared → Prop}
    (hr : Room (k + 4) A) (hfr : A.frames = some outer) (h : GMade P w k outer H sc ex Q noX u s)
    (hQ : ∀ (S : Addr) (s' : Shared) (acc : Array Value) (c : Nat) (H' : Hp) (ys : List V), s.heap.objs.size ≤ S → s'.heap.get? S = some (lstObj acc c) → Vals ys acc.toList → ys.length ≤ sizeLine → s'.os = sc.os → AllBare s'.gens → Un (frs outer) ex H H' sc.heap s'.heap → HOk P w H' s'.heap → H' S = none → Q ys H' → Q₁ (.ref s'.heap.objs.size) { s' with heap := s'.heap.push { cls := .type "tuple", data := .seq acc } }) :
    codeAny (model P w) A (.call (.builtin "tuple.__new__") ⟨[.type "tuple", u], []⟩) (wants Q₁ E) s := by
  refine codeAny_of_tree ?_
  obtain ⟨a, g, c, rfl, h'⟩ := id h
  show wpAny _ A.in1 (do checkBuiltinCall "tuple.__new__" ⟨[.type "tuple", .ref a], []⟩; again (.builtin "tuple.__new__" ⟨[.type "tuple", .ref a], []⟩)) _ _ s
  refine wpAny_bind (wpAny_of_eq (F.newCall_tuple_1 _) (wpAny_pure ⟨plainId_quiet F.plain_tuple_new _, codeAny_builtin F.entry_tuple_new ?_⟩))
  rw [Around.under_plainId F.plain_tuple_new _]
  have hsub := sub_tuple_self
  have hinit := init_tuple_lookup
  have hmh := madeHere_tuple
  have hTI := GMade.ty h
  have hr1 : Room (k + 3) A.in1 := ⟨hr.hd, by have := hr.dp; show A.depth + _ + _ < _; omega, by have := hr.un; show A.units + 1 + _ + _ < _; omega⟩
  wp_walk using wpAny_typeOf hTI, collect_made hr1 hfr h
  intro S s' acc c' H' ys q0 q1 q2 q3 q4 q5 q6 q7 q8 q9
  show wpAny _ _ (Builtin.Tuple.tupleExact acc.toList.toArray >>= fun v => ret v) _ _ _
  unfold Builtin.Tuple.tupleExact
  have hsz : acc.size ≤ sizeLine := by
    have e1 := q2.length
    have e2 : acc.toList.length = acc.size := by simp
    omega
  refine wpAny_bind (wpAny_newObj_type ?_ (by show acc.toList.toArray.size ≤ sizeLine; simp only [Array.toArray_toList]; exact hsz))
  refine wpAny_pure ?_
  have e : acc.toList.toArray = acc := by simp
  rw [e]
  exact hQ S s' acc c' H' ys q0 q1 q2 q3 q4 q5 q6 q7 q8 q9
theorem call_tuple_made {P : Program} {w : World} {outer : List Env} {H : Hp} {sc s : Shared} {ex : List Addr} {Q : List V → Hp → Prop} {A : Around} {k : Nat} {u : Value} {Q' : Value → Shared → Prop} {E : Value → Shared → Prop}
    (hr : Room (k + 5) A) (hfr : A.frames = some outer) (h : GMade P w k outer H sc ex Q noX u s)
    (hQ : ∀ (S : Addr) (s' : Shared) (acc : Array Value) (c : Nat) (H' : Hp) (ys : List V), s.heap.objs.size ≤ S → s'.heap.get? S = some (lstObj acc c) → Vals ys acc.toList → ys.length ≤ sizeLine → s'.os = sc.os → AllBare s'.gens → Un (frs outer) ex H H' sc.heap s'.heap → HOk P w H' s'.heap → H' S = none → Q ys H' → Q' (.ref s'.heap.objs.size) { s' with heap := s'.heap.push { cls := .type "tuple", data := .seq acc } }) :
    wpAny (model P w) A (call (.type "tuple") [u]) Q' E s := by
  have hr1 : Room (k + 4) A.in1 := ⟨hr.hd, by have := hr.dp; show A.depth + _ + _ < _; omega, by have := hr.un; show A.units + 1 + _ + _ < _; omega⟩
  refine callType_codes (Q₁ := fun obj s₁ => s₁.TypeIs obj "tuple" ∧ Q' obj s₁) F.called_tuple (F.typeCall_tuple_1 _) F.entry_object_init
    (code_tuple_made hr1 hfr h fun S s' acc c H' ys q0 q1 q2 q3 q4 q5 q6 q7 q8 q9 => ⟨⟨_, Heap.get?_push_size _ rfl, rfl⟩, hQ S s' acc c H' ys q0 q1 q2 q3 q4 q5 q6 q7 q8 q9⟩) fun obj s₁ h₁ => ?_
  exact ⟨h₁.1, F.args_object_init_2 obj _, object_init_meets F.called_tuple.init.lookup F.called_tuple.made (by decide) P w A.in1 _ s₁ ⟨h₁.1, rfl, h₁.2⟩⟩
section
variable {X : Cx}
/-- tuple(.. for ..): a list of what came, and the tuple -/
def tTupGe (tg : TGen) : TE := fun σ H Q => tg σ H fun ys H2 => ∀ S T, H2 S = none → S ≠ T → H2 T = none → Q (.ref T) (upd (upd H2 S (.lst ys)) T (.tup ys))
theorem pe_tupGe {k : Nat} {e : Expr} {tg : TGen} {p pos : Pos} (h : PGen X k e tg noX) (hr : Room (k + 5) X.A) (hg : Gl X "tuple") (hm : X.mg "tuple" = none)
    (he : starEach [e] X.env = (false, eval e X.env) :: starEach [] X.env := by rfl) : PE X (.Call (.Name "tuple" p) [e] [] pos) (tTupGe tg) := by
  refine ⟨fun pins s σ H Q I hq => ?_⟩
  refine Call_ (ld_blt I hg hm boot_tuple (PyProof.Rows.callWith_type1 (PyProof.Rows.args_cons ?_ he) he rfl))
  refine L2.thn (h.run pins s σ H _ I hq) fun u s1 ⟨H1, sc, ex, I1, hex, hG⟩ => ?_
  refine PyProof.Rows.args_nil ?_
  refine call_tuple_made hr I1.ok.frames hG fun S s' acc c H' ys q0 q1 q2 q3 q4 q5 q6 q7 q8 q9 => ?_
  have J := Inv.drained I1 (Nat.le_trans (GMade.sz hG) q0) q3 q1 q2 hex q4 q5 q6 q7 q8
  have hST : S ≠ s'.heap.objs.size := Nat.ne_of_lt (Heap.lt_size q1)
  have J2 : Inv X pins σ (upd (upd H' S (.lst ys)) s'.heap.objs.size (.tup ys)) { s' with heap := s'.heap.push { cls := .type "tuple", data := .seq acc } } := by
    refine J.laid (t' := s'.toks) (fun b o e => Heap.get?_push_of_some _ e) (Nat.le_refl _) ⟨q3, acc.toList, q2, ?_⟩
    exact ⟨_, Heap.get?_push_size _ rfl, rfl, _, by simp; rfl⟩
  exact ⟨.ref s'.heap.objs.size, _, J2, rfl, q9 S _ q8 hST (q7.fresh (Nat.le_refl _))⟩
end
end HG
namespace HG
open PySem PySem.Spec PyProof.Rows L2 HM GenW
section
variable {X : Cx}
/-- sorted(.. for ..), whole numbers: a list of what came, and the new one -/
def tSortGe (tg : TGen) : TE := fun σ H Q => tg σ H fun ys H2 => ∃ ns : List Int, ys = ns.map V.int ∧ ∀ (ns' : List Int) (S T : Addr), ns'.Perm ns → ns'.Pairwise (· ≤ ·) → H2 S = none → S ≠ T → H2 T = none → Q (.ref T) (upd (upd H2 S (.lst ys)) T (.lst (ns'.map V.int)))
theorem pe_sortedGe {k : Nat} {e : Expr} {tg : TGen} {p pos : Pos} (h : PGen X k e tg noX) (hr : Room (k + 5) X.A) (hg : Gl X "sorted") (hm : X.mg "sorted" = none)
    (he : starEach [e] X.env = (false, eval e X.env) :: starEach [] X.env := by rfl) (hpl : (backTo pos (starEach [] X.env)).any (·.1) = false := by rfl) : PE X (.Call (.Name "sorted" p) [e] [] pos) (tSortGe tg) := by
  refine ⟨fun pins s σ H Q I hq => ?_⟩
  refine wpAny_Call_Name_kw (ld_blt I hg hm boot_sorted ?_ (by decide) (by decide))
  refine PyProof.Rows.callWith_builtin1 (PyProof.Rows.args_cons ?_ he) he hpl
  refine L2.thn (h.run pins s σ H _ I hq) fun u s1 ⟨H1, sc, ex, I1, hex, hG⟩ => ?_
  refine PyProof.Rows.args_nil ?_
  refine Calls.call_function_entry kind_sorted plain_sorted entry_sorted (args_sorted1 _) ?_
  unfold Builtin.«sorted»
  refine wpAny_bind (m := checkCount "sorted" 1 1 _) (wpAny_pure ?_)
  have hr1 : Room (k + 3) X.A.in1 := ⟨hr.hd, by have := hr.dp; show X.A.depth + _ + _ < _; omega, by have := hr.un; show X.A.units + 1 + _ + _ < _; omega⟩
  refine wpAny_bind (collect_made hr1 I1.ok.frames hG fun S s' acc c H' ys q0 q1 q2 q3 q4 q5 q6 q7 q8 q9 => ?_)
  obtain ⟨ns, rfl, q9⟩ := q9
  have J := Inv.drained I1 (Nat.le_trans (GMade.sz hG) q0) q3 q1 q2 hex q4 q5 q6 q7 q8
  have hST : S ≠ s'.heap.objs.size := Nat.ne_of_lt (Heap.lt_size q1)
  have hlz : acc.toList.length ≤ sizeLine := by rw [← q2.length]; exact q3
  refine wpAny_bind (wpAny_newList (hsz := hlz) ?_)
  have hob : (s'.heap.push (seqObj "list" acc.toList.toArray 0)).get? s'.heap.objs.size = some (seqObj "list" acc.toList.toArray 0) := Heap.get?_push_size _ rfl
  have hi := q2.ints
  refine wpAny_bind (wpAny_holding (wpAny_call_entry PyProof.Rows.slot_list_sort ⟨_, hob, rfl⟩ PyProof.Rows.entry_list_sort
    (SrtO.list_sort_ord SrtO.swo_int hob hlz (fun h2 => SrtO.ints_sortable hi h2) fun out h1 h2 => ⟨.none, rfl, ?_⟩) (PyProof.Rows.args_list_sort _)))
  obtain ⟨k1, k2, k3⟩ := SrtO.ints_out hi h1 h2
  obtain ⟨ep, he'⟩ := PyProof.Rows.sortedHeap_at (vs := acc.toList) (out := out.toArray) hob
  have hlen : ((out.map SrtO.iv).map V.int).length ≤ sizeLine := by
    rw [List.length_map, k2.length_eq]
    rw [List.length_map] at q3
    exact q3
  refine wpAny_pure ⟨_, rfl, .ref s'.heap.objs.size, upd (upd H' S (.lst (ns.map V.int))) s'.heap.objs.size (.lst ((out.map SrtO.iv).map V.int)), ?_, rfl, q9 _ S _ k2 k3 q8 hST (q7.fresh (Nat.le_refl _))⟩
  refine J.laid (t' := s'.toks) (fun b o e => ?_) (Nat.le_refl _) ⟨hlen, out, ep, vals_of_ints k1, he'⟩
  rw [PyProof.Rows.sortedHeap_old (Nat.ne_of_lt (Heap.lt_size e)) (by rw [Heap.size_push]; exact Nat.lt_succ_of_lt (Heap.lt_size e))]
  exact Heap.get?_push_of_some _ e
end
end HG
namespace VL
open PySem PySem.Spec PyProof.Rows L2 HM HG
/-! ### generator expressions by trees -/
/-- the table of generators at P runs along -/
structure TabIn (am : Am) (P : Addr) : Prop where
  sp : am.sp P
  rd : ∀ {n H}, am.ok n H → GxR.TabG H P
  wr : ∀ {n H H'}, am.ok n H → GxR.Tabbed P H H' → am.ok n H'
section
variable {c : Fc} {F H H' : Hp} {σ : L2.St} {env : Ev} {n : Nat} {P : Addr}
theorem Rel.tab (T : TabIn c.am P) (r : Rel c F H σ env n) (h : GxR.Tabbed P H H') : Rel c F H' σ env n := by
  have hF : F P = none := r.spf P T.sp
  refine ⟨fun b u e => ?_, r.spf, T.wr r.amb h, r.up0, r.out0, fun b u e nb => ?_, r.len, fun i s e => ?_, r.apart⟩
  · rw [h.2 b fun z => by rw [z, hF] at e; cases e]; exact r.sub b u e
  · rw [h.2 b fun z => nb (by rw [z]; exact T.sp)]; exact r.keep0 b u e nb
  · have q := r.sl i s e
    cases s with
    | no => trivial
    | fz d => exact q
    | ow kk =>
      obtain ⟨a, o, g1, g2, g3, g4, g5, g6⟩ := q
      exact ⟨a, o, g1, g2, g3, g4, by rw [h.2 a fun z => g4 (by rw [z]; exact T.sp)]; exact g5, g6⟩
end
section
variable {c : Fc} {P : Addr}
/-- what a generator expression hands out, by trees -/
theorem ge_of {wi : VTI} {g : TG} {gv : VTG} {tt : VTT} {te : VTE} {vs : List Nat} (T : TabIn c.am P) (hg : TgOk g gv vs) {σ : L2.St} {H : Hp} {cont : List V → Hp → Prop} {F : Hp} {env : Ev} {n : Nat} {Q : Con → Ev → Nat → Prop} (r : Rel c F H σ env n) (q : vLc wi gv tt te vs env n Q)
    (k : ∀ ys H' F' ds env' n', Rel c F' H' σ env' n' → Up F F' → Rps F' ys ds → Q (.lst ds) env' n' → cont ys H') : tGe P (iOf c wi) g (cOf c tt) (tOf c te) vs σ H cont := by
  refine ⟨F, env, n, _, r, q, fun J H1 F1 xs env1 n1 r1 u1 wk q1 => ?_⟩
  obtain ⟨no, hlen, Pv, p0, turn, fin⟩ := q1
  refine ⟨T.rd r1.amb, fun H2 hT => ?_⟩
  have r2 := r1.tab T hT
  refine ⟨fun i m ys H => m = xs.length - i ∧ i ≤ xs.length ∧ ∃ F' acc env n, Rel c F' H (L2.wipe σ vs) env n ∧ Up F1 F' ∧ Rps F' ys acc ∧ acc.length ≤ i ∧ Pv i acc env n, ⟨_, rfl, Nat.zero_le _, F1, [], _, n1, r2.wipe vs, Up.refl F1, .nil, Nat.zero_le _, p0⟩, ?_⟩
  rintro i m ys H3 ⟨rfl, hi, F3, acc, env3, n3, r3, u3, ra, hal, p3⟩
  obtain ⟨wg, ws⟩ := wk c rfl F3 H3 _ env3 n3 r3 u3 i
  by_cases hlt : i < xs.length
  · obtain ⟨go, yl⟩ := wg hlt
    refine .inr ⟨go, fun ys' H' => ∃ F' acc env n, Rel c F' H' (L2.wipe σ vs) env n ∧ Up F1 F' ∧ Rps F' ys' acc ∧ acc.length ≤ i + 1 ∧ Pv (i + 1) acc env n, fun ys' H' hN => ⟨xs.length - (i + 1), by omega, rfl, hlt, hN⟩, fun x H4 y => ?_⟩
    obtain ⟨F4, d, r4, u4, ed, rd⟩ := yl x H4 y
    refine hg _ F4 H4 _ env3 n3 x d _ _ r4 rd (turn i d acc env3 n3 ed p3) fun σ5 env5 n5 r5 hw q5 => ?_
    have hw' : L2.wipe σ5 vs = L2.wipe σ vs := hw.trans (List.ext_getElem? fun j => by
      rw [wipe_get, wipe_get, wipe_length]
      by_cases h : j ∈ vs ∧ j < σ.length
      · rw [if_pos h, if_pos h]
      · rw [if_neg h, if_neg h])
    refine ⟨hw', F4, env5, n5, _, r5, q5, fun b H6 F6 env6 n6 r6 u6 q6 => ?_⟩
    cases b with
    | true =>
      refine ⟨F6, env6, n6, _, r6, q6, fun v H7 F7 d7 env7 n7 r7 u7 rv q7 => ?_⟩
      have hyl : ys.length ≤ 1000 := by rw [ra.len]; omega
      exact ⟨small1000 hyl, F7, acc ++ [d7], _, n7, r7.wipe2 hw', ((u3.trans u4).trans u6).trans u7, (((ra.up u4).up u6).up u7).append (.cons rv .nil), by rw [List.length_append]; exact Nat.succ_le_succ hal, q7⟩
    | false => exact ⟨F6, acc, _, n6, r6.wipe2 hw', (u3.trans u4).trans u6, (ra.up u4).up u6, Nat.le_succ_of_le hal, q6⟩
  · have e : i = xs.length := by omega
    subst e
    exact .inl ⟨ws (Nat.le_refl _), k ys H3 F3 acc _ n3 (r2.rest u3 no r3) (u1.trans u3) ra (fin acc env3 n3 hal p3)⟩
/-- tuple(e for x in xs ..) -/
def vTupGe (wi : VTI) (g : VTG) (tt : VTT) (te : VTE) (vs : List Nat) : VTE := fun env n Q => vLc wi g tt te vs env n fun k env' n' => ∃ ds, k = .lst ds ∧ Q (.tup ds) env' n'
theorem tupGe_of {wi : VTI} {g : TG} {gv : VTG} {tt : VTT} {te : VTE} {vs : List Nat} (T : TabIn c.am P) (hg : TgOk g gv vs) {σ : L2.St} {H : Hp} {R : VK} (h : tOf c (vTupGe wi gv tt te vs) σ H R) : tTupGe (tGe P (iOf c wi) g (cOf c tt) (tOf c te) vs) σ H R := by
  obtain ⟨F, env, n, Q, r, q, k⟩ := h
  refine ge_of T hg r q fun ys H' F' ds env' n' r' u ra qd S T' hS hST hT => ?_
  obtain ⟨ds', e, qd⟩ := qd
  cases e
  have r2 := r'.lay hS (.lst ys)
  have hT2 : upd H' S (.lst ys) T' = none := by rw [upd_ne (Ne.symm hST)]; exact hT
  obtain ⟨_, _, nf⟩ := r2.new0 hT2
  exact k _ _ (upd F' T' (.tup ys)) _ env' n' (r2.layF hT2 _) (u.trans (up_lay nf)) (.tup upd_same (ra.up (up_lay nf))) qd
/-- sorted(e for x in xs ..), whole numbers -/
def vSortGe (wi : VTI) (g : VTG) (tt : VTT) (te : VTE) (vs : List Nat) : VTN := fun env n Q => vLc wi g tt te vs env n fun k env' n' => ∃ ns : List Int, k = .lst (ns.map Dt.int) ∧ ∀ ns' : List Int, ns'.Perm ns → ns'.Pairwise (· ≤ ·) → Q (.lst (ns'.map Dt.int)) env' n'
theorem sortGe_of {wi : VTI} {g : TG} {gv : VTG} {tt : VTT} {te : VTE} {vs : List Nat} (T : TabIn c.am P) (hg : TgOk g gv vs) {σ : L2.St} {H : Hp} {R : VK} (h : nOf c (vSortGe wi gv tt te vs) σ H R) : tSortGe (tGe P (iOf c wi) g (cOf c tt) (tOf c te) vs) σ H R := by
  obtain ⟨F, env, n, Q, r, q, k⟩ := h
  refine ge_of T hg r q fun ys H' F' ds env' n' r' u ra qd => ?_
  obtain ⟨ns, e, qd⟩ := qd
  cases e
  refine ⟨ns, ra.of_ints, fun ns' S T' h1 h2 hS hST hT => ?_⟩
  have r2 := r'.lay hS (.lst ys)
  have hT2 : upd H' S (.lst ys) T' = none := by rw [upd_ne (Ne.symm hST)]; exact hT
  exact nOf_new r2 u hT2 (kk := .lst (ns'.map Dt.int)) ⟨_, rfl, Rps.ints ns'⟩ (qd ns' h1 h2) k
variable {X : Cx}
theorem ve_tupGe {cc : Addr} {elt tg iter : Expr} {ifs : List Expr} {scope : Scope} {own : List (Str × Nat)} {gpos p pos : Pos} {wi : VTI} {g : TG} {gv : VTG} {tt : VTT} {te : VTE} {k : Nat} (T : TabIn c.am P) (hc : X.calm = true) (hN : X.N.Nodup) (hr : Room (k + 6) X.A) (hgl : Gl X "tuple") (hm : X.mg "tuple" = none) (TB : GxR.TabB X.base X.mg cc P) (hcode : X.env.code = .ref cc)
    (Sc : GeS scope) (hi : PI X tg iter (iOf c wi)) (ok : BlkOk X.N X.env.scope scope own) (hgk : TgOk g gv (own.map (·.2)))
    (hg : ∀ (A : Around) (s : Shared) (H : Hp) (C : Addr) (code : Value) (fp : List Addr) (pn : List (Addr × Obj)), PG (gx X A s H (genEnv scope (cloFrom X.env.cells scope.names []) C code builtinsNs X.env) fp pn) tg g)
    (ht : ∀ (A : Around) (s : Shared) (H : Hp) (C : Addr) (code : Value) (fp : List Addr) (pn : List (Addr × Obj)), Room k A → PTs (gx X A s H (genEnv scope (cloFrom X.env.cells scope.names []) C code builtinsNs X.env) fp pn) ifs (cOf c tt))
    (he : ∀ (A : Around) (s : Shared) (H : Hp) (C : Addr) (code : Value) (fp : List Addr) (pn : List (Addr × Obj)), Room k A → PE (gx X A s H (genEnv scope (cloFrom X.env.cells scope.names []) C code builtinsNs X.env) fp pn) elt (tOf c te))
    (hs : ∀ v, genFold iter X.env v = pure v := by intro _; rfl) (hse : starEach [.GeneratorExp elt [⟨tg, iter, ifs, 0⟩] scope gpos] X.env = (false, eval (.GeneratorExp elt [⟨tg, iter, ifs, 0⟩] scope gpos) X.env) :: starEach [] X.env := by rfl) :
    PE X (.Call (.Name "tuple" p) [.GeneratorExp elt [⟨tg, iter, ifs, 0⟩] scope gpos] [] pos) (tOf c (vTupGe wi gv tt te (own.map (·.2)))) :=
  PE.imp (pe_tupGe (pgen_ge hc hN hr TB hcode ok Sc hi hg ht he hs) hr hgl hm hse) fun σ H R => tupGe_of T hgk
theorem vn_sortGe {cc : Addr} {elt tg iter : Expr} {ifs : List Expr} {scope : Scope} {own : List (Str × Nat)} {gpos p pos : Pos} {wi : VTI} {g : TG} {gv : VTG} {tt : VTT} {te : VTE} {k : Nat} (T : TabIn c.am P) (hc : X.calm = true) (hN : X.N.Nodup) (hr : Room (k + 6) X.A) (hgl : Gl X "sorted") (hm : X.mg "sorted" = none) (TB : GxR.TabB X.base X.mg cc P) (hcode : X.env.code = .ref cc)
    (Sc : GeS scope) (hi : PI X tg iter (iOf c wi)) (ok : BlkOk X.N X.env.scope scope own) (hgk : TgOk g gv (own.map (·.2)))
    (hg : ∀ (A : Around) (s : Shared) (H : Hp) (C : Addr) (code : Value) (fp : List Addr) (pn : List (Addr × Obj)), PG (gx X A s H (genEnv scope (cloFrom X.env.cells scope.names []) C code builtinsNs X.env) fp pn) tg g)
    (ht : ∀ (A : Around) (s : Shared) (H : Hp) (C : Addr) (code : Value) (fp : List Addr) (pn : List (Addr × Obj)), Room k A → PTs (gx X A s H (genEnv scope (cloFrom X.env.cells scope.names []) C code builtinsNs X.env) fp pn) ifs (cOf c tt))
    (he : ∀ (A : Around) (s : Shared) (H : Hp) (C : Addr) (code : Value) (fp : List Addr) (pn : List (Addr × Obj)), Room k A → PE (gx X A s H (genEnv scope (cloFrom X.env.cells scope.names []) C code builtinsNs X.env) fp pn) elt (tOf c te))
    (hs : ∀ v, genFold iter X.env v = pure v := by intro _; rfl) (hse : starEach [.GeneratorExp elt [⟨tg, iter, ifs, 0⟩] scope gpos] X.env = (false, eval (.GeneratorExp elt [⟨tg, iter, ifs, 0⟩] scope gpos) X.env) :: starEach [] X.env := by rfl) (hpl : (backTo pos (starEach [] X.env)).any (·.1) = false := by rfl) :
    PE X (.Call (.Name "sorted" p) [.GeneratorExp elt [⟨tg, iter, ifs, 0⟩] scope gpos] [] pos) (nOf c (vSortGe wi gv tt te (own.map (·.2)))) :=
  PE.imp (pe_sortedGe (pgen_ge hc hN hr TB hcode ok Sc hi hg ht he hs) hr hgl hm hse hpl) fun σ H R => sortGe_of T hgk
end
end VL
namespace VL
open PySem PySem.Spec PyProof.Rows L2 HM
/-! ### parts of a house, their shares, marks -/
structure Sub (n : Nat) (m : Nat → Nat → Nat) (l : List Nat) : Prop where
  up : l.Pairwise (· < ·)
  lt : ∀ x ∈ l, x < n
  ze : 0 ∈ l
  mul : ∀ x ∈ l, ∀ y ∈ l, m x y ∈ l
theorem IsPt.sub {n : Nat} {m : Nat → Nat → Nat} {gs l : List Nat} (h : Hse n m) (hg : ∀ g ∈ gs, g < n) (hl : IsPt m gs l) : Sub n m l :=
  ⟨hl.up, fun x hx => ((hl.mem x).mp hx).lt h.pos h.lt hg, (hl.mem 0).mpr .zero, fun x hx y hy => (hl.mem _).mpr (h.rch hg ((hl.mem x).mp hx) ((hl.mem y).mp hy))⟩
theorem len_le_of_sub {k l : List Nat} (nd : k.Nodup) (sub : ∀ x ∈ k, x ∈ l) : k.length ≤ l.length := by
  have := few_of_nodup (n := l.length) (l := k.map fun x => l.idxOf x) (by
    refine List.pairwise_map.mpr (List.Pairwise.imp_of_mem (fun {x y} hx hy hxy e => hxy ?_) nd)
    have h1 : l.idxOf x < l.length := List.idxOf_lt_length_of_mem (sub x hx)
    have h2 : l.idxOf y < l.length := List.idxOf_lt_length_of_mem (sub y hy)
    have e1 : l[l.idxOf x] = x := List.getElem_idxOf h1
    have e2 : l[l.idxOf y] = y := List.getElem_idxOf h2
    rw [← e1, ← e2]
    congr 1) fun x hx => by
    obtain ⟨y, hy, rfl⟩ := List.mem_map.mp hx
    exact List.idxOf_lt_length_of_mem (sub y hy)
  rwa [List.length_map] at this
theorem full_of_nodup {k l : List Nat} (nd : k.Nodup) (sub : ∀ x ∈ k, x ∈ l) (len : l.length ≤ k.length) : ∀ x ∈ l, x ∈ k := fun x hx => by
  rcases Classical.em (x ∈ k) with z | z
  · exact z
  · have := len_le_of_sub (k := x :: k) (l := l) (List.nodup_cons.mpr ⟨z, nd⟩) fun y hy => by
      rcases List.mem_cons.mp hy with rfl | hy
      · exact hx
      · exact sub y hy
    rw [List.length_cons] at this
    omega
section
variable {n : Nat} {m : Nat → Nat → Nat} {P O : List Nat}
theorem Hse.inv2 (h : Hse n m) {a : Nat} (ha : a < n) : ∃ b, b < n ∧ m a b = 0 ∧ m b a = 0 := by
  obtain ⟨b, hb, e⟩ := h.inv ha
  obtain ⟨c, hc, e2⟩ := h.inv hb
  have : a = c := by
    have := h.as a b c ha hb hc
    rw [e, e2, h.zl c hc, h.zr a ha] at this
    exact this.symm
  exact ⟨b, hb, e, by rw [this]; exact e2⟩
theorem Hse.rc (h : Hse n m) {a b c : Nat} (ha : a < n) (hb : b < n) (hc : c < n) (e : m a c = m b c) : a = b := by
  obtain ⟨d, hd, e1, _⟩ := h.inv2 hc
  have h1 := h.as a c d ha hc hd
  have h2 := h.as b c d hb hc hd
  rw [e1, h.zr _ ha] at h1
  rw [e1, h.zr _ hb] at h2
  rw [← h1, ← h2, e]
theorem Sub.nd (s : Sub n m P) : P.Nodup := s.up.imp fun h => Nat.ne_of_lt h
theorem Sub.inv (h : Hse n m) (s : Sub n m P) {x : Nat} (hx : x ∈ P) : ∃ y ∈ P, m x y = 0 ∧ m y x = 0 := by
  have nd : (P.map (m x)).Nodup := List.pairwise_map.mpr (List.Pairwise.imp_of_mem (fun {a b} ha hb hab e => hab (h.cn x a b (s.lt x hx) (s.lt a ha) (s.lt b hb) e)) s.nd)
  have := full_of_nodup nd (fun z hz => by
    obtain ⟨y, hy, rfl⟩ := List.mem_map.mp hz
    exact s.mul x hx y hy) (by rw [List.length_map]; exact Nat.le_refl _) 0 s.ze
  obtain ⟨y, hy, e⟩ := List.mem_map.mp this
  obtain ⟨b, hb, e1, e2⟩ := h.inv2 (s.lt x hx)
  have : y = b := h.cn x y b (s.lt x hx) (s.lt y hy) hb (by rw [e, e1])
  exact ⟨y, hy, e, by rw [this]; exact e2⟩
def cls (m : Nat → Nat → Nat) (P : List Nat) (g h : Nat) : Prop := ∃ x ∈ P, m x g = h
theorem Sub.refl (h : Hse n m) (s : Sub n m P) {g : Nat} (hg : g < n) : cls m P g g := ⟨0, s.ze, h.zl g hg⟩
theorem Sub.lt2 (h : Hse n m) (s : Sub n m P) {g k : Nat} (hg : g < n) (c : cls m P g k) : k < n := by
  obtain ⟨x, hx, rfl⟩ := c
  exact h.lt x g (s.lt x hx) hg
theorem Sub.symm (h : Hse n m) (s : Sub n m P) {g k : Nat} (hg : g < n) (c : cls m P g k) : cls m P k g := by
  obtain ⟨x, hx, rfl⟩ := c
  obtain ⟨y, hy, _, e⟩ := s.inv h hx
  exact ⟨y, hy, by rw [← h.as y x g (s.lt y hy) (s.lt x hx) hg, e, h.zl g hg]⟩
theorem Sub.trans (h : Hse n m) (s : Sub n m P) {g k l : Nat} (hg : g < n) (c : cls m P g k) (d : cls m P k l) : cls m P g l := by
  obtain ⟨x, hx, rfl⟩ := c
  obtain ⟨y, hy, rfl⟩ := d
  exact ⟨m y x, s.mul y hy x hx, h.as y x g (s.lt y hy) (s.lt x hx) hg⟩
def rp (m : Nat → Nat → Nat) (P : List Nat) (g : Nat) : Nat := P.foldr (fun x r => min (m x g) r) g
theorem rp_le (g : Nat) : ∀ P : List Nat, rp m P g ≤ g ∧ ∀ x ∈ P, rp m P g ≤ m x g
  | [] => ⟨Nat.le_refl _, fun x hx => by cases hx⟩
  | y :: P => by
    obtain ⟨h1, h2⟩ := rp_le g P
    have e : rp m (y :: P) g = min (m y g) (rp m P g) := rfl
    rw [e]
    refine ⟨by omega, fun x hx => ?_⟩
    rcases List.mem_cons.mp hx with rfl | hx
    · omega
    · have := h2 x hx
      omega
theorem rp_is (g : Nat) : ∀ P : List Nat, rp m P g = g ∨ ∃ x ∈ P, m x g = rp m P g
  | [] => .inl rfl
  | y :: P => by
    have e : rp m (y :: P) g = min (m y g) (rp m P g) := rfl
    rcases Nat.le_total (m y g) (rp m P g) with hle | hle
    · exact .inr ⟨y, List.mem_cons_self, by rw [e]; omega⟩
    · rw [e, Nat.min_eq_right hle]
      rcases rp_is g P with h | ⟨x, hx, h⟩
      · exact .inl h
      · exact .inr ⟨x, List.mem_cons_of_mem _ hx, h⟩
theorem Sub.rp_cls (h : Hse n m) (s : Sub n m P) {g : Nat} (hg : g < n) : cls m P g (rp m P g) := by
  rcases rp_is (m := m) g P with e | ⟨x, hx, e⟩
  · rw [e]; exact s.refl h hg
  · exact ⟨x, hx, e⟩
theorem rp_min {g k : Nat} (c : cls m P g k) : rp m P g ≤ k := by
  obtain ⟨x, hx, rfl⟩ := c
  exact (rp_le g P).2 x hx
theorem Sub.rp_eq (h : Hse n m) (s : Sub n m P) {g k : Nat} (hg : g < n) (c : cls m P g k) : rp m P g = rp m P k := by
  have hk := s.lt2 h hg c
  have h1 := rp_min (s.trans h hg c (s.rp_cls h hk))
  have h2 := rp_min (s.trans h hk (s.symm h hg c) (s.rp_cls h hg))
  omega
theorem Sub.cls_of_rp (h : Hse n m) (s : Sub n m P) {g k : Nat} (hg : g < n) (hk : k < n) (e : rp m P g = rp m P k) : cls m P g k := by
  have h1 := s.rp_cls h hg
  rw [e] at h1
  exact s.trans h hg h1 (s.symm h hk (s.rp_cls h hk))
theorem Sub.rp_lt (h : Hse n m) (s : Sub n m P) {g : Nat} (hg : g < n) : rp m P g < n := Nat.lt_of_le_of_lt (rp_le g P).1 hg
theorem Sub.rp_rp (h : Hse n m) (s : Sub n m P) {g : Nat} (hg : g < n) : rp m P (rp m P g) = rp m P g := (s.rp_eq h hg (s.rp_cls h hg)).symm
def isL (m : Nat → Nat → Nat) (P : List Nat) (g : Nat) : Bool := decide (rp m P g = g)
def lst (m : Nat → Nat → Nat) (P : List Nat) (j : Nat) : List Nat := (List.range j).filter (isL m P)
def plc (m : Nat → Nat → Nat) (P : List Nat) (g : Nat) : Nat := (lst m P (rp m P g)).length
theorem lst_succ (j : Nat) : lst m P (j + 1) = lst m P j ++ (if isL m P j = true then [j] else []) := by
  unfold lst
  rw [List.range_succ, List.filter_append]
  congr 1
  by_cases e : isL m P j = true
  · rw [if_pos e]; simp [e]
  · rw [if_neg e]; simp [e]
theorem lst_mono {i j : Nat} (h : i ≤ j) : (lst m P i).length ≤ (lst m P j).length := by
  induction h with
  | refl => exact Nat.le_refl _
  | step h ih => rw [lst_succ, List.length_append]; omega
theorem plc_inj {a b : Nat} (ha : isL m P a = true) (hb : isL m P b = true) (e : (lst m P a).length = (lst m P b).length) : a = b := by
  have key : ∀ {a b : Nat}, isL m P a = true → a < b → (lst m P a).length < (lst m P b).length := fun {a b} ha hab => by
    have := lst_mono (m := m) (P := P) (show a + 1 ≤ b by omega)
    rw [lst_succ, if_pos ha, List.length_append, List.length_singleton] at this
    omega
  rcases Nat.lt_trichotomy a b with z | z | z
  · have := key ha z; omega
  · exact z
  · have := key hb z; omega
theorem Sub.isL_rp (h : Hse n m) (s : Sub n m P) {g : Nat} (hg : g < n) : isL m P (rp m P g) = true := decide_eq_true (s.rp_rp h hg)
theorem Sub.plc_iff (h : Hse n m) (s : Sub n m P) {g k : Nat} (hg : g < n) (hk : k < n) : plc m P g = plc m P k ↔ rp m P g = rp m P k :=
  ⟨fun e => plc_inj (s.isL_rp h hg) (s.isL_rp h hk) e, fun e => by unfold plc; rw [e]⟩
/-! held still -/
def phi (m : Nat → Nat → Nat) (P O : List Nat) (g : Nat) : Bool := O.all fun k => decide (rp m P (m g k) = rp m P g)
def mkN (n : Nat) (m : Nat → Nat → Nat) (P O : List Nat) : Nat := ((lst m P n).filter (phi m P O)).length
def PhiN (n : Nat) (m : Nat → Nat → Nat) (P O : List Nat) : Nat := ((List.range n).filter (phi m P O)).length
theorem phi_iff (h : Hse n m) (s : Sub n m P) (ho : ∀ k ∈ O, k < n) {g : Nat} (hg : g < n) : phi m P O g = true ↔ ∀ k ∈ O, cls m P g (m g k) := by
  unfold phi
  rw [List.all_eq_true]
  exact ⟨fun q k hk => s.cls_of_rp h hg (h.lt g k hg (ho k hk)) (of_decide_eq_true (q k hk)).symm, fun q k hk => decide_eq_true (s.rp_eq h hg (q k hk)).symm⟩
theorem phi_cls (h : Hse n m) (s : Sub n m P) (ho : ∀ k ∈ O, k < n) {g k : Nat} (hg : g < n) (c : cls m P g k) : phi m P O g = phi m P O k := by
  have hk := s.lt2 h hg c
  have one : ∀ {g k : Nat}, g < n → cls m P g k → phi m P O g = true → phi m P O k = true := fun {g k} hg c e => by
    have hk := s.lt2 h hg c
    rw [phi_iff h s ho hg] at e
    rw [phi_iff h s ho hk]
    intro q hq
    have hqn := ho q hq
    obtain ⟨x, hx, rfl⟩ := id c
    refine s.trans h hk (s.symm h hg c) (s.trans h hg (e q hq) ⟨x, hx, (h.as x g q (s.lt x hx) hg hqn).symm⟩)
  cases e : phi m P O g with
  | true => exact (one hg c e).symm
  | false =>
    cases e2 : phi m P O k with
    | true => rw [one hk (s.symm h hg c) e2] at e; cases e
    | false => rfl
theorem len_flat {f : Nat → List Nat} {c : Nat} : ∀ {l : List Nat}, (∀ g ∈ l, (f g).length = c) → (l.flatMap f).length = l.length * c
  | [], _ => by simp
  | g :: l, h => by
    rw [List.flatMap_cons, List.length_append, len_flat fun x hx => h x (List.mem_cons_of_mem _ hx), h g List.mem_cons_self, List.length_cons, Nat.succ_mul]
    omega
theorem lst_mem {j g : Nat} : g ∈ lst m P j ↔ g < j ∧ rp m P g = g := by
  unfold lst isL
  rw [List.mem_filter, List.mem_range, decide_eq_true_iff]
theorem mk_mul (h : Hse n m) (s : Sub n m P) (ho : ∀ k ∈ O, k < n) : mkN n m P O * P.length = PhiN n m P O := by
  have pm : (((lst m P n).filter (phi m P O)).flatMap fun g => P.map fun x => m x g).Perm ((List.range n).filter (phi m P O)) := by
    refine (List.perm_ext_iff_of_nodup ?_ (List.nodup_range.filter _)).mpr fun k => ?_
    · refine List.pairwise_flatMap.mpr ⟨fun g hg => ?_, ?_⟩
      · obtain ⟨hg1, _⟩ := lst_mem.mp (List.mem_filter.mp hg).1
        exact List.pairwise_map.mpr (List.Pairwise.imp_of_mem (fun {a b} ha hb hab e => hab (h.rc (s.lt a ha) (s.lt b hb) hg1 e)) s.nd)
      · refine List.Pairwise.imp_of_mem (fun {a b} ha hb hab x hx y hy e => hab ?_) (List.Pairwise.filter (phi m P O) (List.Pairwise.filter (isL m P) (show List.Pairwise (· ≠ ·) (List.range n) from List.nodup_range)))
        obtain ⟨a1, a2⟩ := lst_mem.mp (List.mem_filter.mp ha).1
        obtain ⟨b1, b2⟩ := lst_mem.mp (List.mem_filter.mp hb).1
        obtain ⟨p, hp, rfl⟩ := List.mem_map.mp hx
        obtain ⟨q, hq, rfl⟩ := List.mem_map.mp hy
        have c1 := s.rp_eq h a1 ⟨p, hp, rfl⟩
        have c2 := s.rp_eq h b1 ⟨q, hq, rfl⟩
        rw [← a2, ← b2, c1, c2, e]
    · rw [List.mem_flatMap, List.mem_filter, List.mem_range]
      constructor
      · rintro ⟨g, hg, hk⟩
        obtain ⟨g1, g2⟩ := List.mem_filter.mp hg
        obtain ⟨g3, _⟩ := lst_mem.mp g1
        obtain ⟨x, hx, rfl⟩ := List.mem_map.mp hk
        exact ⟨h.lt x g (s.lt x hx) g3, by rw [← phi_cls h s ho g3 ⟨x, hx, rfl⟩]; exact g2⟩
      · rintro ⟨hk, e⟩
        have c := s.rp_cls h hk
        refine ⟨rp m P k, List.mem_filter.mpr ⟨lst_mem.mpr ⟨s.rp_lt h hk, s.rp_rp h hk⟩, by rw [← phi_cls h s ho hk c]; exact e⟩, ?_⟩
        obtain ⟨x, hx, e⟩ := s.symm h hk c
        exact List.mem_map.mpr ⟨x, hx, e⟩
  have := pm.length_eq
  rw [len_flat (c := P.length) fun g _ => by rw [List.length_map]] at this
  exact this
theorem cnt_bij {f : Nat → Nat} {p : Nat → Bool} (lt : ∀ g, g < n → f g < n) (inj : ∀ a b, a < n → b < n → f a = f b → a = b) : ((List.range n).filter fun g => p (f g)).length = ((List.range n).filter p).length := by
  have tn : Tn n ((List.range n).map f) := tn_of (by rw [List.length_map, List.length_range]) (fun x hx => by
    obtain ⟨g, hg, rfl⟩ := List.mem_map.mp hx
    exact lt g (List.mem_range.mp hg)) (List.pairwise_map.mpr (List.Pairwise.imp_of_mem (fun {a b} ha hb hab e => hab (inj a b (List.mem_range.mp ha) (List.mem_range.mp hb) e)) List.nodup_range))
  have e := (List.Perm.filter p tn).length_eq
  rw [List.filter_map, List.length_map] at e
  exact e
/-- l is P led by g -/
structure Led (n : Nat) (m : Nat → Nat → Nat) (P : List Nat) (g : Nat) (l : List Nat) : Prop where
  up : l.Pairwise (· < ·)
  ex : ∃ b, b < n ∧ m g b = 0 ∧ m b g = 0 ∧ ∀ y, y ∈ l ↔ ∃ x ∈ P, m (m b x) g = y
theorem Led.sub (h : Hse n m) (s : Sub n m P) {g : Nat} (hg : g < n) {l : List Nat} (L : Led n m P g l) : Sub n m l := by
  obtain ⟨b, hb, e1, e2, mem⟩ := L.ex
  refine ⟨L.up, fun y hy => ?_, ?_, fun y hy z hz => ?_⟩
  · obtain ⟨x, hx, rfl⟩ := (mem y).mp hy
    exact h.lt _ _ (h.lt b x hb (s.lt x hx)) hg
  · exact (mem 0).mpr ⟨0, s.ze, by rw [h.zr b hb]; exact e2⟩
  · obtain ⟨x, hx, rfl⟩ := (mem y).mp hy
    obtain ⟨x2, hx2, rfl⟩ := (mem z).mp hz
    have hx' := s.lt x hx
    have hx2' := s.lt x2 hx2
    refine (mem _).mpr ⟨m x x2, s.mul x hx x2 hx2, ?_⟩
    have hbx := h.lt b x hb hx'
    have hbx2 := h.lt b x2 hb hx2'
    rw [h.as (m b x) g (m (m b x2) g) hbx hg (h.lt _ _ hbx2 hg), ← h.as g (m b x2) g hg hbx2 hg, ← h.as g b x2 hg hb hx2', e1, h.zl x2 hx2', ← h.as b x x2 hb hx' hx2', h.as (m b x) x2 g hbx hx2' hg]
theorem Led.len (h : Hse n m) (s : Sub n m P) {g : Nat} (hg : g < n) {l : List Nat} (L : Led n m P g l) : l.length = P.length := by
  obtain ⟨b, hb, e1, e2, mem⟩ := L.ex
  have nd : (P.map fun x => m (m b x) g).Nodup := List.pairwise_map.mpr (List.Pairwise.imp_of_mem (fun {x y} hx hy hxy e => hxy (h.cn b x y hb (s.lt x hx) (s.lt y hy) (h.rc (h.lt b x hb (s.lt x hx)) (h.lt b y hb (s.lt y hy)) hg e))) s.nd)
  have pm : l.Perm (P.map fun x => m (m b x) g) := (List.perm_ext_iff_of_nodup (L.up.imp fun z => Nat.ne_of_lt z) nd).mpr fun y => by
    rw [mem y, List.mem_map]
  rw [pm.length_eq, List.length_map]
theorem mk_eq_of {P' O' : List Nat} (h : Hse n m) (s : Sub n m P) (s' : Sub n m P') (ho : ∀ k ∈ O, k < n) (ho' : ∀ k ∈ O', k < n) (hl : P'.length = P.length) (e : PhiN n m P' O' = PhiN n m P O) : mkN n m P' O' = mkN n m P O := by
  have h1 := mk_mul h s ho
  have h2 := mk_mul h s' ho'
  rw [hl, e, ← h1] at h2
  have : 0 < P.length := List.length_pos_of_mem s.ze
  exact Nat.eq_of_mul_eq_mul_right this h2
theorem mk_near (h : Hse n m) (s : Sub n m P) (ho : ∀ k ∈ O, k < n) {g : Nat} (hg : g < n) {l : List Nat} (L : Led n m P g l) : mkN n m l O = mkN n m P O := by
  have sl := L.sub h s hg
  refine mk_eq_of h s sl ho ho (L.len h s hg) ?_
  obtain ⟨b, hb, e1, e2, mem⟩ := L.ex
  unfold PhiN
  rw [← cnt_bij (f := m g) (p := phi m P O) (fun k hk => h.lt g k hg hk) (fun a c ha hc e => h.cn g a c hg ha hc e)]
  refine congrArg List.length (List.filter_congr fun k hk => ?_)
  have hk := List.mem_range.mp hk
  have hgk := h.lt g k hg hk
  have key : phi m l O k = true ↔ phi m P O (m g k) = true := by
    rw [phi_iff h sl ho hk, phi_iff h s ho hgk]
    refine forall_congr' fun q => forall_congr' fun hq => ?_
    have hqn := ho q hq
    constructor
    · rintro ⟨y, hy, e⟩
      obtain ⟨x, hx, rfl⟩ := (mem y).mp hy
      have hx' := s.lt x hx
      have hbx := h.lt b x hb hx'
      refine ⟨x, hx, ?_⟩
      rw [h.as g k q hg hk hqn, ← e, h.as (m b x) g k hbx hg hk, ← h.as g (m b x) (m g k) hg hbx hgk, ← h.as g b x hg hb hx', e1, h.zl x hx']
    · rintro ⟨x, hx, e⟩
      have hx' := s.lt x hx
      have hbx := h.lt b x hb hx'
      refine ⟨_, (mem _).mpr ⟨x, hx, rfl⟩, ?_⟩
      rw [h.as (m b x) g k hbx hg hk, h.as b x (m g k) hb hx' hgk, e, ← h.as b (m g k) q hb hgk hqn, ← h.as b g k hb hg hk, e2, h.zl k hk]
  cases e3 : phi m l O k with
  | true => exact (key.mp e3).symm
  | false =>
    cases e4 : phi m P O (m g k) with
    | true => rw [key.mpr e4] at e3; cases e3
    | false => rfl
theorem mk_far (h : Hse n m) (s : Sub n m P) (so : Sub n m O) {g : Nat} (hg : g < n) {l : List Nat} (L : Led n m O g l) : mkN n m P l = mkN n m P O := by
  have sl := L.sub h so hg
  refine mk_eq_of h s s so.lt sl.lt rfl ?_
  obtain ⟨b, hb, e1, e2, mem⟩ := L.ex
  unfold PhiN
  rw [← cnt_bij (f := fun k => m k b) (p := phi m P O) (fun k hk => h.lt k b hk hb) (fun a c ha hc e => h.rc ha hc hb e)]
  refine congrArg List.length (List.filter_congr fun k hk => ?_)
  have hk := List.mem_range.mp hk
  have hkb := h.lt k b hk hb
  have key : phi m P l k = true ↔ phi m P O (m k b) = true := by
    rw [phi_iff h s sl.lt hk, phi_iff h s so.lt hkb]
    constructor
    · intro q x hx
      have hx' := so.lt x hx
      have hbx := h.lt b x hb hx'
      obtain ⟨y, hy, e⟩ := q _ ((mem _).mpr ⟨x, hx, rfl⟩)
      refine ⟨y, hy, ?_⟩
      rw [← h.as y k b (s.lt y hy) hk hb, e, ← h.as k (m b x) g hk hbx hg, h.as (m k (m b x)) g b (h.lt _ _ hk hbx) hg hb, e1, h.zr _ (h.lt _ _ hk hbx), h.as k b x hk hb hx']
    · intro q z hz
      obtain ⟨x, hx, rfl⟩ := (mem z).mp hz
      have hx' := so.lt x hx
      have hbx := h.lt b x hb hx'
      obtain ⟨y, hy, e⟩ := q x hx
      refine ⟨y, hy, ?_⟩
      have hyk := h.lt y k (s.lt y hy) hk
      refine h.rc hyk (h.lt _ _ hk (h.lt _ _ hbx hg)) hb ?_
      rw [h.as y k b (s.lt y hy) hk hb, e, ← h.as k (m b x) g hk hbx hg, h.as (m k (m b x)) g b (h.lt _ _ hk hbx) hg hb, e1, h.zr _ (h.lt _ _ hk hbx), h.as k b x hk hb hx']
  cases e3 : phi m P l k with
  | true => exact (key.mp e3).symm
  | false =>
    cases e4 : phi m P O (m k b) with
    | true => rw [key.mpr e4] at e3; cases e3
    | false => rfl
theorem phi_all (h : Hse n m) (s : Sub n m P) (ho : ∀ k ∈ O, k < n) (q : ∀ g, g < n → phi m P O g = true) : PhiN n m P O = n := by
  unfold PhiN
  rw [List.filter_eq_self.mpr fun g hg => q g (List.mem_range.mp hg), List.length_range]
/-- at nought's part: how many shares -/
theorem mk_zero (h : Hse n m) (s : Sub n m P) : mkN n m P [0] = n / P.length := by
  have ho : ∀ k ∈ [0], k < n := fun k hk => by rw [List.mem_singleton.mp hk]; exact h.pos
  have h1 := mk_mul h s ho
  rw [phi_all h s ho fun g hg => (phi_iff h s ho hg).mpr fun k hk => by rw [List.mem_singleton.mp hk, h.zr g hg]; exact s.refl h hg] at h1
  have : 0 < P.length := List.length_pos_of_mem s.ze
  exact (Nat.div_eq_of_eq_mul_left this h1.symm).symm
theorem sub_whole (h : Hse n m) : Sub n m (List.range n) := ⟨List.pairwise_lt_range, fun x hx => List.mem_range.mp hx, List.mem_range.mpr h.pos, fun x hx y hy => List.mem_range.mpr (h.lt x y (List.mem_range.mp hx) (List.mem_range.mp hy))⟩
theorem whole_cls (h : Hse n m) {g k : Nat} (hg : g < n) (hk : k < n) : cls m (List.range n) g k := by
  obtain ⟨b, hb, e1, e2⟩ := h.inv2 hg
  exact ⟨m k b, List.mem_range.mpr (h.lt k b hk hb), by rw [h.as k b g hk hb hg, e2, h.zr k hk]⟩
/-- of the whole: one -/
theorem mk_of_whole (h : Hse n m) (ho : ∀ k ∈ O, k < n) : mkN n m (List.range n) O = 1 := by
  have s := sub_whole h
  have h1 := mk_mul h s ho
  rw [phi_all h s ho fun g hg => (phi_iff h s ho hg).mpr fun k hk => whole_cls h hg (h.lt g k hg (ho k hk)), List.length_range] at h1
  exact Nat.eq_of_mul_eq_mul_right h.pos (by rw [Nat.one_mul]; exact h1)
/-- at the whole: none but of the whole -/
theorem mk_at_whole (h : Hse n m) (s : Sub n m P) : mkN n m P (List.range n) = if P = List.range n then 1 else 0 := by
  have sw := sub_whole h
  by_cases e : P = List.range n
  · rw [if_pos e, e]; exact mk_of_whole h sw.lt
  · rw [if_neg e]
    have h1 := mk_mul h s sw.lt
    have no : ∀ g, g < n → phi m P (List.range n) g ≠ true := fun g hg z => by
      rw [phi_iff h s sw.lt hg] at z
      refine e (rising_eq s.up sw.up fun x => ⟨fun hx => List.mem_range.mpr (s.lt x hx), fun hx => ?_⟩)
      have hx := List.mem_range.mp hx
      obtain ⟨b, hb, e1, e2⟩ := h.inv2 hg
      have hxg := h.lt x g hx hg
      obtain ⟨y, hy, e3⟩ := z (m b (m x g)) (List.mem_range.mpr (h.lt _ _ hb hxg))
      rw [← h.as g b (m x g) hg hb hxg, e1, h.zl _ hxg] at e3
      rw [← h.rc (s.lt y hy) hx hg e3]
      exact hy
    have : PhiN n m P (List.range n) = 0 := by
      unfold PhiN
      rw [List.filter_eq_nil_iff.mpr fun g hg => no g (List.mem_range.mp hg)]
      rfl
    rw [this] at h1
    have hp : 0 < P.length := List.length_pos_of_mem s.ze
    rcases Nat.mul_eq_zero.mp h1 with z | z
    · exact z
    · omega
end
/-! promises -/
def spShares : VSp := fun ds t Q _ => ∃ (n : Nat) (m : Nat → Nat → Nat) (P : List Nat), ds = [houD n m, .tup (nsD P)] ∧ Hse n m ∧ n ≤ 60 ∧ Sub n m P ∧ Q (.tup [.lst (nsD (lst m P n)), .lst (nsD ((List.range n).map (plc m P)))]) t
def spHolds : VSp := fun ds t Q _ => ∃ (n : Nat) (m : Nat → Nat → Nat) (P O : List Nat) (g : Nat), ds = [houD n m, .lst (nsD ((List.range n).map (plc m P))), nD g, .tup (nsD O)] ∧ Hse n m ∧ n ≤ 60 ∧ Sub n m P ∧ Sub n m O ∧ g < n ∧ Q (.bl (phi m P O g)) t
def spMark : VSp := fun ds t Q _ => ∃ (n : Nat) (m : Nat → Nat → Nat) (P O : List Nat), ds = [houD n m, .tup (nsD P), .tup (nsD O)] ∧ Hse n m ∧ n ≤ 60 ∧ Sub n m P ∧ Sub n m O ∧ Q (nD (mkN n m P O)) t
def spLPart (p : Addr) : VSp := fun ds t Q _ => ∃ (n : Nat) (m : Nat → Nat → Nat), ds = [.obj p, houD n m] ∧ Hse n m ∧ n ≤ 60 ∧ ∀ l, Sub n m l → Q (.tup (nsD l)) t
def spLLed : VSp := fun ds t Q _ => ∃ (n : Nat) (m : Nat → Nat → Nat) (P : List Nat) (g : Nat), ds = [houD n m, .tup (nsD P), nD g] ∧ Hse n m ∧ n ≤ 60 ∧ Sub n m P ∧ g < n ∧ ∀ l, Led n m P g l → Q (.tup (nsD l)) t
theorem sorted_ns {L : List Nat} (nd : L.Nodup) {ns : List Int} (h : ns.Perm (L.map fun i : Nat => (i : Int))) (hp : ns.Pairwise (· ≤ ·)) : ∃ l : List Nat, ns.map Dt.int = nsD l ∧ l.Perm L ∧ l.Pairwise (· < ·) := by
  obtain ⟨k, rfl, hk⟩ := perm_cast h
  refine ⟨k, (nsD_ints k).symm, hk, ?_⟩
  have nk : k.Nodup := (List.Perm.nodup_iff hk).mpr nd
  have h1 : k.Pairwise (fun a b : Nat => ((a : Nat) : Int) ≤ ((b : Nat) : Int)) := List.pairwise_map.mp hp
  exact (List.pairwise_and_iff.mpr ⟨h1, nk⟩).imp fun {a b} z => by have := z.1; have := z.2; omega
theorem rep_m1 (n : Nat) : List.flatten (List.replicate n [Dt.int (-1)]) = (List.replicate n (-1 : Int)).map Dt.int := by
  induction n with
  | zero => rfl
  | succ n ih => rw [List.replicate_succ, List.flatten_cons, ih, List.replicate_succ]; rfl
/-- places on the way: j numbers gone through, i of the part at the next one -/
def pJ (n : Nat) (m : Nat → Nat → Nat) (P : List Nat) (j i : Nat) : List Int := (List.range n).map fun g => if rp m P g < j then ((plc m P g : Nat) : Int) else if g ∈ (P.take i).map (m · j) then (((lst m P j).length : Nat) : Int) else -1
section
variable {n : Nat} {m : Nat → Nat → Nat} {P : List Nat}
theorem pJ_len (j i : Nat) : (pJ n m P j i).length = n := by unfold pJ; rw [List.length_map, List.length_range]
theorem pJ_start : pJ n m P 0 0 = List.replicate n (-1) := by
  refine List.ext_getElem? fun g => ?_
  unfold pJ
  rw [List.getElem?_map, List.getElem?_replicate]
  by_cases hg : g < n
  · rw [List.getElem?_range hg, if_pos hg]
    show some (if rp m P g < 0 then _ else _) = _
    rw [if_neg (Nat.not_lt_zero _), if_neg (by simp)]
  · rw [List.getElem?_eq_none (by rw [List.length_range]; omega), if_neg hg]
    rfl
theorem pJ_get {j i g : Nat} (hg : g < n) : (pJ n m P j i)[g]? = some (if rp m P g < j then ((plc m P g : Nat) : Int) else if g ∈ (P.take i).map (m · j) then (((lst m P j).length : Nat) : Int) else -1) := by
  unfold pJ
  rw [List.getElem?_map, List.getElem?_range hg]
  rfl
theorem pJ_zero {j g : Nat} (hg : g < n) : (pJ n m P j 0)[g]? = some (if rp m P g < j then ((plc m P g : Nat) : Int) else -1) := by
  rw [pJ_get hg]
  simp
theorem pJ_set (h : Hse n m) (s : Sub n m P) {j i x : Nat} (hj : j < n) (hr : rp m P j = j) (hx : P[i]? = some x) : (pJ n m P j i).set (m x j) (((lst m P j).length : Nat) : Int) = pJ n m P j (i + 1) := by
  have hxP := List.mem_of_getElem? hx
  have hxj := h.lt x j (s.lt x hxP) hj
  have et : P.take (i + 1) = P.take i ++ [x] := by rw [List.take_add_one, hx]; rfl
  refine List.ext_getElem? fun g => ?_
  by_cases hg : g < n
  · by_cases z : g = m x j
    · subst z
      rw [List.getElem?_set_self (by rw [pJ_len]; exact hg), pJ_get hg, ← s.rp_eq h hj ⟨x, hxP, rfl⟩, hr, if_neg (Nat.lt_irrefl _), if_pos (List.mem_map.mpr ⟨x, by rw [et]; simp, rfl⟩)]
    · rw [List.getElem?_set_ne (Ne.symm z), pJ_get hg, pJ_get hg]
      have : g ∈ (P.take (i + 1)).map (m · j) ↔ g ∈ (P.take i).map (m · j) := by
        rw [et, List.map_append, List.mem_append]
        constructor
        · rintro (q | q)
          · exact q
          · exact absurd (List.mem_singleton.mp q) z
        · exact .inl
      simp only [this]
  · rw [List.getElem?_eq_none (by rw [List.length_set, pJ_len]; omega), List.getElem?_eq_none (by rw [pJ_len]; omega)]
theorem pJ_next (h : Hse n m) (s : Sub n m P) {j : Nat} (hj : j < n) (hr : rp m P j = j) : pJ n m P j P.length = pJ n m P (j + 1) 0 := by
  refine List.ext_getElem? fun g => ?_
  by_cases hg : g < n
  · rw [pJ_get hg, pJ_zero hg, List.take_of_length_le (Nat.le_refl _)]
    have : g ∈ P.map (m · j) ↔ rp m P g = j := by
      rw [List.mem_map]
      constructor
      · rintro ⟨x, hx, rfl⟩
        rw [← s.rp_eq h hj ⟨x, hx, rfl⟩, hr]
      · intro e
        obtain ⟨x, hx, e2⟩ := s.cls_of_rp h hj hg (by rw [hr, e])
        exact ⟨x, hx, e2⟩
    by_cases h1 : rp m P g < j
    · rw [if_pos h1, if_pos (by omega)]
    · rw [if_neg h1]
      by_cases h2 : rp m P g = j
      · rw [if_pos (this.mpr h2), if_pos (by omega)]
        unfold plc
        rw [h2]
      · rw [if_neg fun z => h2 (this.mp z), if_neg (by omega)]
  · rw [List.getElem?_eq_none (by rw [pJ_len]; omega), List.getElem?_eq_none (by rw [pJ_len]; omega)]
theorem pJ_skip (h : Hse n m) (s : Sub n m P) {j : Nat} (hj : j < n) (hr : rp m P j ≠ j) : pJ n m P j 0 = pJ n m P (j + 1) 0 := by
  refine List.ext_getElem? fun g => ?_
  by_cases hg : g < n
  · rw [pJ_zero hg, pJ_zero hg]
    have : rp m P g ≠ j := fun e => hr (by rw [← e, s.rp_rp h hg])
    by_cases h1 : rp m P g < j
    · rw [if_pos h1, if_pos (by omega)]
    · rw [if_neg h1, if_neg (by omega)]
  · rw [List.getElem?_eq_none (by rw [pJ_len]; omega), List.getElem?_eq_none (by rw [pJ_len]; omega)]
theorem pJ_end (h : Hse n m) (s : Sub n m P) : (pJ n m P n 0).map Dt.int = nsD ((List.range n).map (plc m P)) := by
  refine List.ext_getElem? fun g => ?_
  unfold nsD
  rw [List.getElem?_map, List.getElem?_map, List.getElem?_map]
  by_cases hg : g < n
  · rw [pJ_zero hg, List.getElem?_range hg, if_pos (s.rp_lt h hg)]
    rfl
  · rw [List.getElem?_eq_none (by rw [pJ_len]; omega), List.getElem?_eq_none (by rw [List.length_range]; omega)]
    rfl
end
end VL
namespace VL
open PySem PySem.Spec PyProof.Rows L2 HM
/-! ### list.index -/
def vIndex (ta tb : VTE) : VTE := fun env n Q => ta env n fun d1 env1 n1 => (∃ ds, d1 = .lst ds) ∧ vCons tb vNil env1 n1 fun as env2 n2 => ∃ (ns : List Int) (k : Int) (j : Nat), d1 = .lst (ns.map Dt.int) ∧ as = [.int k] ∧ ns[j]? = some k ∧ (∀ i z, i < j → ns[i]? = some z → z ≠ k) ∧ Q (nD j) env2 n2
section
variable {X : Cx} {c : Fc} {o e : Expr} {ta tb : VTE} {apos cpos : Pos}
theorem ve_index (ha : PE X o (tOf c ta)) (hb : PE X e (tOf c tb))
    (hbase : attributeBase o "index" X.env (eval o X.env) = eval o X.env := by rfl)
    (hfew : ((backTo cpos (starEach [e] X.env)).all (fun x => !x.1) && (backToKw cpos (keywordEach [] X.env)).all (fun x => x.1.isSome)
      && decide ([e].length + ([] : List Keyword).length + (if ([] : List Keyword).isEmpty then 0 else 1) < 30)) = true := by rfl)
    (hline : (apos.endLine == cpos.line) = true := by rfl) (hs : starEach [e] X.env = (false, eval e X.env) :: starEach [] X.env := by rfl) (hplain : (backTo cpos (starEach [] X.env)).any (·.1) = false := by rfl) :
    PE X (.Call (.Attribute o "index" apos) [e] [] cpos) (tOf c (vIndex ta tb)) :=
  PE.imp (pe_bm PySem.F.plainAttrs_list PySem.F.slot_list_index PySem.F.type_list_index mt_index ha (va_cons hb va_nil hs) hbase hfew hline hs hplain) fun σ H R ⟨F, env, n, Q, rr, q, k⟩ => by
    refine ⟨F, env, n, _, rr, q, fun v H1 F1 d1 env1 n1 r1 u1 p1 q1 => ?_⟩
    obtain ⟨⟨ds, rfl⟩, q1⟩ := q1
    obtain ⟨a, xs, rfl, hF, rx⟩ := p1.lst_inv
    refine ⟨.inl ⟨rfl, xs, .inl (.inl (r1.sub _ _ hF))⟩, F1, env1, n1, _, r1, q1, fun vs H2 F2 ds2 env2 n2 r2 u2 p2 q2 => ?_⟩
    · obtain ⟨ns, k', j, e1, rfl, e3, e4, q3⟩ := q2
      cases e1
      obtain ⟨v2, rfl, pv⟩ := p2.one
      rw [pv.int_inv]
      have ex : xs = ns.map V.int := rx.of_ints
      refine ⟨a, ns.map V.int, .int k', j, .int k', rfl, rfl, .inl (.inl (by rw [← ex]; exact r2.sub _ _ (u2 _ _ hF))), rfl, List.all_eq_true.mpr fun z hz => ?_, by rw [List.getElem?_map, e3]; rfl, by simp [eqV], fun i z hi hz => ?_, k _ _ F2 _ env2 n2 r2 (u1.trans u2) (.int _) q3⟩
      · obtain ⟨y, _, rfl⟩ := List.mem_map.mp hz
        rfl
      · rw [List.getElem?_map] at hz
        obtain ⟨y, hy, rfl⟩ := Option.map_eq_some_iff.mp hz
        have := e4 i y hi hy
        simpa [eqV] using this
end
/-! ### the pen and tables of generators -/
def tabAm (am : Am) (Ps : List Addr) : Am where
  sp b := am.sp b ∨ b ∈ Ps
  ok n H := am.ok n H ∧ ∀ P ∈ Ps, GxR.TabG H P
  trk := fun {n H b} ⟨h1, h2⟩ hb z => by
    rcases hb with hb | hb
    · exact am.trk h1 hb z
    · obtain ⟨ps, e, _⟩ := h2 b hb
      rw [e] at z; cases z
  ntp := fun {n H b xs} ⟨h1, h2⟩ hb z => by
    rcases hb with hb | hb
    · exact am.ntp h1 hb z
    · obtain ⟨ps, e, _⟩ := h2 b hb
      rw [e] at z; cases z
  mono := fun {n H H'} ⟨h1, h2⟩ e => ⟨am.mono h1 fun b hb => e b (.inl hb), fun P hP => by
    obtain ⟨ps, h3, h4⟩ := h2 P hP
    exact ⟨ps, by rw [e P (.inr hP)]; exact h3, h4⟩⟩
theorem tab_pen {K : PySem.W.Frag} {am : Am} {p : Addr} {Ps : List Addr} (h : PenIn K am p) : PenIn K (tabAm am Ps) p where
  sp := .inl h.sp
  rd := fun {n H} h1 => h.rd h1.1
  wr := fun {n H a t l g} h1 e t' l' g' h2 h3 => ⟨h.wr h1.1 e t' l' g' h2 h3, fun P hP => by
    obtain ⟨ps, e1, e2⟩ := h1.2 P hP
    exact ⟨ps, by rw [upd_ne fun z => by rw [z, e] at e1; cases e1]; exact e1, e2⟩⟩
theorem tab_in {am : Am} {P : Addr} {Ps : List Addr} (no : ∀ {n H b}, am.ok n H → am.sp b → ∀ ps, H b ≠ some (.tbl ps)) (hP : P ∈ Ps) : TabIn (tabAm am Ps) P where
  sp := .inr hP
  rd := fun {n H} h => h.2 P hP
  wr := fun {n H H'} h t => ⟨am.mono h.1 fun b hb => t.2 b fun z => by
    obtain ⟨ps, e, _⟩ := h.2 P hP
    exact no h.1 hb ps (by rw [z]; exact e), fun P' hP' => by
    by_cases z : P' = P
    · rw [z]; exact t.1
    · obtain ⟨ps, e1, e2⟩ := h.2 P' hP'
      exact ⟨ps, by rw [t.2 P' z]; exact e1, e2⟩⟩
theorem pen_notab {K : PySem.W.Frag} {p a : Addr} {ns : List Int} {q : Prop} {n : Nat} {H : Hp} {b : Addr} (h : (penAm K p a ns q).ok n H) (hb : (penAm K p a ns q).sp b) (ps : Array Value) : H b ≠ some (.tbl ps) := fun z => by
  obtain ⟨⟨t, l, g, h1, _⟩, h2, _⟩ := h
  rcases hb with rfl | ⟨hq, rfl⟩
  · rw [h1] at z; cases z
  · obtain ⟨ob, h3⟩ := h2 hq
    rw [h3] at z; cases z
theorem pss_penT {X : Cx} {b : List Stmt} {K : PySem.W.Frag} {Ps : List Addr} {ts : Addr → VTS} (h : ∀ (am : Am) (p : Addr), PenIn K am p → (∀ P ∈ Ps, TabIn am P) → ∀ F0 H0, PSs X b (sOf ⟨am, F0, H0⟩ (ts p))) : PSs X b (fun D σ H => ∃ am p, PenIn K am p ∧ (∀ P ∈ Ps, TabIn am P) ∧ ∃ F0 H0, sOf ⟨am, F0, H0⟩ (ts p) D σ H) :=
  ⟨fun pins s σ H D I ⟨am, p, PI, TI, F0, H0, q⟩ => (h am p PI TI F0 H0).run pins s σ H D I q⟩
def spLawT (K : PySem.W.Frag) (Ps : List Addr) : Sp := fun vs H Q _ => ∃ (a : Addr) (ns : List Int), vs = [.ref a] ∧ Scr K H a ns ∧ ns.length ≤ 63 ∧ (∀ P ∈ Ps, GxR.TabG H P) ∧ ∀ H', Q (.bl true) H'
/-- the start of a law with tables -/
theorem pen_startT {K : PySem.W.Frag} {H : Hp} {a p : Addr} {ns : List Int} {D : Ends} {ts : Addr → VTS} {σ : L2.St} {rest : List (Option V)} {Ps : List Addr} (eσ : σ = some (.ref a) :: some (.ref p) :: rest) (hS : Scr K H a ns) (hl : ns.length ≤ 63) (hT : ∀ P ∈ Ps, GxR.TabG H P) (np : H p = none) (hD : ∀ H', D.rt (.bl true) H')
    (q : ts p { nx := fun _ _ => False, rt := fun d _ => d = .bl true } (.no :: .fz (.obj p) :: rest.map fun _ => .no) 0) :
    ∃ am p', PenIn K am p' ∧ (∀ P ∈ Ps, TabIn am P) ∧ ∃ F0 H0, sOf ⟨am, F0, H0⟩ (ts p') D σ (upd H p (.dK (pk4 a 0 0 false))) := by
  subst eσ
  refine ⟨tabAm (penAm K p a ns (∃ ob, H a = some (.frz ob (.lst (ns.map V.int))))) Ps, p, tab_pen (pen_in hl), fun P hP => tab_in pen_notab hP, fun _ => none, upd H p (.dK (pk4 a 0 0 false)), fun _ => none, _, 0, _, ?_, q, ⟨fun _ _ _ _ _ _ _ z => z.elim, fun F' H' σ' env' n' v d _ _ rv e => ?_, fun _ _ _ _ _ _ _ z => z.elim, fun _ _ _ _ _ _ _ z => z.elim⟩⟩
  · refine ⟨fun _ _ e => (by cases e), fun _ _ => rfl, ⟨⟨⟨0, 0, false, upd_same, by decide, by decide⟩, fun ⟨ob, h⟩ => ⟨ob, by rw [upd_ne (ne_of_none h np)]; exact h⟩, fun n H' => scr_out hS n H'⟩, fun P hP => ?_⟩, fun _ _ e => e, fun _ _ _ _ e => e, fun _ _ e _ => e, by simp, fun i s e => ?_, fun i j b k k' _ e1 _ _ => ?_⟩
    · obtain ⟨ps, e1, e2⟩ := hT P hP
      exact ⟨ps, by rw [upd_ne (ne_of_none e1 np)]; exact e1, e2⟩
    · match i, e with
      | 0, e => cases e; trivial
      | 1, e => cases e; exact ⟨_, rfl, .obj p⟩
      | i + 2, e =>
        have e' : (rest.map fun _ => Sl.no)[i]? = some s := e
        rw [List.getElem?_map] at e'
        obtain ⟨_, _, rfl⟩ := Option.map_eq_some_iff.mp e'
        trivial
    · match i, e1 with
      | 0, e => cases e
      | 1, e => cases e
      | i + 2, e =>
        have e' : (rest.map fun _ => Sl.no)[i]? = some (.ow k) := e
        rw [List.getElem?_map] at e'
        obtain ⟨_, _, z⟩ := Option.map_eq_some_iff.mp e'
        cases z
  · have e' : d = .bl true := e
    rw [e'] at rv
    rw [rv.bl_inv]
    exact hD _
end VL
namespace VL
open PySem PySem.Spec PyProof.Rows L2 HM
/-! ### plain data -/
theorem pl_tn1 (l : List Nat) : pl (.tup (nsD l)) = true := pls_map (fun _ => rfl) l
theorem dep_tn1 (l : List Nat) : dep (.tup (nsD l)) ≤ 64 := Nat.le_trans (Nat.succ_le_succ (deps_map (f := nD) (k := 0) (fun _ => Nat.le_refl 0) l)) (by decide)
theorem pl_hou (n : Nat) (m : Nat → Nat → Nat) : pl (houD n m) = true := pls_map (fun a => pl_ns _) _
theorem dep_hou (n : Nat) (m : Nat → Nat → Nat) : dep (houD n m) ≤ 64 := Nat.le_trans (Nat.succ_le_succ (deps_map (f := fun a => rowD n (m a)) (k := 1) (fun a => Nat.succ_le_succ (deps_map (f := nD) (k := 0) (fun _ => Nat.le_refl 0) _)) _)) (by decide)
theorem rng_ns (n : Nat) : rngD 0 ((n : Nat) : Int).toNat = nsD (List.range n) := by
  rw [show ((n : Int)).toNat = n by omega]
  unfold rngD nsD
  refine List.map_congr_left fun i _ => ?_
  rw [Int.zero_add]
  rfl
theorem tup_ns_iff (a b : List Nat) {p : Bool} (h : p = true ↔ Dt.tup (nsD a) = .tup (nsD b)) : p = true ↔ a = b :=
  h.trans ⟨fun z => nsD_inj (by injection z), fun z => by rw [z]⟩
/-! ### parts led: by classes -/
section
variable {n : Nat} {m : Nat → Nat → Nat} {P : List Nat}
theorem Led.iff (h : Hse n m) (s : Sub n m P) {g : Nat} (hg : g < n) {l : List Nat} (L : Led n m P g l) (y : Nat) : y ∈ l ↔ y < n ∧ cls m P g (m g y) := by
  obtain ⟨b, hb, e1, e2, mem⟩ := L.ex
  rw [mem y]
  constructor
  · rintro ⟨x, hx, rfl⟩
    have hx' := s.lt x hx
    have hbx := h.lt b x hb hx'
    refine ⟨h.lt _ _ hbx hg, x, hx, ?_⟩
    rw [← h.as g (m b x) g hg hbx hg, ← h.as g b x hg hb hx', e1, h.zl x hx']
  · rintro ⟨hy, x, hx, e⟩
    have hx' := s.lt x hx
    refine ⟨x, hx, ?_⟩
    rw [h.as b x g hb hx' hg, e, ← h.as b g y hb hg hy, e2, h.zl y hy]
theorem Led.cls_eq (h : Hse n m) (s : Sub n m P) {g k : Nat} (hg : g < n) (c : cls m P g k) {l l' : List Nat} (L : Led n m P g l) (L' : Led n m P k l') : l = l' := by
  have hk := s.lt2 h hg c
  refine rising_eq L.up L'.up fun y => ?_
  rw [L.iff h s hg y, L'.iff h s hk y]
  refine and_congr_right fun hy => ?_
  have hgy := h.lt g y hg hy
  have c2 : cls m P (m g y) (m k y) := by
    obtain ⟨z, hz, rfl⟩ := id c
    exact ⟨z, hz, (h.as z g y (s.lt z hz) hg hy).symm⟩
  exact ⟨fun d => s.trans h hk (s.symm h hg c) (s.trans h hg d c2), fun d => s.trans h hg c (s.trans h hk d (s.symm h hgy c2))⟩
theorem Led.uniq (h : Hse n m) (s : Sub n m P) {g : Nat} (hg : g < n) {l l' : List Nat} (L : Led n m P g l) (L' : Led n m P g l') : l = l' := L.cls_eq h s hg (s.refl h hg) L'
theorem led_ex (h : Hse n m) (s : Sub n m P) {g : Nat} (hg : g < n) : ∃ l, Led n m P g l := by
  obtain ⟨b, hb, e1, e2⟩ := h.inv2 hg
  refine ⟨(List.range n).filter fun y => decide (y ∈ P.map fun x => m (m b x) g), List.Pairwise.filter _ List.pairwise_lt_range, b, hb, e1, e2, fun y => ?_⟩
  rw [List.mem_filter, List.mem_range, decide_eq_true_iff, List.mem_map]
  exact ⟨fun z => z.2, fun ⟨x, hx, e⟩ => ⟨by rw [← e]; exact h.lt _ _ (h.lt b x hb (s.lt x hx)) hg, x, hx, e⟩⟩
theorem lst_mul (h : Hse n m) (s : Sub n m P) : (lst m P n).length * P.length = n := by
  have := mk_mul (O := []) h s (fun _ z => by cases z)
  unfold mkN PhiN at this
  rw [List.filter_eq_self.mpr (show ∀ g ∈ lst m P n, phi m P [] g = true from fun g _ => rfl), List.filter_eq_self.mpr (show ∀ g ∈ List.range n, phi m P [] g = true from fun g _ => rfl), List.length_range] at this
  exact this
theorem lst_plc {s : Nat} {g : Nat} : ∀ {j : Nat}, (lst m P j)[s]? = some g → g < j ∧ plc m P g = s
  | 0, e => by simp [lst] at e
  | j + 1, e => by
    rw [lst_succ] at e
    by_cases hs : s < (lst m P j).length
    · rw [List.getElem?_append_left hs] at e
      have := lst_plc (j := j) e
      exact ⟨by omega, this.2⟩
    · rw [List.getElem?_append_right (by omega)] at e
      by_cases z : isL m P j = true
      · rw [if_pos z] at e
        have hz : s - (lst m P j).length = 0 := by
          have := (List.getElem?_eq_some_iff.mp e).1
          rw [List.length_singleton] at this
          omega
        rw [hz] at e
        cases e
        have hr : rp m P g = g := of_decide_eq_true z
        refine ⟨by omega, ?_⟩
        unfold plc
        rw [hr]
        omega
      · rw [if_neg z] at e
        simp at e
theorem cls_plc (h : Hse n m) (s : Sub n m P) {g k : Nat} (hg : g < n) (hk : k < n) : plc m P g = plc m P k ↔ cls m P g k :=
  (s.plc_iff h hg hk).trans ⟨fun e => s.cls_of_rp h hg hk e, fun c => s.rp_eq h hg c⟩
end
/-- the numbers that lead the part to itself -/
def spStay : VSp := fun ds t Q _ => ∃ (n : Nat) (m : Nat → Nat → Nat) (P : List Nat), ds = [houD n m, .tup (nsD P)] ∧ Hse n m ∧ n ≤ 60 ∧ Sub n m P ∧ ∀ S : List Nat, S.Pairwise (· < ·) → (∀ g, g ∈ S ↔ g < n ∧ Led n m P g P) → Q (.tup (nsD S)) t
end VL
namespace VL
open PySem PySem.Spec PyProof.Rows L2 HM
/-- it is a part -/
def spIsPart : VSp := fun ds t Q _ => ∃ (n : Nat) (m : Nat → Nat → Nat) (P : List Nat), ds = [houD n m, .tup (nsD P)] ∧ Hse n m ∧ n ≤ 60 ∧ Sub n m P ∧ Q (.bl true) t
end VL
namespace VL
open PySem PySem.Spec PyProof.Rows L2 HM
theorem Sub.zero {n : Nat} {m : Nat → Nat → Nat} {P : List Nat} (s : Sub n m P) : P[0]? = some 0 := by
  cases P with
  | nil => cases s.ze
  | cons a l =>
    have : a = 0 := by
      rcases List.mem_cons.mp s.ze with z | z
      · exact z.symm
      · have := (List.pairwise_cons.mp s.up).1 0 z
        omega
    rw [this]
    rfl
theorem rising_ints {L : List Nat} (up : L.Pairwise (· < ·)) {ns : List Int} (pw : ns.Pairwise (· < ·)) (mem : ∀ j : Int, j ∈ ns ↔ decide (j ∈ L.map fun i : Nat => (i : Int)) = true) : ns.map Dt.int = nsD L := by
  have e : ns = L.map fun i : Nat => (i : Int) := by
    have pm : ns.Perm (L.map fun i : Nat => (i : Int)) := (List.perm_ext_iff_of_nodup (pw.imp fun z => Int.ne_of_lt z) (List.pairwise_map.mpr (up.imp fun z e => by omega))).mpr fun j => by rw [mem j, decide_eq_true_iff]
    exact List.Perm.eq_of_pairwise (fun a b _ _ h1 h2 => by omega) pw (List.pairwise_map.mpr (up.imp fun z => by omega)) pm
  rw [e, ← nsD_ints]
theorem mem_ints {L : List Nat} {i : Nat} : ((i : Nat) : Int) ∈ (L.map fun i : Nat => (i : Int)) ↔ i ∈ L := by
  rw [List.mem_map]
  exact ⟨fun ⟨a, ha, ea⟩ => by have : a = i := Int.ofNat_inj.mp ea; rw [← this]; exact ha, fun z => ⟨i, z, rfl⟩⟩
theorem pl_ls1 (l : List Nat) : pl (.lst (nsD l)) = true := pls_map (fun _ => rfl) l
theorem dep_ls1 (l : List Nat) : dep (.lst (nsD l)) ≤ 64 := Nat.le_trans (Nat.succ_le_succ (deps_map (f := nD) (k := 0) (fun _ => Nat.le_refl 0) l)) (by decide)
end VL
namespace VL
open PySem PySem.Spec PyProof.Rows L2 HM
/-- two like tuples of numbers -/
def spSameT : VSp := fun ds t Q _ => ∃ a b : List Nat, ds = [.tup (nsD a), .tup (nsD b)] ∧ a.length ≤ 60 ∧ a = b ∧ Q (.bl true) t
theorem sameT_imp : ∀ ds n Q E, spSameT ds n Q E → spSameG 1 ds n Q E := fun ds n Q E ⟨a, b, e, ha, hb, q⟩ => ⟨_, _, e, wd_ns a (by omega), wd_ns b (by rw [← hb]; omega), fun c hc => by
  rw [hc.mpr (by rw [hb])]
  exact q⟩
section
variable {n : Nat} {m : Nat → Nat → Nat} {P : List Nat}
theorem led_zero (h : Hse n m) (s : Sub n m P) : Led n m P 0 P := ⟨s.up, 0, h.pos, h.zl 0 h.pos, h.zl 0 h.pos, fun y => by
  constructor
  · intro hy
    exact ⟨y, hy, by rw [h.zl y (s.lt y hy), h.zr y (s.lt y hy)]⟩
  · rintro ⟨x, hx, e⟩
    rw [h.zl x (s.lt x hx), h.zr x (s.lt x hx)] at e
    rw [← e]
    exact hx⟩
/-- by one, then by another -/
theorem Led.then_ (h : Hse n m) (s : Sub n m P) {a b : Nat} (ha : a < n) (hb : b < n) {l l2 : List Nat} (L : Led n m P a l) (L2 : Led n m l b l2) : Led n m P (m a b) l2 := by
  have hab := h.lt a b ha hb
  obtain ⟨l3, L3⟩ := led_ex h s hab
  have sl := L.sub h s ha
  have e : l3 = l2 := rising_eq L3.up L2.up fun y => by
    rw [L3.iff h s hab y, L2.iff h sl hb y]
    refine and_congr_right fun hy => ?_
    constructor
    · rintro ⟨z, hz, e⟩
      have hz' := s.lt z hz
      obtain ⟨c, hc, e1, e2⟩ := h.inv2 hb
      have hby := h.lt b y hb hy
      have hx := h.lt _ c hby hc
      have ex : m (m (m b y) c) b = m b y := by rw [h.as (m b y) c b hby hc hb, e2, h.zr _ hby]
      refine ⟨m (m b y) c, (L.iff h s ha _).mpr ⟨hx, z, hz, ?_⟩, ex⟩
      refine h.rc (h.lt z a hz' ha) (h.lt a _ ha hx) hb ?_
      rw [h.as z a b hz' ha hb, e, h.as a _ b ha hx hb, ex, h.as a b y ha hb hy]
    · rintro ⟨x, hx, e⟩
      obtain ⟨hxn, z, hz, e1⟩ := (L.iff h s ha x).mp hx
      have hz' := s.lt z hz
      exact ⟨z, hz, by rw [← h.as z a b hz' ha hb, e1, h.as a x b ha hxn hb, e, h.as a b y ha hb hy]⟩
  rw [← e]
  exact L3
theorem led_self (h : Hse n m) (s : Sub n m P) {x : Nat} (hx : x ∈ P) : Led n m P x P := by
  obtain ⟨l, L⟩ := led_ex h s (s.lt x hx)
  have e := (led_zero h s).cls_eq h s h.pos ⟨x, hx, h.zr x (s.lt x hx)⟩ L
  rw [← e] at L
  exact L
theorem stay_sub (h : Hse n m) (s : Sub n m P) {S : List Nat} (up : S.Pairwise (· < ·)) (mem : ∀ g, g ∈ S ↔ g < n ∧ Led n m P g P) : Sub n m S :=
  ⟨up, fun x hx => ((mem x).mp hx).1, (mem 0).mpr ⟨h.pos, led_zero h s⟩, fun x hx y hy => by
    obtain ⟨h1, h2⟩ := (mem x).mp hx
    obtain ⟨h3, h4⟩ := (mem y).mp hy
    exact (mem _).mpr ⟨h.lt x y h1 h3, h2.then_ h s h1 h3 h4⟩⟩
end
end VL
namespace VL
open PySem PySem.Spec PyProof.Rows L2 HM
/-! ### list.index of a list by its name, min -/
def vIndexO (i : Nat) (tb : VTE) : VTE := fun env n Q => (∃ ds, rdS env i (.lst ds)) ∧ vCons tb vNil env n fun as env2 n2 => ∃ (ns : List Int) (k : Int) (j : Nat), rdS env2 i (.lst (ns.map Dt.int)) ∧ as = [.int k] ∧ ns[j]? = some k ∧ (∀ i z, i < j → ns[i]? = some z → z ≠ k) ∧ Q (nD j) env2 n2
section
variable {X : Cx} {c : Fc} {o e : Expr} {tb : VTE} {apos cpos : Pos}
theorem ve_indexO {i : Nat} (ha : PE X o (tVar i)) (hb : PE X e (tOf c tb))
    (hbase : attributeBase o "index" X.env (eval o X.env) = eval o X.env := by rfl)
    (hfew : ((backTo cpos (starEach [e] X.env)).all (fun x => !x.1) && (backToKw cpos (keywordEach [] X.env)).all (fun x => x.1.isSome)
      && decide ([e].length + ([] : List Keyword).length + (if ([] : List Keyword).isEmpty then 0 else 1) < 30)) = true := by rfl)
    (hline : (apos.endLine == cpos.line) = true := by rfl) (hs : starEach [e] X.env = (false, eval e X.env) :: starEach [] X.env := by rfl) (hplain : (backTo cpos (starEach [] X.env)).any (·.1) = false := by rfl) :
    PE X (.Call (.Attribute o "index" apos) [e] [] cpos) (tOf c (vIndexO i tb)) :=
  PE.imp (pe_bm PySem.F.plainAttrs_list PySem.F.slot_list_index PySem.F.type_list_index mt_index ha (va_cons hb va_nil hs) hbase hfew hline hs hplain) fun σ H R ⟨F, env, n, Q, rr, ⟨⟨ds, e0⟩, q⟩, k⟩ => by
    obtain ⟨a, xs, ea, hH, rx⟩ := rr.rdL e0
    refine ⟨_, ea, .inl ⟨rfl, xs, .inl (.inl hH)⟩, F, env, n, _, rr, q, fun vs H2 F2 ds2 env2 n2 r2 u2 p2 q2 => ?_⟩
    obtain ⟨ns, k', j, e1, rfl, e3, e4, q3⟩ := q2
    obtain ⟨a2, xs2, ea2, hH2, rx2⟩ := r2.rdL e1
    rw [ea] at ea2
    cases ea2
    obtain ⟨v2, rfl, pv⟩ := p2.one
    rw [pv.int_inv]
    have ex : xs2 = ns.map V.int := rx2.of_ints
    refine ⟨a, ns.map V.int, .int k', j, .int k', rfl, rfl, .inl (.inl (by rw [← ex]; exact hH2)), rfl, List.all_eq_true.mpr fun z hz => ?_, by rw [List.getElem?_map, e3]; rfl, by simp [eqV], fun i z hi hz => ?_, k _ _ F2 _ env2 n2 r2 u2 (.int _) q3⟩
    · obtain ⟨y, _, rfl⟩ := List.mem_map.mp hz
      rfl
    · rw [List.getElem?_map] at hz
      obtain ⟨y, hy, rfl⟩ := Option.map_eq_some_iff.mp hz
      have := e4 i y hi hy
      simpa [eqV] using this
end
def dMin : RCD := fun ds Q => ∃ ns : List Int, ds = [.lst (ns.map Dt.int)] ∧ 0 < ns.length ∧ ∀ m, m ∈ ns → (∀ y, y ∈ ns → m ≤ y) → Q (.int m)
theorem lft_min {K : PySem.W.Frag} : LftC (rMin K) dMin := fun F H vs ds Q R u rp ⟨ns, h, hl, q⟩ k => by
  subst h
  obtain ⟨v, rfl, p⟩ := rp.one
  obtain ⟨a, xs, rfl, hF, rx⟩ := p.lst_inv
  rw [rx.of_ints] at hF
  exact ⟨a, ns, rfl, .inl (.inl (u _ _ hF)), hl, fun m h1 h2 => k _ _ (.int _) (q m h1 h2)⟩
section
variable {n : Nat} {m : Nat → Nat → Nat} {P : List Nat}
theorem lst_place {g : Nat} (hg : isL m P g = true) : ∀ {j : Nat}, g < j → (lst m P j)[(lst m P g).length]? = some g
  | 0, h => by omega
  | j + 1, h => by
    rw [lst_succ]
    by_cases z : g < j
    · have := lst_place hg z
      rw [List.getElem?_append_left (List.getElem?_eq_some_iff.mp this).1]
      exact this
    · have : g = j := by omega
      subst this
      rw [if_pos hg, List.getElem?_append_right (Nat.le_refl _), Nat.sub_self]
      rfl
theorem lst_nodup (j : Nat) : (lst m P j).Nodup := List.nodup_range.filter _
/-- the least of a share -/
theorem rp_least (h : Hse n m) (s : Sub n m P) {g : Nat} (hg : g < n) {r : Int} (mem : r ∈ (P.map fun x => m x g).map fun i : Nat => (i : Int)) (le : ∀ y, y ∈ (P.map fun x => m x g).map (fun i : Nat => (i : Int)) → r ≤ y) : r = ((rp m P g : Nat) : Int) := by
  obtain ⟨a, ha, rfl⟩ := List.mem_map.mp mem
  obtain ⟨x, hx, rfl⟩ := List.mem_map.mp ha
  have h1 := (rp_le (m := m) g P).2 x hx
  have h2 : m x g ≤ rp m P g := by
    rcases rp_is (m := m) g P with z | ⟨y, hy, z⟩
    · have := le ((m 0 g : Nat) : Int) (List.mem_map.mpr ⟨m 0 g, List.mem_map.mpr ⟨0, s.ze, rfl⟩, rfl⟩)
      rw [h.zl g hg] at this
      rw [z]
      omega
    · have := le ((m y g : Nat) : Int) (List.mem_map.mpr ⟨m y g, List.mem_map.mpr ⟨y, hy, rfl⟩, rfl⟩)
      rw [← z]
      omega
  have : m x g = rp m P g := by omega
  rw [this]
end
end VL
namespace HM
open PySem PySem.Spec PyProof.Rows L2
/-! ### sorted(d.values()), d.setdefault(k, v) -/
section
variable {P : Program} {w : World} {A : Around} {E : Value → Shared → Prop} {s : Shared} {T : String} {r d : Addr} {n : Nat} {Pv : Nat → Value → Prop} {OK : Heap → Prop}
theorem iadd_src {R : Result → Shared → Prop} {S : Addr} (K : PySem.W.KdlSrc P w T r d n Pv OK) (hh : A.handled = none) (hok : OK s.heap) (hn : n ≤ sizeLine) (hSr : S ≠ r) (hSd : S ≠ d) (hS : s.heap.get? S = some { cls := .type "list", data := .seq #[] })
    (hR : ∀ h' tk acc' c', (∀ b o, b ≠ S → s.heap.get? b = some o → h'.get? b = some o) → h'.get? S = some { cls := .type "list", dict := none, data := .seq acc' c', slots := #[] } → ItemsOf Pv acc' n → R (.ok (.ret (.ref S))) { s with heap := h', toks := tk }) :
    codeAny (model P w) A (.builtin "list.__iadd__" ⟨[.ref S, .ref r], []⟩) R s := by
  refine codeAny_builtin PySem.F.entry_list_iadd ?_
  rw [Around.under_plainId PySem.F.plain_list_iadd _]
  exact PySem.W.kdl_extend K hh hok S hSr hSd (.ref S) _ hS hR hn
theorem collect_src {Q : List Value → Shared → Prop} (K : PySem.W.KdlSrc P w T r d n Pv OK) (hh : A.handled = none) (hok : OK s.heap) (hn : n ≤ sizeLine)
    (hQ : ∀ h' tk acc, (∀ b o, s.heap.get? b = some o → h'.get? b = some o) → s.heap.objs.size ≤ h'.objs.size → ItemsOf Pv acc n → Q acc.toList { s with heap := h', toks := tk }) : wpAny (model P w) A (collect (.ref r)) Q E s := by
  have hlt := K.there _ hok
  unfold collect
  refine wpAny_bind (wpAny_runValue (codeAny_builtin PySem.F.entry_proto_collect ?_))
  rw [Around.under_plainId PySem.F.plain_proto_collect _]
  show wpAny _ A.in1 (newList [] >>= fun l => again (.builtin "list.__iadd__" ⟨[l, .ref r], []⟩)) _ _ s
  refine wpAny_bind (wpAny_newObj_type ?_)
  have new : (s.heap.push { cls := .type "list", data := .seq ([] : List Value).toArray }).get? s.heap.objs.size = some { cls := .type "list", data := .seq ([] : List Value).toArray } := Heap.get?_push_size _ rfl
  refine wpAny_pure ⟨plainId_quiet PySem.F.plain_list_iadd _, iadd_src (s := { s with heap := s.heap.push { cls := .type "list", data := .seq ([] : List Value).toArray } }) K hh (K.keep _ _ hok fun b _ o e => Heap.get?_push_of_some _ e) hn (Nat.ne_of_gt hlt.1) (Nat.ne_of_gt hlt.2) new fun h' tk acc' c' hk hS hacc => ?_⟩
  show wpAny _ A (load s.heap.objs.size >>= _) _ _ _
  refine wpAny_bind (wpAny_load (by exact hS) ?_)
  exact wpAny_pure (hQ h' tk acc' (fun b o e => hk b o (Nat.ne_of_lt (Heap.lt_size e)) (Heap.get?_push_of_some _ e)) (Nat.le_of_lt (Heap.lt_size hS)) hacc)
end
section
variable {X : Cx} {o : Expr} {p pos apos mpos : Pos} {td : TE}
/-- sorted(d.values()), whole numbers -/
def tSortVals (td : TE) : TE := fun σ H Q => td σ H fun x H1 => ∃ a kvs is, x = V.ref a ∧ H1 a = some (.dK kvs) ∧ kvs.map (·.2) = is.map V.int ∧ is.length < 64 ∧ ∀ (ns : List Int) (p : Addr), ns.Perm is → ns.Pairwise (· ≤ ·) → H1 p = none → Q (.ref p) (upd H1 p (.lst (ns.map V.int)))
theorem pe_sortVals (hc : X.calm = true) (hg : Gl X "sorted") (hm : X.mg "sorted" = none) (hd : PE X o td) (hbase : attributeBase o "values" X.env (eval o X.env) = eval o X.env := by rfl) (hline : (apos.endLine == mpos.line) = true := by rfl)
    (hse : starEach [Expr.Call (.Attribute o "values" apos) [] [] mpos] X.env = [(false, eval (Expr.Call (.Attribute o "values" apos) [] [] mpos) X.env)] := by rfl) :
    PE X (.Call (.Name "sorted" p) [.Call (.Attribute o "values" apos) [] [] mpos] [] pos) (tSortVals td) := by
  refine ⟨fun pins s σ H Q I h => ?_⟩
  refine wpAny_Call_Name_kw (ld_blt I hg hm (u := .builtin "sorted") (by first | rfl | decide +kernel) ?_ (by first | decide +kernel | decide) (by first | decide +kernel | decide))
  rw [hse]
  refine PySem.callWith_builtin1 (wpAny_Call_method0_late hbase hline (thn (hd.run pins s σ H _ I h) fun v s1 hv => ?_))
  obtain ⟨x, H1, I1, r1, a, kvs, is, ex, ha, hv, h64, q⟩ := hv
  subst ex
  obtain rfl : v = Value.ref a := r1
  obtain ⟨_, hsys, vs, rel, dof⟩ := dk_of I1.hok ha
  obtain ⟨ep, dat⟩ := dof.dictAt
  obtain ⟨ob, es, ho, ex, hdat, hko, hpr, hnd⟩ := id dat
  refine ⟨"dict", "dict.values", F.plainAttrs_dict, F.slot_dict_values, F.type_dict_values, ⟨ob, ho, ex.1⟩, fun b e => ?_, Calls.callWith_builtin rfl (PySem.evalArgs_none ?_)⟩
  · cases e
    exact ⟨ob, ho, ex.2.1⟩
  refine call_meetsIn F.slot_dict_values ⟨ob, ho, ex.1⟩ F.entry_dict_values (F.args_dict_values_1 _) (meets_dict_values (mixKind X.prog X.w) a hsys) ⟨⟨vs, dof⟩, ?_⟩
  have kp : ∀ b u, s1.heap.get? b = some u → (s1.heap.push { cls := .type "dict_values", data := .fields #[.ref a] }).get? b = some u := fun b u e => Heap.get?_push_of_some _ e
  have dat1 : (s1.heap.push { cls := .type "dict_values", data := .fields #[.ref a] }).DictAt (mixKind X.prog X.w) a vs ep := dat.keep kp
  have hlv : vs.length = is.length := by
    have e1 := congrArg List.length hv
    rw [List.length_map, List.length_map] at e1
    rw [← e1]
    exact (KV.length rel).symm
  refine Calls.call_function_entry kind_sorted plain_sorted entry_sorted (args_sorted1 _) ?_
  unfold Builtin.«sorted»
  refine wpAny_bind (m := checkCount "sorted" 1 1 _) (wpAny_pure ?_)
  have src := PySem.W.kdl_values (prog := X.prog) (w := X.w) (knd := mixKind X.prog X.w) (d := a) (r := s1.heap.objs.size) (kvs := vs) (ep := ep)
  refine wpAny_bind (collect_src (A := X.A.in1) (s := { s1 with heap := s1.heap.push { cls := .type "dict_values", data := .fields #[.ref a] } }) src (I.ok.hd hc) ⟨⟨_, Heap.get?_push_size _ rfl, rfl, rfl⟩, dat1⟩ (by rw [hlv, sizeLine_eq]; omega) fun h' tk acc hk hz hacc => ?_)
  have ea : acc.toList = vs.map (·.2) := PySem.W.kdl_vals_eq _ (by rw [Array.length_toList]; exact hacc.1) fun j v e => hacc.2 j v (by rw [← Array.getElem?_toList]; exact e)
  have hI : IntsAre (vs.map (·.2)) is := by
    have go : ∀ {kvs : List (Key × V)} {vs : List (Key × Value)}, KV kvs vs → ∀ {is : List Int}, kvs.map (·.2) = is.map V.int → IntsAre (vs.map (·.2)) is := fun {kvs vs} h => by
      induction h with
      | nil =>
        intro is e
        cases is with
        | nil => exact .nil
        | cons => cases e
      | cons hd _ ih =>
        intro is e
        cases is with
        | nil => cases e
        | cons i is =>
          rw [List.map_cons, List.map_cons] at e
          injection e with e1 e2
          rw [e1] at hd
          obtain ⟨t, e3⟩ := hd.2
          rw [List.map_cons, e3]
          exact .cons i t (ih e2)
    exact go rel hv
  rw [ea]
  have h64' : (vs.map (·.2)).length < 64 := by rw [List.length_map, hlv]; exact h64
  generalize vs.map (·.2) = ws at hI h64' ⊢
  refine wpAny_bind (wpAny_newList ?_ (by rw [sizeLine_eq]; omega))
  have hoL : (h'.push (seqObj "list" ws.toArray 0)).get? h'.objs.size = some (seqObj "list" ws.toArray 0) := Heap.get?_push_size _ rfl
  refine wpAny_bind (wpAny_holding (wpAny_call_entry slot_list_sort ⟨_, hoL, rfl⟩ entry_list_sort (list_sort_tree hoL hI h64' fun out ns' a1 a2 a3 => ⟨_, rfl, ?_⟩) (args_list_sort _)))
  obtain ⟨c, hc2⟩ := sortedHeap_at (vs := ws) (out := out) hoL
  have hp : s1.heap.objs.size ≤ h'.objs.size := Nat.le_trans (by rw [Heap.size_push]; exact Nat.le_succ _) hz
  have hn : H1 h'.objs.size = none := I1.hok.fresh hp
  have hz2 : (ns'.map V.int).length ≤ sizeLine := by rw [List.length_map, a2.length_eq, sizeLine_eq, ← hlv]; omega
  have k : ∀ b u, s1.heap.get? b = some u → (sortedHeap (h'.push (seqObj "list" ws.toArray 0)) h'.objs.size ws out).get? b = some u := fun b u e => by
    have q := hk b u (kp b u e)
    have hlt := Heap.lt_size q
    rw [sortedHeap_old (Nat.ne_of_lt hlt) (by rw [size_push']; exact Nat.lt_succ_of_lt hlt)]
    exact Heap.get?_push_of_some _ q
  refine wpAny_pure ⟨_, rfl, .ref h'.objs.size, upd H1 h'.objs.size (.lst (ns'.map V.int)), ?_, rfl, q ns' _ a2 a3 hn⟩
  exact I1.laid k hp ⟨hz2, out.toList, c, vals_of_ints a1, hc2⟩
end
end HM
namespace VL
open PySem PySem.Spec PyProof.Rows L2 HM
section
variable {c : Fc} {X : Cx} {o e f : Expr} {pos apos cpos : Pos}
/-- sorted(d.values()) -/
def vDSortV (i : Nat) : VTN := fun env n Q => ∃ kvs is, env[i]? = some (.ow (.dK kvs)) ∧ kvs.map (·.2) = is.map Dt.int ∧ is.length < 64 ∧ ∀ ns : List Int, ns.Perm is → ns.Pairwise (· ≤ ·) → Q (.lst (ns.map Dt.int)) env n
theorem PrK.ints {F : Hp} : ∀ {ks : List (Key × V)} {kvs : List (Key × Dt)} {is : List Int}, PrK F ks kvs → kvs.map (·.2) = is.map Dt.int → ks.map (·.2) = is.map V.int
  | _, _, [], .nil, _ => rfl
  | _, _, _ :: _, .nil, e => by cases e
  | _, _, [], .cons _ _, e => by cases e
  | _, _, i :: is, .cons h t, e => by
    rw [List.map_cons, List.map_cons] at e
    injection e with e1 e2
    have h2 := h.2
    rw [e1] at h2
    rw [List.map_cons, List.map_cons, h2.int_inv, PrK.ints t e2]
theorem vn_dsortV {i : Nat} {p mpos : Pos} (hc : X.calm = true) (hg : Gl X "sorted") (hm : X.mg "sorted" = none) (ho : PE X o (tVar i)) (hbase : attributeBase o "values" X.env (eval o X.env) = eval o X.env := by rfl) (hline : (apos.endLine == mpos.line) = true := by rfl)
    (hse : starEach [Expr.Call (.Attribute o "values" apos) [] [] mpos] X.env = [(false, eval (Expr.Call (.Attribute o "values" apos) [] [] mpos) X.env)] := by rfl) :
    PE X (.Call (.Name "sorted" p) [.Call (.Attribute o "values" apos) [] [] mpos] [] pos) (nOf c (vDSortV i)) := PE.imp (pe_sortVals hc hg hm ho hbase hline hse) fun σ H R ⟨F, env, n, Q, rr, ⟨kvs, is, e, hk, hl, q⟩, k⟩ => by
  obtain ⟨a, o, g1, g5, ks, rfl, pr⟩ := rr.slotA e
  exact ⟨_, g1, a, ks, is, rfl, g5, pr.ints hk, hl, fun ns p h1 h2 np => nOf_new rr (Up.refl F) np (kk := .lst (ns.map Dt.int)) ⟨_, rfl, Rps.ints ns⟩ (q ns h1 h2) k⟩
/-- d.setdefault(k, v), d keyed by numbers and texts -/
def vSetd (i : Nat) (tk tv : VTE) : VTE := fun env n Q => (∃ kvs, env[i]? = some (.ow (.dK kvs))) ∧ tk env n fun d env1 n1 => tv env1 n1 fun z env2 n2 => ∃ kvs k, env2[i]? = some (.ow (.dK kvs)) ∧ d = keyD k ∧ kvs.length ≤ 1000 ∧ (∀ y, valD kvs k = some y → Q y env2 n2) ∧ (valD kvs k = none → VL.atom z = true ∧ Q z (env2.set i (.ow (.dK (putD kvs k z)))) n2)
theorem ve_setd {i : Nat} {tk tv : VTE} (ho : PE X o (tVar i)) (he : PE X e (tOf c tk)) (hf : PE X f (tOf c tv)) (m : M2 X o "setdefault" apos e f cpos) : PE X (.Call (.Attribute o "setdefault" apos) [e, f] [] cpos) (tOf c (vSetd i tk tv)) := PE.imp (pe_dsetd ho he hf m) fun σ H R ⟨F, env, n, Q, rr, ⟨⟨kvs0, e0⟩, q⟩, k⟩ => by
  obtain ⟨a, o0, g1, g5, ks0, rfl, _⟩ := rr.slotA e0
  refine ⟨_, g1, a, rfl, .inl ⟨ks0, .inl g5⟩, F, env, n, _, rr, q, fun y H1 F1 d env1 n1 r1 u1 p1 q1 => ⟨F1, env1, n1, _, r1, q1, fun z H2 F2 d2 env2 n2 r2 u2 p2 q2 => ?_⟩⟩
  obtain ⟨kvs, kk, e2, rfl, hl, hy, hn⟩ := q2
  obtain ⟨a2, o2, g2, g6, ks, rfl, pr⟩ := r2.slotA e2
  rw [g1] at g2
  cases g2
  refine ⟨ks, kk, g6, p1.key, small1000 (by rw [pr.len]; exact hl), fun v hv => ?_, fun hv => ?_⟩
  · rcases pr.val (k := kk) with ⟨h1, _⟩ | ⟨x, w, h1, h2, h3⟩
    · rw [h1] at hv; cases hv
    · rw [h1] at hv
      cases hv
      exact k _ H2 F2 _ env2 n2 r2 (u1.trans u2) h3 (hy _ h2)
  · rcases pr.val (k := kk) with ⟨_, h2⟩ | ⟨x, w, h1, _, _⟩
    · obtain ⟨at_, q3⟩ := hn h2
      exact k _ _ F2 _ _ n2 (r2.write (k' := .dK (putD kvs kk d2)) e2 g1 ⟨_, rfl, pr.put p2⟩) (u1.trans u2) p2 q3
    · rw [h1] at hv; cases hv
end
end VL
namespace VL
open PySem PySem.Spec PyProof.Rows L2 HM
/-! ### tuple + tuple, tuple[lo:hi] -/
def vCatT (ta tb : VTE) : VTE := fun env n Q => v2 ta tb (fun x y env' n' => ∃ a b, x = .tup a ∧ y = .tup b ∧ a.length + b.length ≤ 1000 ∧ Q (.tup (a ++ b)) env' n') env n
def vSlT (te : VTE) (tl th : VTO) : VTE := fun env n Q => te env n fun d env1 n1 => tl env1 n1 fun l env2 n2 => th env2 n2 fun h env3 n3 => ∃ ds, d = .tup ds ∧ Q (.tup (cutD ds l h)) env3 n3
section
variable {X : Cx} {c : Fc} {a b e : Expr} {ta tb te : VTE} {pos : Pos}
theorem ve_catT (ha : PE X a (tOf c ta)) (hb : PE X b (tOf c tb)) : PE X (.BinOp a .Add b pos) (tOf c (vCatT ta tb)) := PE.imp (pe_op op_catA ha hb) fun σ H R ⟨F, env, n, Q, rr, h, k⟩ =>
  t2_of rr h fun x y d1 d2 H' F' env' n' r2 u p1 p2 q => by
    obtain ⟨a, b, rfl, rfl, hl, q⟩ := q
    obtain ⟨l, xs, rfl, h1, r1⟩ := p1.tup_inv
    obtain ⟨l2, ys, rfl, h2, r2'⟩ := p2.tup_inv
    refine ⟨l, l2, xs, ys, rfl, rfl, .inl (.inl (r2.sub _ _ h1)), .inl (.inl (r2.sub _ _ h2)), small1k (by rw [r1.len, r2'.len]; exact hl), fun ex => ?_, fun _ ey => ?_, fun _ _ p np => ?_⟩
    · subst ex
      cases r1
      exact k _ _ F' _ env' n' r2 u p2 q
    · subst ey
      cases r2'
      rw [List.append_nil] at q
      exact k _ _ F' _ env' n' r2 u p1 q
    · obtain ⟨_, _, nf⟩ := r2.new0 np
      exact k _ _ (upd F' p (.tup (xs ++ ys))) _ env' n' (r2.layF np _) (u.trans (up_lay nf)) (.tup upd_same ((r1.append r2').up (up_lay nf))) q
theorem ve_slT {lo hi : Option Expr} {tl th : VTO} {p2 : Pos} (he : PE X e (tOf c te)) (hl : PO X lo (oOf c tl)) (hu : PO X hi (oOf c th)) : PE X (.Subscript e (.Slice lo hi none p2) pos) (tOf c (vSlT te tl th)) := PE.imp (pe_slice sl_tupA he hl hu) fun σ H R ⟨F, env, n, Q, rr, h, k⟩ =>
  ⟨F, env, n, _, rr, h, fun v H1 F1 d env1 n1 r1 u1 p1 q1 => ⟨F1, env1, n1, _, r1, q1, fun l H2 F2 env2 n2 r2 u2 q2 => ⟨F2, env2, n2, _, r2, q2, fun hh H3 F3 env3 n3 r3 u3 q3 => by
    obtain ⟨ds, rfl, q3⟩ := q3
    have p3 := p1.up (u2.trans u3)
    obtain ⟨a, xs, rfl, hF, rx⟩ := p3.tup_inv
    refine ⟨a, xs, rfl, .inl (.inl (r3.sub _ _ hF)), fun hw => ?_, fun _ p np => ?_⟩
    · have e : cutD ds l hh = ds := by
        unfold cutD
        rw [← rx.len, hw.1, hw.2, rx.len, List.drop_zero, Nat.sub_zero, List.take_length]
      rw [e] at q3
      exact k _ _ F3 _ env3 n3 r3 ((u1.trans u2).trans u3) p3 q3
    · obtain ⟨_, _, nf⟩ := r3.new0 np
      exact k _ _ (upd F3 p (.tup (cutV xs l hh))) _ env3 n3 (r3.layF np _) (((u1.trans u2).trans u3).trans (up_lay nf)) (.tup upd_same ((rx.cut l hh).up (up_lay nf))) q3⟩⟩⟩
end
/-! ### x is not True, the truth of a tuple -/
def dNotB : R2D := fun x y Q => ∃ a b : Bool, x = .bl a ∧ y = .bl b ∧ Q (.bl (!decide (a = b)))
theorem lft_notB : Lft2 rNotB dNotB := fun F H x y d1 d2 Q R u p1 p2 ⟨a, b, e1, e2, q⟩ k => by
  subst e1 e2
  exact ⟨a, b, p1.bl_inv, p2.bl_inv, k _ _ (.bl _) q⟩
def vTruT (te : VTE) : VTT := fun env n Q => te env n fun d env1 n1 => ∃ ds, d = .tup ds ∧ Q (!ds.isEmpty) env1 n1
theorem vt_truT {X : Cx} {c : Fc} {e : Expr} {te : VTE} (h : PE X e (tOf c te)) (he : ∀ whole, isTrue e X.env whole = (do let v ← whole; standAt e.pos; holding [v] (truthy v)) := by intro _; rfl) : PT X e (cOf c (vTruT te)) := PT.imp (pt_truth h he) fun σ H R ⟨F, env, n, Q, rr, q, k⟩ => by
  refine ⟨F, env, n, _, rr, q, fun v H' F' d env' n' r' u rp qd => ?_⟩
  obtain ⟨ds, rfl, qd⟩ := qd
  obtain ⟨a, xs, rfl, hF, rx⟩ := rp.tup_inv
  have e : xs.isEmpty = ds.isEmpty := by cases rx <;> rfl
  exact ⟨_, .inr (.inl ⟨xs, .inl (.inl (r'.sub _ _ hF)), rfl⟩), by rw [e]; exact k _ _ F' env' n' r' u qd⟩
end VL
namespace VL
open PySem PySem.Spec PyProof.Rows L2 HM
/-! ### defs that return two new lists of numbers in a tuple -/
abbrev VSpP := List Dt → Nat → (List Int → List Int → Nat → Prop) → Prop
/-- a is a new list of numbers, not still -/
structure NewL (am : Am) (H F' H' : Hp) (a : Addr) (x : List Int) : Prop where
  f : F' a = none
  h : H a = none
  s : ¬ am.sp a
  o : H' a = some (.lst (x.map V.int))
def vspP (am : Am) (sp : VSpP) : Sp := fun vs H Q _ => ∃ F ds n Q', Up F H ∧ (∀ a, am.sp a → F a = none) ∧ am.ok n H ∧ Rps F vs ds ∧ sp ds n Q' ∧
  ∀ t a b x y F' H' n', Out am F H F' H' n' → F' t = some (.tup [.ref a, .ref b]) → a ≠ b → NewL am H F' H' a x → NewL am H F' H' b y → Q' x y n' → Q (.ref t) H'
abbrev VFnP (gd : Around → Prop) (P : Program) (w : World) (K : PySem.W.Frag) (mg : Str → Option Value) (base : Heap) (CX : CXT) (k : Nat) (f : Addr) (fd : FuncData) (ps : List Str) (am : Am) (sp : VSpP) : Prop := PFn gd P w K mg base CX k f fd ps (vspP am sp)
structure VEnP where
  nx : Ev → Nat → Prop
  rt : List Int → List Int → Nat → Prop
abbrev VTP := VEnP → Ev → Nat → Prop
structure EnP (c : Fc) (F : Hp) (V : VEnP) (D : Ends) : Prop where
  nx : ∀ F' H' σ' env' n', Rel c F' H' σ' env' n' → Up F F' → V.nx env' n' → D.nx σ' H'
  rt : ∀ F' H' σ' env' n' t a b x y, Rel c F' H' σ' env' n' → Up F F' → F' t = some (.tup [.ref a, .ref b]) → a ≠ b → NewL c.am c.H0 F' H' a x → NewL c.am c.H0 F' H' b y → V.rt x y n' → D.rt (.ref t) H'
def sP (c : Fc) (ts : VTP) : TS := fun D σ H => ∃ F env n V, Rel c F H σ env n ∧ ts V env n ∧ EnP c F V D
section
variable {c : Fc} {X : Cx} {st : Stmt} {rest body : List Stmt} {pos : Pos} {t u : VTP}
theorem EnP.up {F F' : Hp} {V : VEnP} {D : Ends} (h : EnP c F V D) (w : Up F F') : EnP c F' V D :=
  ⟨fun F2 H' σ' env' n' r z => h.nx F2 H' σ' env' n' r (w.trans z), fun F2 H' σ' env' n' t a b x y r z => h.rt F2 H' σ' env' n' t a b x y r (w.trans z)⟩
def pLift (ts : VTS) : VTP := fun V env n => ts { nx := V.nx, rt := fun _ _ => False } env n
theorem ps_liftP {ts : VTS} (h : PS X st (sOf c ts)) : PS X st (sP c (pLift ts)) := PS.imp h fun D σ H ⟨F, env, n, V, r, q, k⟩ => ⟨F, env, n, _, r, q, ⟨k.nx, fun _ _ _ _ _ _ _ _ _ _ z => z.elim, fun _ _ _ _ _ _ _ z => z.elim, fun _ _ _ _ _ _ _ z => z.elim⟩⟩
def pSeq (A B : VTP) : VTP := fun V env n => A { V with nx := B V } env n
theorem pssP_cons (h1 : PS X st (sP c t)) (h2 : PSs X rest (sP c u)) : PSs X (st :: rest) (sP c (pSeq t u)) := PSs.imp (pss_cons h1 h2) fun D σ H ⟨F, env, n, V, r, q, k⟩ =>
  ⟨F, env, n, _, r, q, ⟨fun F' H' σ' env' n' r' w q' => ⟨F', env', n', V, r', q', k.up w⟩, k.rt⟩⟩
theorem pssP_one (h1 : PS X st (sP c t)) : PSs X [st] (sP c t) := pss_one h1
/-- return (x, y), two lists of one's own -/
def vRetP (i j : Nat) : VTP := fun V env n => i ≠ j ∧ ∃ x y, env[i]? = some (.ow (.lst (x.map Dt.int))) ∧ env[j]? = some (.ow (.lst (y.map Dt.int))) ∧ V.rt x y n
theorem ps_retP {i j : Nat} {e e2 : Expr} {x1 : Nat} {p : Pos} (h1 : PE X e (tVar i)) (h2 : PE X e2 (tVar j)) (hs : starEach [e, e2] X.env = (false, eval e X.env) :: starEach [e2] X.env := by rfl) (hs2 : starEach [e2] X.env = (false, eval e2 X.env) :: starEach [] X.env := by rfl) :
    PS X (.Return (some (.Tuple [e, e2] x1 p)) pos) (sP c (vRetP i j)) := PS.imp (ps_ret (pe_tup (pa_cons h1 (pa_cons h2 pa_nil hs2) hs))) fun D σ H ⟨F, env, n, V, rr, ⟨hij, x, y, ex, ey, q⟩, k⟩ => by
  obtain ⟨a, o, a1, a2, a3, a4, a5, xs, rfl, a6⟩ := rr.sl i _ ex
  obtain ⟨b, o2, b1, b2, b3, b4, b5, ys, rfl, b6⟩ := rr.sl j _ ey
  have hab : a ≠ b := fun z => rr.apart i j a _ _ hij ex ey a1 (by rw [z]; exact b1)
  refine ⟨_, a1, _, b1, (by decide : 2 ≤ sizeLine), fun t nt => ?_⟩
  obtain ⟨h0, ns, nf⟩ := rr.new0 nt
  have ta : t ≠ a := fun z => by rw [z, a5] at nt; cases nt
  have tb : t ≠ b := fun z => by rw [z, b5] at nt; cases nt
  rw [a6.of_ints] at a5
  rw [b6.of_ints] at b5
  exact k.rt _ _ σ env n t a b x y (rr.layF nt _) (up_lay nf) upd_same hab ⟨by rw [upd_ne (Ne.symm ta)]; exact a2, a3, a4, by rw [upd_ne (Ne.symm ta)]; exact a5⟩ ⟨by rw [upd_ne (Ne.symm tb)]; exact b2, b3, b4, by rw [upd_ne (Ne.symm tb)]; exact b5⟩ q
end
section
variable {P : Program} {w : World} {K : PySem.W.Frag} {mg : Str → Option Value} {base : Heap} {am : Am} {gd : Around → Prop} {x qual : Str} {st : Stmt} {f : Addr} {fd : FuncData} {N ps : List Str} {k : Nat} {sp : VSpP}
theorem vfn_ofP (F : Fun K x qual st f fd) (S : FnScope N ps (defScope st)) (len : ∀ ds n Q, sp ds n Q → ds.length = ps.length)
    (body : ∃ ts : VTP, (∀ (cdv : Value) (A : Around) (out : List Env) (s : Shared) (H : Hp) (E : XK) (F0 H0 : Hp), fd.code = cdv → gd A → Room k (A.deeper (envOfC qual (defScope st) s.heap.objs.size f cdv)) → PSs (cxOf CX0 P w K mg base N qual (defScope st) f cdv A out s H E).nox (defBody st) (sP ⟨am, F0, H0⟩ ts)) ∧
      ∀ ds n Q, sp ds n Q → ts { nx := fun _ _ => False, rt := Q } (startE N ds) n) : VFnP gd P w K mg base CX0 (k + 1) f fd ps am sp := by
  obtain ⟨ts, hts, hsp⟩ := body
  refine pfn_of F S (fun vs H Q E h => ?_) (fun cdv A out s H vs Q E hcd hgd hr h => ?_)
  · obtain ⟨F0, ds, n, Q', _, _, _, r, h, _⟩ := h
    rw [r.len]
    exact len ds n Q' h
  · obtain ⟨F0, ds, n, Q', u, hs, ha, r, h, kq⟩ := h
    refine ⟨_, hts cdv A out s H E F0 H hcd hgd hr, F0, startE N ds, n, _, rel_start u hs ha r, hsp ds n Q' h, ⟨fun F' H' σ' env' n' r' _ q => q.elim, fun F' H' σ' env' n' t a b x y r' _ ht hab ha hb q => kq t a b x y F' H' n' r'.out ht hab ha hb q⟩⟩
end
/-! ### calls of such: the answer still, or its lists beside -/
section
variable {c : Fc} {X : Cx} {F H : Hp} {σ : L2.St} {env : Ev} {n : Nat} {a : Addr} {x : List Int}
theorem Rel.notOwn (r : Rel c F H σ env n) (h : H a = none) : ∀ (j : Nat) k', env[j]? = some (.ow k') → σ[j]? ≠ some (some (.ref a)) := fun j k' e z => by
  obtain ⟨a2, o2, g1, _, _, _, g5, _⟩ := r.sl j _ e
  rw [g1] at z
  cases z
  rw [g5] at h
  cases h
/-- a list that stands apart is still from now on -/
theorem Rel.addL {xs : List V} (r : Rel c F H σ env n) (hf : F a = none) (hs : ¬ c.am.sp a) (h0 : c.H0 a = none) (ho : H a = some (.lst xs)) (hn : ∀ (j : Nat) k', env[j]? = some (.ow k') → σ[j]? ≠ some (some (.ref a))) : Rel c (upd F a (.lst xs)) H σ env n := by
  refine ⟨fun b u e => ?_, fun b hb => ?_, r.amb, r.up0.trans (up_lay hf), fun b ob h1 nt h2 => ?_, r.keep0, r.len, fun j s e => ?_, r.apart⟩
  · by_cases z : b = a
    · subst z; rw [upd_same] at e; cases e; exact ho
    · rw [upd_ne z] at e; exact r.sub b u e
  · rw [upd_ne (fun (z : b = _) => hs (by rw [← z]; exact hb))]; exact r.spf b hb
  · rw [upd_ne (fun (z : b = _) => by rw [z, h0] at h1; cases h1)]; exact r.out0 b ob h1 nt h2
  · have q := r.sl j s e
    cases s with
    | no => trivial
    | fz d => exact let ⟨v, g1, g2⟩ := q; ⟨v, g1, g2.up (up_lay hf)⟩
    | ow kk =>
      obtain ⟨a2, o2, g1, g2, g3, g4, g5, g6⟩ := q
      refine ⟨a2, o2, g1, ?_, g3, g4, g5, g6.up (up_lay hf)⟩
      rw [upd_ne fun z2 => hn j kk e (by rw [g1, z2])]
      exact g2
theorem Rel.H0none (r : Rel c F H σ env n) (h : H a = none) (hs : ¬ c.am.sp a) : c.H0 a = none := by
  cases e : c.H0 a with
  | none => rfl
  | some o => rw [r.keep0 a o e hs] at h; cases h
theorem Rel.F0none (r : Rel c F H σ env n) (h : H a = none) : c.F0 a = none := by
  cases e : c.F0 a with
  | none => rfl
  | some o => rw [r.sub a o (r.up0 a o e)] at h; cases h
variable {CX : CXT} {E : XK} {p pos : Pos} {e : Expr} {es : List Expr} {tas : VTA} {f : Addr} {fd : FuncData} {ps : List Str} {k : Nat} {fn : Str} {gd : Around → Prop}
/-- f(..) of things just read, the answer still -/
def vCallPR (sp : VSpP) (ta : VTA) : VTE := fun env n Q => ta env n fun ds env1 n1 => sp ds n1 fun x y n2 => Q (.tup [.lst (x.map Dt.int), .lst (y.map Dt.int)]) env1 n2
theorem callPR_of {sp : VSpP} {R : VK} (h : tOf c (vCallPR sp tas) σ H R) : tCall (vspP c.am sp) [] E (bOf c tas) σ H R := by
  obtain ⟨F, env, n, Q, r, q, kk⟩ := h
  refine ⟨F, env, n, _, r, q, fun vs H1 F1 G ds env1 n1 r1 u1 g p1 q1 => ?_⟩
  show vspP c.am sp (vs ++ []) H1 R E
  rw [List.append_nil]
  refine ⟨G, ds, n1, _, g.u2, g.sp, r1.amb, p1, q1, fun t a b x y F' H' n' o ht hab ha hb qv => ?_⟩
  let F3 : Hp := fun a => match F' a with
    | some (.tup xs) => some (.tup xs)
    | _ => F1 a
  have tpl : ∀ a xs, F' a = some (.tup xs) → F3 a = some (.tup xs) := fun a xs e => by simp only [F3, e]
  have inv : ∀ a o, F3 a = some o → (∃ xs, o = .tup xs ∧ F' a = some (.tup xs)) ∨ F1 a = some o := fun a ob e => by
    simp only [F3] at e
    split at e
    · rename_i xs e2
      exact .inl ⟨xs, (Option.some.inj e).symm, e2⟩
    · exact .inr e
  have up : Up F1 F3 := fun a ob e => by
    have e2 := o.u _ _ (g.u1 _ _ e)
    simp only [F3]
    split
    · rename_i xs e3
      rw [e3] at e2
      exact e2
    · exact e
  have r3 : Rel c F3 H' σ env1 n' := by
    refine r1.call up (fun a ob e => ?_) (fun a ha => ?_) (fun a oa h1 nt h2 => ?_) o.k o.a
    · rcases inv a ob e with ⟨xs, rfl, e2⟩ | e2
      · exact o.s _ _ e2
      · exact o.s _ _ (o.u _ _ (g.u1 _ _ e2))
    · cases e : F3 a with
      | none => rfl
      | some ob =>
        rcases inv a ob e with ⟨xs, rfl, e2⟩ | e2
        · rw [o.f a ha] at e2; cases e2
        · rw [r1.spf a ha] at e2; cases e2
    · cases e : F3 a with
      | none => rfl
      | some ob =>
        rcases inv a ob e with ⟨xs, rfl, e2⟩ | e2
        · cases eg : G a with
          | none => rw [o.o a oa h1 nt eg] at e2; cases e2
          | some og =>
            have e3 := o.u _ _ eg
            rw [e2] at e3
            cases e3
            rw [g.tp a xs eg] at h2
            cases h2
        · rw [h2] at e2; cases e2
  have f3 : ∀ {a x}, NewL c.am H1 F' H' a x → F3 a = none := fun {a x} ha => by
    cases e : F3 a with
    | none => rfl
    | some ob =>
      rcases inv a ob e with ⟨xs, rfl, e2⟩ | e2
      · rw [ha.f] at e2; cases e2
      · have := r1.sub _ _ e2
        rw [ha.h] at this
        cases this
  have na := r1.notOwn ha.h
  have nb := r1.notOwn hb.h
  have r4 := r3.addL (f3 ha) ha.s (r1.H0none ha.h ha.s) ha.o na
  have fb : upd F3 a (.lst (x.map V.int)) b = none := by rw [upd_ne (Ne.symm hab)]; exact f3 hb
  have r5 := r4.addL fb hb.s (r1.H0none hb.h hb.s) hb.o nb
  have u5 : Up F3 (upd (upd F3 a (.lst (x.map V.int))) b (.lst (y.map V.int))) := (up_lay (f3 ha)).trans (up_lay fb)
  refine kk (.ref t) H' _ (.tup [.lst (x.map Dt.int), .lst (y.map Dt.int)]) env1 n' r5 ((u1.trans up).trans u5) (.tup (u5 _ _ (tpl t _ ht)) (.cons (.lst (by rw [upd_ne hab, upd_same]) (Rps.ints x)) (.cons (.lst upd_same (Rps.ints y)) .nil))) qv
theorem ve_callPR {sp : VSpP} (G : VFnP gd X.prog X.w X.K X.mg X.base CX k f fd ps c.am sp) (hgd : gd X.A) (hr : Room k X.A) (hg : Gl X fn) (hm : X.mg fn = some (.ref f)) (hk : PySem.W.keepIn X.K (.ref f) = true) (hb : Binds X.K fd ps []) (hx : Passes CX X (fun _ _ _ => False)) (ha : PA X (e :: es) (bOf c tas)) (hdb : (fn == ("__debug__" : Str)) = false := by decide)
    (he : starEach (e :: es) X.env = (false, eval e X.env) :: starEach es X.env := by rfl) (hpl : (backTo pos (starEach es X.env)).any (·.1) = false := by rfl) : PE X (.Call (.Name fn p) (e :: es) [] pos) (tOf c (vCallPR sp tas)) := PE.imp (pe_callP G hgd hr hg hm hk hb hx ha hdb he hpl) fun _ _ _ => callPR_of
end
/-! ### x = f(..), the lists of the answer beside -/
def two (x y : List Int) : Nat → List Int := fun i => if i = 0 then x else y
section
variable {am : Am} {F0 : Hp} {X : Cx} {st : Stmt} {pos : Pos}
def xCallP (sp : VSpP) (i : Nat) (ta : VTA) : XTS := fun V H0 env n => ta env n fun ds env1 n1 => sp ds n1 fun x y n2 => ∀ A, MatOk am F0 H0 2 A → V.nx (mat H0 2 A (two x y)) (env1.set i (.fz (.tup [.obj (A 0), .obj (A 1)]))) n2
theorem mat_two {F H : Hp} {σ : L2.St} {env : Ev} {n : Nat} {H0 : Hp} {a b : Addr} {x y : List Int} (r : Rel ⟨am, F0, H0⟩ F H σ env n) (hab : a ≠ b) (fa : F a = none) (h0a : H0 a = none) (f0a : F0 a = none) (sa : ¬ am.sp a) (oa : H a = some (.lst (x.map V.int))) (na : ∀ (j : Nat) k', env[j]? = some (.ow k') → σ[j]? ≠ some (some (.ref a)))
    (fb : F b = none) (h0b : H0 b = none) (f0b : F0 b = none) (sb : ¬ am.sp b) (ob : H b = some (.lst (y.map V.int))) (nb : ∀ (j : Nat) k', env[j]? = some (.ow k') → σ[j]? ≠ some (some (.ref b))) :
    ∃ A, A 0 = a ∧ A 1 = b ∧ MatOk am F0 H0 2 A ∧ Rel ⟨am, F0, mat H0 2 A (two x y)⟩ F H σ env n := by
  have m0 : MatOk am F0 H0 0 (fun _ => a) := ⟨fun i j hi => by omega, fun i hi => by omega, fun i hi => by omega, fun i hi => by omega⟩
  have e0 : mat H0 0 (fun _ => a) (two x y) = H0 := mat_zero
  have m1 := m0.add (r := two x y) (p := a) (by rw [e0]; exact h0a) f0a sa
  have e1 := mat_add (r := two x y) (p := a) m0 (by rw [e0]; exact h0a)
  rw [e0] at e1
  have e1' : mat H0 1 (addA 0 (fun _ => a) a) (two x y) = upd H0 a (.lst (x.map V.int)) := e1.symm
  have hb1 : mat H0 1 (addA 0 (fun _ => a) a) (two x y) b = none := by rw [e1', upd_ne (Ne.symm hab)]; exact h0b
  have m2 := m1.add hb1 f0b sb
  have e2 := mat_add m1 hb1
  rw [e1'] at e2
  have e2' : mat H0 2 (addA 1 (addA 0 (fun _ => a) a) b) (two x y) = upd (upd H0 a (.lst (x.map V.int))) b (.lst (y.map V.int)) := e2.symm
  refine ⟨_, by rw [addA_old (by omega), addA_new], addA_new, m2, ?_⟩
  rw [e2']
  have r1 := r.push oa fa sa na
  exact r1.push (c := ⟨am, F0, upd H0 a (.lst (x.map V.int))⟩) ob fb sb nb
end
end VL
namespace VL
open PySem PySem.Spec PyProof.Rows L2 HM
/-! ### lists beside: called for, read, written -/
section
variable {am : Am} {F0 : Hp} {X : Cx} {st : Stmt} {pos p cpos : Pos} {e : Expr} {es : List Expr} {tas : VTA} {f : Addr} {fd : FuncData} {ps : List Str} {k : Nat} {fn : Str} {gd : Around → Prop} {CX : CXT}
theorem xs_callP {sp : VSpP} {i : Nat} {x : Str} {pos' : Pos} (hN : X.N.Nodup) (hi : X.N[i]? = some x) (hx : Loc X.env.scope x) (G : VFnP gd X.prog X.w X.K X.mg X.base CX k f fd ps am sp) (hgd : gd X.A) (hr : Room k X.A) (hg : Gl X fn) (hm : X.mg fn = some (.ref f)) (hk : PySem.W.keepIn X.K (.ref f) = true) (hb : Binds X.K fd ps []) (hpa : Passes CX X (fun _ _ _ => False)) (ha : ∀ H0, PA X (e :: es) (aOf ⟨am, F0, H0⟩ tas)) (hdb : (fn == ("__debug__" : Str)) = false := by decide)
    (hs : swapsWith (.Call (.Name fn p) (e :: es) [] cpos) (some (.Name x pos')) pos.line X.env = pure false := by rfl) (hf : X.fn x = true ∨ X.env.scope.names.lookup x = some .local := by first | exact .inl rfl | exact .inr rfl | assumption)
    (he : starEach (e :: es) X.env = (false, eval e X.env) :: starEach es X.env := by rfl) (hpl : (backTo cpos (starEach es X.env)).any (·.1) = false := by rfl) : PS X (.Assign [.Name x pos'] (.Call (.Name fn p) (e :: es) [] cpos) pos) (sX am F0 (xCallP (am := am) (F0 := F0) sp i tas)) :=
  PS.imp (ps_set hN hi hx (pe_callP G hgd hr hg hm hk hb hpa (PA.imp (t := fun σ H R => ∃ H0, aOf ⟨am, F0, H0⟩ tas σ H R) ⟨fun pos pins s σ H Q I ⟨H0, q⟩ => (ha H0).run pos pins s σ H Q I q⟩ fun _ _ _ q => q) hdb he hpl) hs hf) fun D σ H ⟨H0, F, env, n, V, r, q, kk⟩ => by
  refine ⟨H0, F, env, n, _, r, q, fun vs H1 F1 ds env1 n1 r1 u1 p1 q1 => ?_⟩
  show vspP am sp (vs ++ []) H1 _ _
  rw [List.append_nil]
  refine ⟨F1, ds, n1, _, r1.sub, r1.spf, r1.amb, p1, q1, fun t a b x y F' H' n' o ht hab ha hb qv => ?_⟩
  have r2 := r1.call o.u o.s o.f o.o o.k o.a
  obtain ⟨A, rfl, rfl, mo, r3⟩ := mat_two r2 hab ha.f (r1.H0none ha.h ha.s) (r1.F0none ha.h) ha.s ha.o (r1.notOwn ha.h) hb.f (r1.H0none hb.h hb.s) (r1.F0none hb.h) hb.s hb.o (r1.notOwn hb.h)
  exact kk.nx _ F' H' _ _ n' (r3.setF (.tup ht (.cons (.obj _) (.cons (.obj _) .nil)))) (u1.trans o.u) (qv A mo)
/-- a row of a text, by what stood when entered -/
def xLiftH (ts : Hp → VTS) : XTS := fun V H0 env n => ts H0 ⟨V.nx H0, V.rt H0, V.bk H0, V.ct H0⟩ env n
theorem xs_liftH {ts : Hp → VTS} (h : ∀ H0, PS X st (sOf ⟨am, F0, H0⟩ (ts H0))) : PS X st (sX am F0 (xLiftH ts)) := ⟨fun pins s σ H D I ⟨H0, F, env, n, V, r, q, k⟩ => (h H0).run pins s σ H D I ⟨F, env, n, _, r, q, ⟨fun F' H' σ' env' n' r' u q' => k.nx H0 F' H' σ' env' n' r' u q', fun F' H' σ' env' n' v d r' u rv q' => k.rt H0 F' H' σ' env' n' v d r' u rv q', fun F' H' σ' env' n' r' u q' => k.bk H0 F' H' σ' env' n' r' u q', fun F' H' σ' env' n' r' u q' => k.ct H0 F' H' σ' env' n' r' u q'⟩⟩⟩
end
section
variable {c : Fc} {X : Cx} {a b e : Expr} {es : List Expr} {ta tb te : VTE} {tas : VTA} {pos : Pos} {F H : Hp} {σ : L2.St} {env : Ev} {n : Nat}
/-- row i stands beside -/
structure MatAt (c : Fc) (i : Nat) (l : List Int) (q : Addr) : Prop where
  ex : ∃ Hb m A r, c.H0 = mat Hb m A r ∧ MatOk c.am c.F0 Hb m A ∧ i < m ∧ r i = l ∧ A i = q
theorem MatAt.at {i : Nat} {l : List Int} {q : Addr} (h : MatAt c i l q) (r : Rel c F H σ env n) : H q = some (.lst (l.map V.int)) ∧ F q = none ∧ ¬ c.am.sp q := by
  obtain ⟨Hb, m, A, rr, e, mo, hi, rfl, rfl⟩ := h.ex
  have h1 : c.H0 (A i) = some (.lst ((rr i).map V.int)) := by rw [e]; exact mat_at mo.inj hi
  exact ⟨r.keep0 _ _ h1 (mo.ns i hi), r.out0 _ _ h1 (fun _ z => by cases z) (mo.f0 i hi), mo.ns i hi⟩
theorem matAt {Hb : Hp} {m i : Nat} {A : Nat → Addr} {r : Nat → List Int} {am : Am} {F0 : Hp} (mo : MatOk am F0 Hb m A) (hi : i < m) : MatAt ⟨am, F0, mat Hb m A r⟩ i (r i) (A i) := ⟨_, _, _, _, rfl, mo, hi, rfl, rfl⟩
/-- a[b], a's thing a row beside -/
def vIxM (c : Fc) (ta tb : VTE) : VTE := fun env n Q => ta env n fun o env1 n1 => tb env1 n1 fun y env2 n2 => ∃ i l q k z, MatAt c i l q ∧ o = .obj q ∧ y = .int k ∧ atI l k = some z ∧ Q (.int z) env2 n2
theorem atI_map {l : List Int} {k z : Int} (h : atI l k = some z) : atI (l.map V.int) k = some (.int z) := by
  unfold atI at h ⊢
  rw [List.length_map]
  cases e : ixN l.length k with
  | none => rw [e] at h; cases h
  | some j =>
    rw [e] at h
    have h' : l[j]? = some z := h
    show (l.map V.int)[j]? = _
    rw [List.getElem?_map, h']
    rfl
theorem ve_ixM (ha : PE X a (tOf c ta)) (hb : PE X b (tOf c tb)) (hs : PlainIx b) : PE X (.Subscript a b pos) (tOf c (vIxM c ta tb)) := PE.imp (pe_ix ix_list ha hb hs) fun σ H R ⟨F, env, n, Q, r, q, k⟩ => by
  refine ⟨F, env, n, _, r, q, fun o H1 F1 d env1 n1 r1 u1 p1 q1 => ⟨F1, env1, n1, _, r1, q1, fun y H2 F2 d2 env2 n2 r2 u2 p2 q2 => ?_⟩⟩
  obtain ⟨i, l, ad, kk, z, h, rfl, rfl, hat, q2⟩ := q2
  cases p1
  exact ⟨ad, _, kk, _, rfl, p2.int_inv, .inl (.inl (h.at r2).1), atI_map hat, k _ H2 F2 _ env2 n2 r2 (u1.trans u2) (.int z) q2⟩
/-- rows beside, to be read -/
theorem Gx.addM {G : Hp} {i : Nat} {l : List Int} {q : Addr} (r : Rel c F H σ env n) (g : Gx c F H G) (h : MatAt c i l q) : ∃ G', Gx c F H G' ∧ Up G G' ∧ Rp G' (.ref q) (.lst (l.map Dt.int)) := by
  obtain ⟨hH, hF, ns⟩ := h.at r
  have up : Up G (upd G q (.lst (l.map V.int))) := fun b u e => by
    by_cases z : b = q
    · subst z
      rw [g.u2 _ _ e] at hH
      cases hH
      exact upd_same
    · rw [upd_ne z]; exact e
  refine ⟨upd G q (.lst (l.map V.int)), ⟨g.u1.trans up, fun b u e => ?_, fun b hb => ?_, fun b ys e => ?_⟩, up, .lst upd_same (Rps.ints l)⟩
  · by_cases z : b = q
    · subst z; rw [upd_same] at e; cases e; exact hH
    · rw [upd_ne z] at e; exact g.u2 b u e
  · rw [upd_ne (fun (z : b = q) => ns (by rw [← z]; exact hb))]; exact g.sp b hb
  · by_cases z : b = q
    · subst z; rw [upd_same] at e; cases e
    · rw [upd_ne z] at e; exact g.tp b ys e
/-- an argument whose thing is a row beside, read when all stand -/
def vConsM (c : Fc) (te : VTE) (ta : VTA) : VTA := fun env n Q => te env n fun o env1 n1 => ta env1 n1 fun ds env2 n2 => ∃ i l q, MatAt c i l q ∧ o = .obj q ∧ Q (.lst (l.map Dt.int) :: ds) env2 n2
theorem vb_ob (ha : PE X e (tOf c te)) (hr : PA X es (bOf c tas)) (hs : starEach (e :: es) X.env = (false, eval e X.env) :: starEach es X.env := by rfl) : PA X (e :: es) (bOf c (vConsM c te tas)) := PA.imp (pa_cons ha hr hs) fun σ H R ⟨F, env, n, Q, rr, q, k⟩ => by
  refine ⟨F, env, n, _, rr, q, fun v H1 F1 d env1 n1 r1 u1 p1 q1 => ⟨F1, env1, n1, _, r1, q1, fun vs H2 F2 G ds env2 n2 r2 u2 g p2 q2 => ?_⟩⟩
  obtain ⟨i, l, ad, h, rfl, q2⟩ := q2
  cases p1
  obtain ⟨G', g', ug, rp⟩ := g.addM r2 h
  exact k _ H2 F2 G' _ env2 n2 r2 (u1.trans u2) g' (.cons rp (p2.up ug)) q2
/-- a name of a tuple of two rows beside, read when all stand -/
def vConsT (c : Fc) (j : Nat) (ta : VTA) : VTA := fun env n Q => (∃ d0, env[j]? = some (.fz d0)) ∧ ta env n fun ds env2 n2 => ∃ l l2 q q2, MatAt c 0 l q ∧ MatAt c 1 l2 q2 ∧ env2[j]? = some (.fz (.tup [.obj q, .obj q2])) ∧ Q (.tup [.lst (l.map Dt.int), .lst (l2.map Dt.int)] :: ds) env2 n2
theorem vb_rdT {j : Nat} (ha : PE X e (tVar j)) (hr : PA X es (bOf c tas)) (hs : starEach (e :: es) X.env = (false, eval e X.env) :: starEach es X.env := by rfl) : PA X (e :: es) (bOf c (vConsT c j tas)) := PA.imp (pa_cons ha hr hs) fun σ H R ⟨F, env, n, Q, rr, ⟨⟨d0, e0⟩, q⟩, k⟩ => by
  obtain ⟨v0, ev, _⟩ := rr.sl j _ e0
  refine ⟨v0, ev, F, env, n, _, rr, q, fun vs H2 F2 G ds env2 n2 r2 u2 g p2 q2 => ?_⟩
  obtain ⟨l, l2, ad, ad2, h1, h2, ed, q2⟩ := q2
  obtain ⟨v1, ev1, rp⟩ := r2.sl j _ ed
  rw [ev] at ev1
  cases ev1
  obtain ⟨t, xs, rfl, hF, rx⟩ := rp.tup_inv
  obtain ⟨w1, w2, rfl, p3, p4⟩ := rx.two
  cases p3
  cases p4
  obtain ⟨G1, g1, ug1, rp1⟩ := g.addM r2 h1
  obtain ⟨G2, g2, ug2, rp2⟩ := g1.addM r2 h2
  exact k _ H2 F2 G2 _ env2 n2 r2 u2 g2 (.cons (.tup (g2.u1 _ _ hF) (.cons (rp1.up ug2) (.cons rp2 .nil))) (p2.up (ug1.trans ug2))) q2
end
/-! x[i].m(..), x[i][j] = e for rows beside -/
section
variable {am : Am} {F0 : Hp} {X : Cx} {o e : Expr} {es : List Expr} {to : VTE} {tas : VTA} {apos cpos pos : Pos} {r : RM} {m : RMD} {name : Str} {id : String}
def xRM (to : VTE) (m : RMD) (ta : VTA) : XTS := fun V H0 env n => to env n fun o env1 n1 => (∃ i l q, MatAt ⟨am, F0, H0⟩ i l q ∧ o = .obj q) ∧ ta env1 n1 fun as env2 n2 => ∃ (Hb : Hp) (mm : Nat) (A : Nat → Addr) (r : Nat → List Int) (i : Nat), H0 = mat Hb mm A r ∧ MatOk am F0 Hb mm A ∧ o = .obj (A i) ∧ i < mm ∧ m ((r i).map Dt.int) as fun _ ds' => ∃ l', ds' = l'.map Dt.int ∧ V.nx (mat Hb mm A (fun j => if j = i then l' else r j)) env2 n2
theorem rm_of (L : LftM r m) {σ : L2.St} {H : Hp} {K : PySem.W.Frag} {V : XEn} {D : Ends} {H0 F : Hp} {env : Ev} {n : Nat} (rr : Rel ⟨am, F0, H0⟩ F H σ env n) (q : xRM (am := am) (F0 := F0) to m tas V H0 env n) (k : EnX am F0 F V D) :
    tBM K "list" r (fun σ H R => ∃ H0, tOf ⟨am, F0, H0⟩ to σ H R) (fun σ H R => ∃ H0, aOf ⟨am, F0, H0⟩ tas σ H R) σ H fun _ H' => D.nx σ H' := by
  refine ⟨H0, F, env, n, _, rr, q, fun o H1 F1 d env1 n1 r1 u1 p1 q1 => ?_⟩
  obtain ⟨⟨i0, l0, q0, h0, rfl⟩, q1⟩ := q1
  cases p1
  refine ⟨.inl ⟨rfl, _, .inl (.inl (h0.at r1).1)⟩, H0, F1, env1, n1, _, r1, q1, fun vs H2 F2 as env2 n2 r2 u2 p2 q2 => ?_⟩
  obtain ⟨Hb, mm, A, rw_, i, rfl, mo, eo, hi, q2⟩ := q2
  cases eo
  obtain ⟨hH, hF, ns⟩ := (matAt (r := rw_) mo hi).at r2
  refine L F2 H2 (A i) _ _ vs as _ _ r2.sub hF hH (Rps.ints _) p2 q2 fun v d xs' ds' rv rx q3 => ?_
  obtain ⟨l', rfl, q3⟩ := q3
  rw [rx.of_ints]
  exact k.nx _ F2 _ σ env2 n2 (Rel.row mo r2 hi l') (u1.trans u2) q3
theorem xs_rm (pa : PlainAttrs "list") (slot : Slot "list" name id) (hty : typeOf (.builtin id) = pure (.type "method_descriptor")) (hm : MtR X id r) (L : LftM r m) (ho : ∀ H0, PE X o (tOf ⟨am, F0, H0⟩ to)) (ha : ∀ H0, PA X (e :: es) (aOf ⟨am, F0, H0⟩ tas))
    (hsw : swapsWith (.Call (.Attribute o name apos) (e :: es) [] cpos) none pos.line X.env = pure false := by rfl)
    (hbase : attributeBase o name X.env (eval o X.env) = eval o X.env := by rfl)
    (hfew : ((backTo cpos (starEach (e :: es) X.env)).all (fun x => !x.1) && (backToKw cpos (keywordEach [] X.env)).all (fun x => x.1.isSome)
      && decide ((e :: es).length + ([] : List Keyword).length + (if ([] : List Keyword).isEmpty then 0 else 1) < 30)) = true := by rfl)
    (hline : (apos.endLine == cpos.line) = true := by rfl) (hs : starEach (e :: es) X.env = (false, eval e X.env) :: starEach es X.env := by rfl) (hplain : (backTo cpos (starEach es X.env)).any (·.1) = false := by rfl) :
    PS X (.Expr (.Call (.Attribute o name apos) (e :: es) [] cpos) pos) (sX am F0 (xRM (am := am) (F0 := F0) to m tas)) :=
  PS.imp (ps_expr (pe_bm (to := fun σ H R => ∃ H0, tOf ⟨am, F0, H0⟩ to σ H R) (t := fun σ H R => ∃ H0, aOf ⟨am, F0, H0⟩ tas σ H R) pa slot hty hm ⟨fun pins s σ H Q I ⟨H0, q⟩ => (ho H0).run pins s σ H Q I q⟩ ⟨fun pos pins s σ H Q I ⟨H0, q⟩ => (ha H0).run pos pins s σ H Q I q⟩ hbase hfew hline hs hplain) hsw) fun D σ H ⟨H0, F, env, n, V, rr, q, k⟩ => rm_of L rr q k
theorem xs_rm0 (pa : PlainAttrs "list") (slot : Slot "list" name id) (hty : typeOf (.builtin id) = pure (.type "method_descriptor")) (hm : MtR X id r) (L : LftM r m) (ho : ∀ H0, PE X o (tOf ⟨am, F0, H0⟩ to))
    (hsw : swapsWith (.Call (.Attribute o name apos) [] [] cpos) none pos.line X.env = pure false := by rfl)
    (hbase : attributeBase o name X.env (eval o X.env) = eval o X.env := by rfl) (hline : (apos.endLine == cpos.line) = true := by rfl) :
    PS X (.Expr (.Call (.Attribute o name apos) [] [] cpos) pos) (sX am F0 (xRM (am := am) (F0 := F0) to m vNil)) :=
  PS.imp (ps_expr (pe_bm0 (to := fun σ H R => ∃ H0, tOf ⟨am, F0, H0⟩ to σ H R) pa slot hty hm ⟨fun pins s σ H Q I ⟨H0, q⟩ => (ho H0).run pins s σ H Q I q⟩ hbase hline) hsw) fun D σ H ⟨H0, F, env, n, V, rr, q, k⟩ => by
  refine ⟨H0, F, env, n, _, rr, q, fun o H1 F1 d env1 n1 r1 u1 p1 q1 => ?_⟩
  obtain ⟨⟨i0, l0, q0, h0, rfl⟩, Hb, mm, A, rw_, i, rfl, mo, eo, hi, q2⟩ := q1
  cases p1
  refine ⟨.inl ⟨rfl, _, .inl (.inl (h0.at r1).1)⟩, ?_⟩
  cases eo
  obtain ⟨hH, hF, ns⟩ := (matAt (r := rw_) mo hi).at r1
  refine L F1 H1 (A i) _ _ [] [] _ _ r1.sub hF hH (Rps.ints _) .nil q2 fun v d xs' ds' rv rx q3 => ?_
  obtain ⟨l', rfl, q3⟩ := q3
  rw [rx.of_ints]
  exact k.nx _ F1 _ σ env1 n1 (Rel.row mo r1 hi l') u1 q3
/-- l.clear(), l a list of one's own -/
def mClear : RMD := fun ds as Q => as = [] ∧ Q .non []
theorem lft_clear : LftM rClear mClear := fun F H a xs ds vs as Q R u hF hH rx ra ⟨e, q⟩ k => by
  subst e
  cases ra
  exact ⟨a, xs, rfl, rfl, hH, k _ _ [] [] .non .nil q⟩
end
/-- a row of a text behind which nothing is told of what stood when entered -/
def xEnd (H0 : Hp) (t : XTS) : VTS := fun V env n => t { nx := fun _ _ _ => False, rt := fun _ d n => V.rt d n } H0 env n
end VL
namespace VL
open PySem PySem.Spec PyProof.Rows L2 HM
section
variable {am : Am} {F0 H0 H1 F H : Hp} {σ : L2.St} {env : Ev} {n : Nat} {X : Cx} {body : List Stmt} {t : XTS}
/-- of what stood when entered less may be said -/
theorem Rel.less (u : Up H0 H1) (r : Rel ⟨am, F0, H1⟩ F H σ env n) : Rel ⟨am, F0, H0⟩ F H σ env n := by
  refine ⟨r.sub, r.spf, r.amb, r.up0, fun a o h1 nt h2 => r.out0 a o (u a o h1) nt h2, fun a o e ns => r.keep0 a o (u a o e) ns, r.len, fun i s e => ?_, r.apart⟩
  have q := r.sl i s e
  cases s with
  | no => trivial
  | fz d => exact q
  | ow kk =>
    obtain ⟨a, o, g1, g2, g3, g4, g5, g6⟩ := q
    refine ⟨a, o, g1, g2, ?_, g4, g5, g6⟩
    cases e : H0 a with
    | none => exact e
    | some ob =>
      have z : H1 a = some ob := u a ob e
      have g3' : H1 a = none := g3
      rw [g3'] at z
      cases z
theorem MatOk.up {m : Nat} {A : Nat → Addr} {r : Nat → List Int} (mo : MatOk am F0 H0 m A) : Up H0 (mat H0 m A r) := fun a o e => by
  rw [mat_out fun i hi z => by rw [← z, mo.h0 i hi] at e; cases e]
  exact e
def xDrop (H0 : Hp) (t : XTS) : VTS := fun V env n => t { nx := fun H1 e n => Up H0 H1 ∧ V.nx e n, rt := fun H1 d n => Up H0 H1 ∧ V.rt d n, bk := fun H1 e n => Up H0 H1 ∧ V.bk e n, ct := fun H1 e n => Up H0 H1 ∧ V.ct e n } H0 env n
theorem xss_drop (h : PSs X body (sX am F0 t)) : PSs X body (sOf ⟨am, F0, H0⟩ (xDrop H0 t)) := PSs.imp h fun D σ H ⟨F, env, n, V, r, q, k⟩ => ⟨H0, F, env, n, _, r, q,
  ⟨fun H1 F' H' σ' env' n' r' w q' => k.nx F' H' σ' env' n' (r'.less q'.1) w q'.2, fun H1 F' H' σ' env' n' v d r' w rv q' => k.rt F' H' σ' env' n' v d (r'.less q'.1) w rv q'.2,
   fun H1 F' H' σ' env' n' r' w q' => k.bk F' H' σ' env' n' (r'.less q'.1) w q'.2, fun H1 F' H' σ' env' n' r' w q' => k.ct F' H' σ' env' n' (r'.less q'.1) w q'.2⟩⟩
end
/-- shares, the lists new -/
def iL (l : List Nat) : List Int := l.map fun i : Nat => (i : Int)
theorem iL_ns (l : List Nat) : (iL l).map Dt.int = nsD l := (nsD_ints l).symm
def spSharesP : VSpP := fun ds t Q => ∃ (n : Nat) (m : Nat → Nat → Nat) (P : List Nat), ds = [houD n m, .tup (nsD P)] ∧ Hse n m ∧ n ≤ 60 ∧ Sub n m P ∧ Q (iL (lst m P n)) (iL ((List.range n).map (plc m P))) t
end VL
namespace K15
end K15
namespace K15
open PySem PySem.Spec PyProof.Rows L2 HM VL
abbrev s_shares : Stmt := topS 1
theorem sc_shares : FnScope ["house", "part", "least", "places", "number", "inner"] ["house", "part"] (defScope s_shares) := ⟨rfl, rfl, rfl, by decide +kernel, rfl, by decide +kernel, by decide +kernel⟩
section
variable {P : Program} {w : World} {K : PySem.W.Frag} {mg : Str → Option Value} {base : Heap} {am : Am} {gd : Around → Prop} {k : Nat}
theorem ok_sharesP {f : Addr} {fd : FuncData} (F : Fun K "shares" "shares" s_shares f fd) (mz : ∀ x ∈ bn, mg x = none) : VFnP gd P w K mg base CX0 (k + 1) f fd ["house", "part"] am spSharesP := by
  refine vfn_ofP F sc_shares (fun ds n Q h => ?_) ⟨_, fun cdv A out s H E F0 H0 hcd hgd hr =>
    (pssP_cons (ps_liftP (vs_setN (i := 2) sc_shares.nd rfl (.inl rfl) (vn_lst va_nil)))
      (pssP_cons (ps_liftP (vs_setN (i := 3) sc_shares.nd rfl (.inl rfl) (vn_op op_rep lft_rep (ve_new (vn_lst (va_cons (ve_neg ve_int) va_nil))) (ve_cbR call_len_seq lft_len (by rfl) (mz "len" (by decide)) PySem.boot_len (vb_rd (pv 0) vb_nil)))))
      (pssP_cons (ps_liftP (vs_for PassesOwn.never rfl (vi_range1 (by rfl) (mz "range" (by decide)) (vb_cons (ve_cbR call_len_seq lft_len (by rfl) (mz "len" (by decide)) PySem.boot_len (vb_rd (pv 0) vb_nil)) vb_nil)) (vg_name (pg_name (i := 4) sc_shares.nd rfl (.inl rfl)))
        (vss_one (vs_if (vt_cmp op_eq lft_eq (ve_ixO (pv 3) (ve_var (pv 4)) (fun _ _ => rfl)) (ve_neg ve_int) (nomark _))
          (vss_cons (vs_for PassesOwn.never rfl (vi_tup (ve_var (pv 1))) (vg_name (pg_name (i := 5) sc_shares.nd rfl (.inl rfl)))
            (vss_one (vs_setIx (pv 3) (ve_ix ix_list lft_ixL (ve_ixO (pv 0) (ve_var (pv 5)) (fun _ _ => rfl)) (ve_var (pv 4)) (fun _ _ => rfl)) (ve_cbR call_len_seq lft_len (by rfl) (mz "len" (by decide)) PySem.boot_len (vb_rd (pv 2) vb_nil)))))
          (vss_one (vs_expr (ve_m (pe_bm PySem.F.plainAttrs_list PySem.F.slot_list_append PySem.F.type_list_append mt_append (pv 2) (va_cons (ve_var (pv 4)) va_nil)) lft_append))))
          vss_nil))))
      (pssP_one (ps_retP (pv 2) (pv 3)))))), fun ds t Q h => ?_⟩
  · obtain ⟨n, m, L, rfl, _⟩ := h
    rfl
  · obtain ⟨n, m, L, rfl, hH, hn, hS, q⟩ := h
    have hlh : ((List.range n).map fun a => rowD n (m a)).length = n := by rw [List.length_map, List.length_range]
    have hL : L.length ≤ 60 := Nat.le_trans (few_of_nodup hS.nd hS.lt) hn
    refine ⟨Nat.zero_le _, _, rfl, (by decide : 1 ≤ 1000), _, rfl, ⟨_, .inl rfl⟩, _, .inl rfl, _, .inl rfl, rfl, _, n, rfl, by rw [hlh], by omega, by show 1 * n ≤ 1000; omega, ?_⟩
    rw [rep_m1, ← pJ_start (m := m) (P := L)]
    refine ⟨⟨_, .inl rfl⟩, _, .inl rfl, _, .inl rfl, rfl, _, rfl, ⟨by omega, by rw [hlh]; omega⟩, ?_⟩
    rw [hlh]
    refine ⟨fun j env t' => t' = t ∧ ∃ s4 s5, env = [.fz (houD n m), .fz (.tup (nsD L)), .ow (.lst (nsD (lst m L j))), .ow (.lst ((pJ n m L j 0).map Dt.int)), s4, s5], ⟨rfl, .no, .no, rfl⟩, fun j x env t' hx hP => ?_, fun env t' hP => ?_⟩
    · obtain ⟨rfl, s4, s5, rfl⟩ := hP
      obtain ⟨rfl, hj⟩ := rngD_get0 hx
      have hj : j < n := by have : j < ((n : Nat) : Int).toNat := hj; omega
      have hget : atI ((pJ n m L j 0).map Dt.int) (j : Int) = some (.int (if rp m L j < j then ((plc m L j : Nat) : Int) else -1)) := atI_nat (by rw [List.getElem?_map, pJ_zero hj]; rfl)
      refine ⟨⟨_, .inr ⟨_, rfl, rfl⟩⟩, _, rfl, _, _, _, .inr ⟨_, rfl, rfl⟩, rfl, hget, _, rfl, .inl ⟨_, _, rfl, rfl, _, rfl, iteB (fun e => ?_) (fun e => ?_)⟩⟩
      · have e := of_decide_eq_true e
        have hr : rp m L j = j := by
          have h1 := (rp_le (m := m) j L).1
          rcases Nat.lt_or_ge (rp m L j) j with z | z
          · rw [if_pos z] at e; omega
          · omega
        refine ⟨_, rfl, _, rfl, fun i env t2 => t2 = t' ∧ ∃ s5, env = [.fz (houD n m), .fz (.tup (nsD L)), .ow (.lst (nsD (lst m L j))), .ow (.lst ((pJ n m L j i).map Dt.int)), .fz (nD j), s5], ⟨rfl, s5, rfl⟩, fun i x env t2 hx hP => ?_, fun env t2 hP => ?_⟩
        · obtain ⟨rfl, s5, rfl⟩ := hP
          unfold nsD at hx
          rw [List.getElem?_map] at hx
          obtain ⟨x, hx1, rfl⟩ := Option.map_eq_some_iff.mp hx
          have hxn := hS.lt x (List.mem_of_getElem? hx1)
          have hxj := hH.lt x j hxn hj
          refine ⟨⟨_, .inr ⟨_, rfl, rfl⟩⟩, _, .inr ⟨_, rfl, rfl⟩, _, .inl rfl, rfl, ⟨_, rfl⟩, ⟨_, .inl rfl⟩, _, rfl, _, _, _, .inl rfl, rfl, hou_at hxn, _, rfl, _, _, _, rfl, rfl, row_at hj, _, m x j, rfl, rfl, by rw [List.length_map, pJ_len]; exact hxj, rfl, .fz (nD x), ?_⟩
          rw [← pJ_set hH hS hj hr hx1, List.map_set, nsD_len]
          rfl
        · obtain ⟨rfl, s5, rfl⟩ := hP
          rw [nsD_len, pJ_next hH hS hj hr]
          refine ⟨⟨_, rfl⟩, _, rfl, _, rfl, _, rfl, by rw [nsD_len]; exact Nat.le_trans (List.length_filter_le _ _) (by rw [List.length_range]; omega), rfl, .fz (nD j), s5, ?_⟩
          rw [lst_succ, if_pos (show isL m L j = true from decide_eq_true hr), ← nsD_app]
          rfl
      · have e := of_decide_eq_false e
        have hr : rp m L j ≠ j := fun z => e (by rw [z, if_neg (Nat.lt_irrefl _)])
        refine ⟨rfl, .fz (nD j), s5, ?_⟩
        rw [lst_succ, if_neg (by unfold isL; simpa using hr), List.append_nil, ← pJ_skip hH hS hj hr]
        rfl
    · obtain ⟨rfl, s4, s5, rfl⟩ := hP
      rw [rngD_len, show ((n : Nat) : Int).toNat = n by omega, pJ_end hH hS]
      exact ⟨by decide, iL (lst m L n), iL ((List.range n).map (plc m L)), by rw [iL_ns]; rfl, by rw [iL_ns]; rfl, q⟩
end
end K15
namespace K15
end K15
namespace K15
open PySem PySem.Spec PyProof.Rows L2 HM VL
abbrev s_l_part : Stmt := topS 18
theorem sc_l_part : FnScope ["_law_pen_here", "_law_house_here", "_law_many", "_law_k"] ["_law_pen_here", "_law_house_here"] (defScope s_l_part) := ⟨rfl, rfl, rfl, by decide +kernel, rfl, by decide +kernel, by decide +kernel⟩
section
variable {P : Program} {w : World} {K : PySem.W.Frag} {mg : Str → Option Value} {base : Heap} {am : Am} {gd : Around → Prop} {k : Nat}
theorem ok_lpart {p f f_l_take f_l_closed : Addr} {fd fd_l_take fd_l_closed : FuncData} (F : Fun K "_law_part" "_law_part" s_l_part f fd)
    (G_l_take : VFn anyA P w K mg base CX0 (k + 1) f_l_take fd_l_take ["_law_pen_here", "_law_many"] am (spTake p)) (g_l_take : mg "_law_take" = some (.ref f_l_take)) (k_l_take : PySem.W.keepIn K (.ref f_l_take) = true) (b_l_take : Binds K fd_l_take ["_law_pen_here", "_law_many"] [])
    (G_l_closed : VFn anyA P w K mg base CX0 (k + 1) f_l_closed fd_l_closed ["_law_house_here", "_law_numbers"] am spPart) (g_l_closed : mg "_law_closed" = some (.ref f_l_closed)) (k_l_closed : PySem.W.keepIn K (.ref f_l_closed) = true) (b_l_closed : Binds K fd_l_closed ["_law_house_here", "_law_numbers"] [])
    (mz : ∀ x ∈ bn, mg x = none) : VFn gd P w K mg base CX0 (k + 2) f fd ["_law_pen_here", "_law_house_here"] am (spLPart p) := by
  refine vfn_of F sc_l_part (fun ds n Q E h => ?_) ⟨_, fun cdv A out s H E F0 H0 hcd hgd hr =>
    (vss_cons (vs_set (i := 2) sc_l_part.nd rfl (.inl rfl) (ve_ix ix_list lft_ixL (ve_lstK (ka_cons ve_int (ka_cons ve_int (ka_cons ve_int (ka_cons ve_int (ka_cons ve_int (ka_cons ve_int ka_nil)))))) (by decide)) (ve_call G_l_take trivial (hr.mono (by omega)) (by rfl) g_l_take k_l_take b_l_take pass0 (va_cons (ve_var (pv 0)) (va_cons ve_int va_nil))) (fun _ _ => rfl)))
      (vss_one (vs_ret (ve_call G_l_closed trivial (hr.mono (by omega)) (by rfl) g_l_closed k_l_closed b_l_closed pass0 (va_cons (ve_var (pv 1)) (va_cons (ve_new (vn_lc (own := [("_law_k", 3)]) rfl sc_l_part.nd (vi_range1 (by rfl) (mz "range" (by decide)) (vb_cons (ve_var (pv 2)) vb_nil)) (blkOk_by (own := [("_law_k", 3)]) (N := ["_law_pen_here", "_law_house_here", "_law_many", "_law_k"]) (sc := defScope s_l_part) (by decide +kernel)) (tg_name (by simp)) (fun _ _ _ _ _ => (pg_name (i := 3) sc_l_part.nd rfl (.inl rfl))) (fun _ _ _ _ _ _ _ => vts_nil) (fun _ _ _ _ _ _ _ => (ve_call G_l_take trivial (hr.mono (by omega)) (by rfl) g_l_take k_l_take b_l_take pass0 (va_cons (ve_var (pv 0)) (va_cons (ve_cbR call_len_seq lft_len (by rfl) (mz "len" (by decide)) PySem.boot_len (vb_rd (pv 1) vb_nil)) va_nil)))))) va_nil)))))), fun ds t Q E h => ?_⟩
  · obtain ⟨n, m, rfl, _⟩ := h
    rfl
  · obtain ⟨n, m, rfl, hH, hn, q⟩ := h
    have hp0 := hH.pos
    obtain ⟨hl, ehl⟩ : ∃ hl, hl = (List.range n).map fun a => rowD n (m a) := ⟨_, rfl⟩
    have ehou : houD n m = .lst hl := by rw [ehl]; rfl
    have hll : hl.length = n := by rw [ehl, List.length_map, List.length_range]
    rw [ehou]
    refine ⟨_, rfl, 6, rfl, by decide, by decide, fun r hr => ?_⟩
    obtain ⟨v, hv, hv2⟩ : ∃ v : Nat, v ≤ 3 ∧ atI [Dt.int 1, .int 1, .int 2, .int 1, .int 3, .int 0] (r : Int) = some (nD v) := by
      have : r = 0 ∨ r = 1 ∨ r = 2 ∨ r = 3 ∨ r = 4 ∨ r = 5 := by omega
      rcases this with rfl | rfl | rfl | rfl | rfl | rfl
      · exact ⟨1, by decide, rfl⟩
      · exact ⟨1, by decide, rfl⟩
      · exact ⟨2, by decide, rfl⟩
      · exact ⟨1, by decide, rfl⟩
      · exact ⟨3, by decide, rfl⟩
      · exact ⟨0, by decide, rfl⟩
    refine ⟨_, _, _, rfl, rfl, hv2, ?_⟩
    refine ⟨_, rfl, _, rfl, _, rfl, ⟨by omega, by omega⟩, ?_⟩
    refine lc_any (i := 3) (fun j acc => ∃ gs, acc = nsD gs ∧ gs.length = j ∧ ∀ g ∈ gs, g < n) (.head _) (noOw1 rfl no_ow) (by rw [rngD_len]; omega) ⟨[], rfl, rfl, fun g hg => by cases hg⟩ (fun j x acc hx hP R hR => ?_) (fun acc hP => ?_)
    · obtain ⟨gs, rfl, hgl, hgn⟩ := hP
      refine ⟨_, rfl, ⟨_, .inl rfl⟩, _, .inl rfl, _, .inl rfl, rfl, n, by rw [hll]; exact rfl, hp0, by omega, fun r hr => hR _ ⟨gs ++ [r], by rw [← nsD_app], by rw [List.length_append, hgl]; rfl, fun g hg => ?_⟩⟩
      rcases List.mem_append.mp hg with hg | hg
      · exact hgn g hg
      · rw [List.mem_singleton.mp hg]; exact hr
    · obtain ⟨gs, rfl, hgl, hgn⟩ := hP
      rw [rngD_len] at hgl
      refine ⟨_, rfl, n, m, gs, by rw [ehou], hp0, hn, by omega, hH.lt, hgn, fun l hL => q l (hL.sub hH hgn)⟩
end
end K15
namespace K15
end K15
namespace K15
open PySem PySem.Spec PyProof.Rows L2 HM VL
abbrev s_l_due : Stmt := topS 19
theorem sc_l_due : FnScope ["_law_house_here", "_law_part_here", "_law_leasts", "_law_places", "_law_number", "_law_one", "_law_least"] ["_law_house_here", "_law_part_here"] (defScope s_l_due) := ⟨rfl, rfl, rfl, by decide +kernel, rfl, by decide +kernel, by decide +kernel⟩
section
variable {P : Program} {w : World} {K : PySem.W.Frag} {mg : Str → Option Value} {base : Heap} {am : Am} {gd : Around → Prop} {k : Nat}
theorem ok_ldue {f : Addr} {fd : FuncData} (F : Fun K "_law_due" "_law_due" s_l_due f fd) (mz : ∀ x ∈ bn, mg x = none) : VFn gd P w K mg base CX0 (k + 1) f fd ["_law_house_here", "_law_part_here"] am spShares := by
  refine vfn_of F sc_l_due (fun ds n Q E h => ?_) ⟨_, fun cdv A out s H E F0 H0 hcd hgd hr =>
    (vss_cons (vs_setN (i := 2) sc_l_due.nd rfl (.inl rfl) (vn_lst va_nil))
      (vss_cons (vs_setN (i := 3) sc_l_due.nd rfl (.inl rfl) (vn_lst va_nil))
      (vss_cons (vs_for PassesOwn.never rfl (vi_range1 (by rfl) (mz "range" (by decide)) (vb_cons (ve_cbR call_len_seq lft_len (by rfl) (mz "len" (by decide)) PySem.boot_len (vb_rd (pv 0) vb_nil)) vb_nil)) (vg_name (pg_name (i := 4) sc_l_due.nd rfl (.inr rfl)))
        (vss_cons (vs_set (i := 6) sc_l_due.nd rfl (.inl rfl) (ve_cb (cr_min rfl) lft_min (by rfl) (mz "min" (by decide)) (by decide +kernel) (va_cons (ve_new (vn_lc (own := [("_law_one", 5)]) rfl sc_l_due.nd (vi_tup (ve_var (pv 1))) (blkOk_by (own := [("_law_one", 5)]) (N := ["_law_house_here", "_law_part_here", "_law_leasts", "_law_places", "_law_number", "_law_one", "_law_least"]) (sc := defScope s_l_due) (by decide +kernel)) (tg_name (by simp)) (fun _ _ _ _ _ => (pg_name (i := 5) sc_l_due.nd rfl (.inl rfl))) (fun _ _ _ _ _ _ _ => vts_nil) (fun _ _ _ _ _ _ _ => (ve_ix ix_list lft_ixL (ve_ixO (pv 0) (ve_var (pv 5)) (fun _ _ => rfl)) (ve_var (pv 4)) (fun _ _ => rfl))))) va_nil)))
        (vss_cons (vs_if (vt_cmp op_eq lft_eq (ve_var (pv 6)) (ve_var (pv 4)) (nomark _))
          (vss_one (vs_expr (ve_m (pe_bm PySem.F.plainAttrs_list PySem.F.slot_list_append PySem.F.type_list_append mt_append (pv 2) (va_cons (ve_var (pv 4)) va_nil)) lft_append)))
          vss_nil)
        (vss_one (vs_expr (ve_m (pe_bm PySem.F.plainAttrs_list PySem.F.slot_list_append PySem.F.type_list_append mt_append (pv 3) (va_cons (ve_indexO (pv 2) (ve_var (pv 6))) va_nil)) lft_append))))))
      (vss_one (vs_ret (ve_tup (va_cons (ve_mv (pv 2)) (va_cons (ve_mv (pv 3)) va_nil)))))))), fun ds t Q E h => ?_⟩
  · obtain ⟨n, m, L, rfl, _⟩ := h
    rfl
  · obtain ⟨n, m, L, rfl, hH, hn, hS, q⟩ := h
    have hL : L.length ≤ 60 := Nat.le_trans (few_of_nodup hS.nd hS.lt) hn
    have hlh : ((List.range n).map fun a => rowD n (m a)).length = n := by rw [List.length_map, List.length_range]
    refine ⟨Nat.zero_le _, Nat.zero_le _, ⟨_, .inl rfl⟩, _, .inl rfl, _, .inl rfl, rfl, _, rfl, ⟨by omega, by rw [hlh]; omega⟩, ?_⟩
    rw [hlh]
    refine ⟨fun j env t' => t' = t ∧ ∃ s4 s6, env = [.fz (houD n m), .fz (.tup (nsD L)), .ow (.lst (nsD (lst m L j))), .ow (.lst (nsD ((List.range j).map (plc m L)))), s4, .no, s6], ⟨rfl, .no, .no, rfl⟩, fun j x env t' hx hP => ?_, fun env t' hP => ?_⟩
    · obtain ⟨rfl, s4, s6, rfl⟩ := hP
      obtain ⟨rfl, hj⟩ := rngD_get0 hx
      have hj : j < n := by have : j < ((n : Nat) : Int).toNat := hj; omega
      have hlen : (lst m L j).length ≤ 60 := Nat.le_trans (List.length_filter_le _ _) (by rw [List.length_range]; omega)
      refine ⟨_, rfl, _, rfl, lc_map (i := 5) (fun i => nD (m (tA L i) j)) (.head _) (noOw1 rfl no_ow) (by rw [nsD_len]; omega) (fun i x hx R hR => ?_) ?_⟩
      · unfold nsD at hx
        rw [List.getElem?_map] at hx
        obtain ⟨y, hy, rfl⟩ := Option.map_eq_some_iff.mp hx
        have ey : tA L i = y := by
          have := tA_get (List.getElem?_eq_some_iff.mp hy).1
          rw [hy] at this
          exact (Option.some.inj this).symm
        have hyn := hS.lt y (List.mem_of_getElem? hy)
        rw [ey] at hR
        exact ⟨⟨_, .inl rfl⟩, _, rfl, _, _, _, .inl rfl, rfl, hou_at hyn, _, rfl, _, _, _, rfl, rfl, row_at hj, hR⟩
      have em : (List.range (nsD L).length).map (fun i => nD (m (tA L i) j)) = ((L.map fun x => m x j).map fun i : Nat => (i : Int)).map Dt.int := by
        rw [← nsD_ints, nsD_len]
        unfold nsD
        rw [List.map_map]
        refine List.ext_getElem? fun j => ?_
        rw [List.getElem?_map, List.getElem?_map]
        by_cases hj : j < L.length
        · rw [List.getElem?_range hj, tA_get hj]
          rfl
        · rw [List.getElem?_eq_none (by rw [List.length_range]; omega), List.getElem?_eq_none (by omega)]
          rfl
      rw [em]
      refine ⟨_, rfl, _, rfl, by rw [List.length_map, List.length_map]; exact List.length_pos_of_mem hS.ze, fun r h1 h2 => ?_⟩
      have er := rp_least hH hS hj h1 h2
      rw [er]
      have hrl := hS.isL_rp hH hj
      have hrj : rp m L j < j + 1 := Nat.lt_succ_of_le (rp_le (m := m) j L).1
      have hpl : (lst m L (j + 1))[plc m L j]? = some (rp m L j) := lst_place hrl hrj
      have hat : ((lst m L (j + 1)).map fun i : Nat => (i : Int))[plc m L j]? = some ((rp m L j : Nat) : Int) := by
        rw [List.getElem?_map, hpl]
        rfl
      have hne : ∀ i z, i < plc m L j → ((lst m L (j + 1)).map fun i : Nat => (i : Int))[i]? = some z → z ≠ ((rp m L j : Nat) : Int) := fun i z hi hz e => by
        rw [List.getElem?_map] at hz
        obtain ⟨y, hy, rfl⟩ := Option.map_eq_some_iff.mp hz
        have ey : y = rp m L j := Int.ofNat_inj.mp e
        rw [ey] at hy
        have a1 := List.getElem?_eq_some_iff.mp hy
        have a2 := List.getElem?_eq_some_iff.mp hpl
        exact absurd (a1.2.trans a2.2.symm) (List.pairwise_iff_getElem.mp (lst_nodup (m := m) (P := L) (j + 1)) i _ a1.1 a2.1 hi)
      have epl : nsD ((List.range (j + 1)).map (plc m L)) = nsD ((List.range j).map (plc m L)) ++ [nD (plc m L j)] := by
        rw [List.range_succ, List.map_append]
        unfold nsD
        rw [List.map_append]
        rfl
      refine ⟨_, rfl, _, rfl, .inl ⟨_, _, rfl, rfl, _, rfl, iteB (fun e => ?_) (fun e => ?_)⟩⟩
      · have e := Int.ofNat_inj.mp (of_decide_eq_true e)
        have e5 : nsD (lst m L j) ++ [nD j] = nsD (lst m L (j + 1)) := by
          rw [lst_succ, if_pos (show isL m L j = true from decide_eq_true e), ← nsD_app]
        refine ⟨⟨_, rfl⟩, _, rfl, _, rfl, _, rfl, by rw [nsD_len]; omega, ?_⟩
        show vDrop (vM 3 mAppend (vCons (vIndexO 2 (vVar 6)) vNil)) _ [.fz (houD n m), .fz (.tup (nsD L)), .ow (.lst (nsD (lst m L j) ++ [nD j])), .ow (.lst (nsD ((List.range j).map (plc m L)))), .fz (nD j), .no, .fz (nD (rp m L j))] _
        rw [e5]
        refine ⟨⟨_, rfl⟩, ⟨_, .inr ⟨_, rfl, rfl⟩⟩, _, rfl, (lst m L (j + 1)).map fun i : Nat => (i : Int), _, plc m L j, .inr ⟨_, rfl, by rw [← nsD_ints]⟩, rfl, hat, hne, _, rfl, _, rfl, by rw [nsD_len, List.length_map, List.length_range]; omega, rfl, .fz (nD j), .fz (nD (rp m L j)), ?_⟩
        rw [epl]
        rfl
      · have e := of_decide_eq_false e
        have e5 : nsD (lst m L j) = nsD (lst m L (j + 1)) := by
          rw [lst_succ, if_neg (show ¬ isL m L j = true from fun z => e (by rw [of_decide_eq_true z])), List.append_nil]
        show vDrop (vM 3 mAppend (vCons (vIndexO 2 (vVar 6)) vNil)) _ [.fz (houD n m), .fz (.tup (nsD L)), .ow (.lst (nsD (lst m L j))), .ow (.lst (nsD ((List.range j).map (plc m L)))), .fz (nD j), .no, .fz (nD (rp m L j))] _
        rw [e5]
        refine ⟨⟨_, rfl⟩, ⟨_, .inr ⟨_, rfl, rfl⟩⟩, _, rfl, (lst m L (j + 1)).map fun i : Nat => (i : Int), _, plc m L j, .inr ⟨_, rfl, by rw [← nsD_ints]⟩, rfl, hat, hne, _, rfl, _, rfl, by rw [nsD_len, List.length_map, List.length_range]; omega, rfl, .fz (nD j), .fz (nD (rp m L j)), ?_⟩
        rw [epl]
        rfl
    · obtain ⟨rfl, s4, s6, rfl⟩ := hP
      rw [rngD_len, show ((n : Nat) : Int).toNat = n by omega]
      exact ⟨_, rfl, _, rfl, (by decide : 2 ≤ 1000), q⟩
end
end K15
namespace K15
end K15
namespace K15
open PySem PySem.Spec PyProof.Rows L2 HM VL
abbrev s_l_same : Stmt := topS 5
theorem sc_l_same : FnScope ["_law_found", "_law_due_here", "_law_one", "_law_other"] ["_law_found", "_law_due_here"] (defScope s_l_same) := ⟨rfl, rfl, rfl, by decide +kernel, rfl, by decide +kernel, by decide +kernel⟩
section
variable {P : Program} {w : World} {K : PySem.W.Frag} {mg : Str → Option Value} {base : Heap} {am : Am} {gd : Around → Prop} {k : Nat}
open Classical in
theorem ok_same_ {d : Nat} {sp2 : VSp} {f : Addr} {fd : FuncData} (F : Fun K "_law_same" "_law_same" s_l_same f fd) (hc : d = 0 ∨ ∃ d', d = d' + 1 ∧ sp2 = spSameG d') (G_l_same : VFn anyA P w K mg base CX0 (k + 1) f fd ["_law_found", "_law_due_here"] am sp2) (g_l_same : mg "_law_same" = some (.ref f)) (k_l_same : PySem.W.keepIn K (.ref f) = true) (b_l_same : Binds K fd ["_law_found", "_law_due_here"] [])
    (mz : ∀ x ∈ bn, mg x = none) : VFn gd P w K mg base CX0 (k + 2) f fd ["_law_found", "_law_due_here"] am (spSameG d) := by
  refine vfn_of F sc_l_same (fun ds n Q E h => ?_) ⟨_, fun cdv A out s H E F0 H0 hcd hgd hr =>
    (vss_cons (vs_if (vt_val (ve_isi2 (T' := "list") (U' := "tuple") (by rfl) (mz "isinstance" (by decide)) (by rfl) (mz "list" (by decide)) (by rfl) (mz "tuple" (by decide)) (ve_var (pv 1))))
        (vss_cons (vs_if (vt_or (vt_not (vt_val (ve_isi2 (T' := "list") (U' := "tuple") (by rfl) (mz "isinstance" (by decide)) (by rfl) (mz "list" (by decide)) (by rfl) (mz "tuple" (by decide)) (ve_var (pv 0))))) (vt_or1 (vt_cmp op_ne lft_ne (ve_isi (T' := "list") (by rfl) (mz "isinstance" (by decide)) (by rfl) (mz "list" (by decide)) (ve_var (pv 0))) (ve_isi (T' := "list") (by rfl) (mz "isinstance" (by decide)) (by rfl) (mz "list" (by decide)) (ve_var (pv 1))) (nomark _)))).pt
          (vss_one (vs_ret ve_bl))
          vss_nil)
        (vss_one (vs_ret (ve_and (ve_cmp op_eq lft_eq (ve_cbR call_len_seq lft_len (by rfl) (mz "len" (by decide)) PySem.boot_len (vb_rd (pv 0) vb_nil)) (ve_cbR call_len_seq lft_len (by rfl) (mz "len" (by decide)) PySem.boot_len (vb_rd (pv 1) vb_nil)) (nomark _)) (ve_one (ve_cb (cr_all rfl) lft_all (by rfl) (mz "all" (by decide)) (by decide +kernel) (va_cons (ve_new (vn_lc (own := [("_law_one", 2), ("_law_other", 3)]) rfl sc_l_same.nd (vi_zip (by rfl) (mz "zip" (by decide)) (va_cons (ve_var (pv 0)) (va_cons (ve_var (pv 1)) va_nil))) (blkOk_by (own := [("_law_one", 2), ("_law_other", 3)]) (N := ["_law_found", "_law_due_here", "_law_one", "_law_other"]) (sc := defScope s_l_same) (by decide +kernel)) (tg_two (by simp) (by simp)) (fun _ _ _ _ _ => pg_tup rfl (pgs_cons (pg_name (i := 2) sc_l_same.nd rfl (.inl rfl)) (pgs_cons (pg_name (i := 3) sc_l_same.nd rfl (.inl rfl)) pgs_nil))) (fun _ _ _ _ _ _ _ => vts_nil) (fun _ _ _ _ _ _ _ => (ve_call G_l_same trivial (hr.mono (by omega)) (by rfl) g_l_same k_l_same b_l_same pass0 (va_cons (ve_var (pv 2)) (va_cons (ve_var (pv 3)) va_nil)))))) va_nil)))))))
        vss_nil)
      (vss_one (vs_ret (ve_and (ve_isi (T' := "int") (by rfl) (mz "isinstance" (by decide)) (by rfl) (mz "int" (by decide)) (ve_var (pv 0))) (ve_and (ve_not (ve_isi (T' := "bool") (by rfl) (mz "isinstance" (by decide)) (by rfl) (mz "bool" (by decide)) (ve_var (pv 0)))) (ve_one (ve_cmpN (op_eqD hr.units) lft_eqD (pv 0) (vr_var (pv 1)) (nomark _)))))))), fun ds t Q E h => ?_⟩
  · obtain ⟨x, y, rfl, _⟩ := h
    rfl
  · obtain ⟨x, y, rfl, hx, hy, q⟩ := h
    have tx := wd_ty hx
    have ty := wd_ty hy
    refine ⟨_, rfl, _, _, _, rfl, ty, kit_list ty, kit_tuple ty, _, rfl, iteB (fun e => ?_) (fun e => ?_)⟩
    · have hsy : ∃ d' ys, d = d' + 1 ∧ (y = .lst ys ∨ y = .tup ys) ∧ ys.length ≤ 1000 ∧ ∀ z ∈ ys, wd d' z := by
        rcases wd_cases hy with ⟨i, rfl⟩ | h
        · cases e
        · exact h
      obtain ⟨d', ys, rfl, ey, hyl, hyw⟩ := hsy
      obtain ⟨d2, hd2, rfl⟩ : ∃ d2, d' + 1 = d2 + 1 ∧ sp2 = spSameG d2 := by
        rcases hc with z | z
        · cases z
        · exact z
      cases hd2
      refine ⟨_, rfl, _, _, _, rfl, tx, kit_list tx, kit_tuple tx, _, rfl, iteB (fun e2 => ?_) (fun e2 => ?_)⟩
      · refine iteB (fun _ => ?_) (fun z => by cases z)
        refine q false ⟨fun z => (by cases z), fun z => ?_⟩
        subst z
        rcases ey with rfl | rfl <;> cases e2
      · have hsx : ∃ xs, (x = .lst xs ∨ x = .tup xs) ∧ xs.length ≤ 1000 ∧ ∀ z ∈ xs, wd d' z := by
          rcases wd_cases hx with ⟨i, rfl⟩ | ⟨d3, xs, h1, h2, h3, h4⟩
          · cases e2
          · cases h1
            exact ⟨xs, h2, h3, h4⟩
        obtain ⟨xs, ex, hxl, hxw⟩ := hsx
        refine ⟨_, rfl, _, _, _, rfl, tx, kit_list tx, _, rfl, _, _, _, rfl, ty, kit_list ty, .inr ⟨_, _, rfl, rfl, _, rfl, iteB (fun e3 => ?_) (fun e3 => ?_)⟩⟩
        · refine q false ⟨fun z => (by cases z), fun z => ?_⟩
          subst z
          simp at e3
        have hk : (x = .lst xs ∧ y = .lst ys) ∨ (x = .tup xs ∧ y = .tup ys) := by
          rcases ex with rfl | rfl <;> rcases ey with rfl | rfl
          · exact .inl ⟨rfl, rfl⟩
          · cases e3
          · cases e3
          · exact .inr ⟨rfl, rfl⟩
        have hxy : x = y ↔ xs = ys := by
          rcases hk with ⟨rfl, rfl⟩ | ⟨rfl, rfl⟩
          · exact ⟨fun z => by injection z, fun z => by rw [z]⟩
          · exact ⟨fun z => by injection z, fun z => by rw [z]⟩
        refine ⟨⟨_, .inl rfl⟩, _, .inl rfl, xs, ex.imp (fun h => by rw [h]) (fun h => by rw [h]), rfl, ⟨_, .inl rfl⟩, _, .inl rfl, ys, ey.imp (fun h => by rw [h]) (fun h => by rw [h]), rfl, .inl ⟨_, _, rfl, rfl, _, rfl, iteB (fun e4 => ?_) (fun e4 => ?_)⟩⟩
        · have hle : xs.length = ys.length := by have := of_decide_eq_true e4; omega
          refine ⟨_, rfl, _, rfl, xs, ys, hk.elim (fun h => .inr (by rw [h.1, h.2])) (fun h => .inl (by rw [h.1, h.2])), ?_⟩
          refine lc_map2 (i := 2) (i2 := 3) (fun j => .bl (decide (xs[j]? = ys[j]?))) (.head _) (.tail _ (.head _)) (noOw2 (s := .no) (s2 := .no) rfl rfl no_ow no_ow) (by rw [zipD_len]; omega) (fun j z hz => ?_) ?_
          · obtain ⟨a, b, ha, hb, rfl⟩ := zipD_get hz
            refine ⟨a, b, rfl, fun R hR => ⟨_, rfl, _, rfl, a, b, rfl, hxw a (List.mem_of_getElem? ha), hyw b (List.mem_of_getElem? hb), fun c hc => ?_⟩⟩
            have : c = decide (xs[j]? = ys[j]?) := by
              rw [ha, hb]
              by_cases z : a = b
              · rw [hc.mpr z, decide_eq_true (by rw [z])]
              · have : c = false := by
                  cases c with
                  | true => exact absurd (hc.mp rfl) z
                  | false => rfl
                rw [this, decide_eq_false fun h => z (Option.some.inj h)]
            rw [this]
            exact hR
          · refine ⟨_, rfl, (List.range (zipD xs ys).length).map fun j => decide (xs[j]? = ys[j]?), by rw [List.map_map]; rfl, q _ ?_⟩
            rw [hxy, zipD_len, List.all_map, List.all_eq_true]
            refine ⟨fun h => List.ext_getElem? fun j => ?_, fun h j _ => ?_⟩
            · by_cases hj : j < xs.length
              · exact of_decide_eq_true (h j (List.mem_range.mpr (by omega)))
              · rw [List.getElem?_eq_none (by omega), List.getElem?_eq_none (by omega)]
            · exact decide_eq_true (by rw [h])
        · refine q false ⟨fun z => (by cases z), fun z => ?_⟩
          have := of_decide_eq_false e4
          rw [hxy.mp z] at this
          exact absurd rfl this
    · have hyi : ∃ j, y = .int j := by
        rcases wd_cases hy with h | ⟨_, ys, _, rfl | rfl, _⟩
        · exact h
        · cases e
        · cases e
      obtain ⟨j, rfl⟩ := hyi
      refine ⟨_, rfl, _, _, _, rfl, tx, kit_int tx, _, rfl, iteB (fun e2 => ?_) (fun e2 => ?_)⟩
      · have hxi : ∃ i, x = .int i := by
          rcases wd_cases hx with h | ⟨_, ys, _, rfl | rfl, _⟩
          · exact h
          · cases e2
          · cases e2
        obtain ⟨i, rfl⟩ := hxi
        refine ⟨_, rfl, _, _, _, rfl, tx, kit_bool tx, _, rfl, _, rfl, iteB (fun e3 => ?_) (fun e3 => by cases e3)⟩
        exact ⟨⟨_, .inl rfl⟩, _, .inl rfl, _, .inl rfl, dEqD_pl rfl rfl (show 0 ≤ 64 by decide) (show 0 ≤ 64 by decide) fun b hb => ⟨rfl, q b hb⟩⟩
      · refine q false ⟨fun z => (by cases z), fun z => ?_⟩
        subst z
        cases e2
theorem ok_same0 {f : Addr} {fd : FuncData} (F : Fun K "_law_same" "_law_same" s_l_same f fd) (g_l_same : mg "_law_same" = some (.ref f)) (k_l_same : PySem.W.keepIn K (.ref f) = true) (b_l_same : Binds K fd ["_law_found", "_law_due_here"] [])
    (mz : ∀ x ∈ bn, mg x = none) : ∀ (d : Nat) {gd : Around → Prop}, VFn gd P w K mg base CX0 (k + 2 + d) f fd ["_law_found", "_law_due_here"] am (spSameG d)
  | 0, _ => ok_same_ F (.inl rfl) never g_l_same k_l_same b_l_same mz
  | d + 1, _ => (show k + 1 + d + 2 = k + 2 + (d + 1) by omega) ▸ ok_same_ (k := k + 1 + d) F (.inr ⟨d, rfl, rfl⟩) (by rw [show k + 1 + d + 1 = k + 2 + d by omega]; exact ok_same0 F g_l_same k_l_same b_l_same mz d) g_l_same k_l_same b_l_same mz
end
end K15
namespace K15
end K15
namespace K15
open PySem PySem.Spec PyProof.Rows L2 HM VL
abbrev s_l_doubled : Stmt := topS 14
theorem sc_l_doubled : FnScope ["_law_house_here", "_law_found", "_law_row", "_law_sign", "_law_k"] ["_law_house_here"] (defScope s_l_doubled) := ⟨rfl, rfl, rfl, by decide +kernel, rfl, by decide +kernel, by decide +kernel⟩
abbrev s_l_crossed : Stmt := topS 13
theorem sc_l_crossed : FnScope ["_law_half", "_law_ring", "_law_k", "_law_pairs", "_law_found", "_law_i", "_law_j", "_law_row", "_law_u", "_law_v", "_law_place"] ["_law_half"] (defScope s_l_crossed) := ⟨rfl, rfl, rfl, by decide +kernel, rfl, by decide +kernel, by decide +kernel⟩
abbrev s_l_of_pairs : Stmt := topS 12
theorem sc_l_of_pairs : FnScope ["_law_pen_here", "_law_most", "_law_many", "_law_other", "_law_by", "_law_powers", "_law_k", "_law_pairs", "_law_found", "_law_i", "_law_j", "_law_row", "_law_u", "_law_v", "_law_first"] ["_law_pen_here", "_law_most"] (defScope s_l_of_pairs) := ⟨rfl, rfl, rfl, by decide +kernel, rfl, by decide +kernel, by decide +kernel⟩
section
variable {P : Program} {w : World} {K : PySem.W.Frag} {mg : Str → Option Value} {base : Heap} {am : Am} {gd : Around → Prop} {k : Nat}
theorem ok_dbl {f : Addr} {fd : FuncData} (F : Fun K "_law_doubled" "_law_doubled" s_l_doubled f fd) (mz : ∀ x ∈ bn, mg x = none) : VFn gd P w K mg base CX0 (k + 1) f fd ["_law_house_here"] am spDbl := by
  refine vfn_of F sc_l_doubled (fun ds n Q E h => ?_) ⟨_, fun cdv A out s H E F0 H0 hcd hgd hr =>
    (vss_cons (vs_setN (i := 1) sc_l_doubled.nd rfl (.inl rfl) (vn_lst va_nil))
      (vss_cons (vs_for PassesOwn.never rfl (vi_list (ve_var (pv 0))) (vg_name (pg_name (i := 2) sc_l_doubled.nd rfl (.inr rfl)))
        (vss_one (vs_for PassesOwn.never rfl (vi_range1 (by rfl) (mz "range" (by decide)) (vb_cons ve_int vb_nil)) (vg_name (pg_name (i := 3) sc_l_doubled.nd rfl (.inr rfl)))
          (vss_one (vs_expr (ve_m (pe_bm PySem.F.plainAttrs_list PySem.F.slot_list_append PySem.F.type_list_append mt_append (pv 1) (va_cons (ve_new (vn_lc (own := [("_law_k", 4)]) rfl sc_l_doubled.nd (vi_range1 (by rfl) (mz "range" (by decide)) (vb_cons (ve_op op_mul lft_I ve_int (ve_cbR call_len_seq lft_len (by rfl) (mz "len" (by decide)) PySem.boot_len (vb_rd (pv 0) vb_nil))) vb_nil)) (blkOk_by (own := [("_law_k", 4)]) (N := ["_law_house_here", "_law_found", "_law_row", "_law_sign", "_law_k"]) (sc := defScope s_l_doubled) (by decide +kernel)) (tg_name (by simp)) (fun _ _ _ _ _ => (pg_name (i := 4) sc_l_doubled.nd rfl (.inl rfl))) (fun _ _ _ _ _ _ _ => vts_nil) (fun _ _ _ _ _ _ _ => (ve_op op_add lft_I0 (ve_op op_mul lft_I (ve_ixO (pv 2) (ve_op op_fdiv lft_I (ve_var (pv 4)) ve_int) (fun _ _ => rfl)) ve_int) (ve_op op_mod lft_I (ve_op op_add lft_I0 (ve_var (pv 3)) (ve_var (pv 4))) ve_int))))) va_nil)) lft_append))))))
      (vss_one (vs_ret (ve_mv (pv 1)))))), fun ds t Q E h => ?_⟩
  · obtain ⟨n, m, rfl, _⟩ := h
    rfl
  · obtain ⟨n, m, rfl, h30, q⟩ := h
    obtain ⟨hou, ehou⟩ : ∃ hou, hou = houD n m := ⟨_, rfl⟩
    rw [← ehou]
    have hl : ∀ (j : Nat) x, ((List.range n).map fun a => rowD n (m a))[j]? = some x → x = rowD n (m j) ∧ j < n := fun j x h => by
      have hj := (List.getElem?_eq_some_iff.mp h).1
      rw [List.length_map, List.length_range] at hj
      rw [List.getElem?_map, List.getElem?_range hj] at h
      exact ⟨(Option.some.inj h).symm, hj⟩
    refine ⟨Nat.zero_le _, _, rfl, _, ehou, fun j env t' => t' = t ∧ ∃ s2 s3, env = [.fz hou, .ow (.lst ((List.range (2 * j)).map fun a => rowD (2 * n) (dblM m a))), s2, s3, .no], ⟨rfl, .no, .no, rfl⟩, fun j x env t' hx hP => ?_, fun env t' hP => ?_⟩
    · obtain ⟨rfl, s2, s3, rfl⟩ := hP
      obtain ⟨rfl, hj⟩ := hl j x hx
      refine ⟨2, rfl, by decide, fun i env t2 => t2 = t' ∧ ∃ s3, env = [.fz hou, .ow (.lst ((List.range (2 * j + i)).map fun a => rowD (2 * n) (dblM m a))), .fz (rowD n (m j)), s3, .no], ⟨rfl, s3, rfl⟩, fun i x env t2 hx hP => ?_, fun env t2 hP => ?_⟩
      · obtain ⟨rfl, s3, rfl⟩ := hP
        obtain ⟨rfl, hi⟩ := rngD_get0 hx
        have hi2 : i < 2 := hi
        refine ⟨⟨_, rfl⟩, ⟨_, .inl rfl⟩, hou, .inl rfl, _, .inl (by rw [ehou]; rfl), rfl, 2, _, rfl, rfl, .inl (by decide), _, rfl, by rw [List.length_map, List.length_range]; omega, ?_⟩
        rw [List.length_map, List.length_range, show ((2 : Int) * (n : Int)).toNat = 2 * n by omega]
        refine lc_map (i := 4) (fun k => nD (dblM m (2 * j + i) k)) (.head _) (noOw1 rfl no_ow) (by rw [rngD_len]; omega) (fun k x hx R q => ?_) ?_
        · obtain ⟨rfl, hk⟩ := rngD_get0 hx
          refine ⟨⟨_, .inl rfl⟩, _, rfl, _, _, rfl, rfl, ⟨by decide, by decide⟩, _, _, nD (m j (k / 2)), .inl rfl, rfl, row_at (i := k / 2) (by omega), _, _, rfl, rfl, .inr (by decide), _, rfl, _, rfl, _, _, rfl, rfl, _, _, rfl, rfl, p02, _, _, rfl, rfl, ?_⟩
          have e : (m j (k / 2) : Int) * 2 + ((i : Int) + (k : Int)) % 2 = ((dblM m (2 * j + i) k : Nat) : Int) := by
            unfold dblM
            rw [show (2 * j + i) / 2 = j by omega]
            omega
          exact at_int q e
        · rw [rngD_len]
          refine ⟨_, rfl, _, rfl, _, rfl, by rw [List.length_map, List.length_range]; omega, rfl, .fz (.int (i : Int)), ?_⟩
          rw [show 2 * j + (i + 1) = (2 * j + i) + 1 by omega, List.range_succ (n := 2 * j + i), List.map_append]
          rw [show (List.range (2 * n)).map (fun k => nD (dblM m (2 * j + i) k)) = nsD ((List.range (2 * n)).map (dblM m (2 * j + i))) by unfold nsD; rw [List.map_map]; rfl]
          rfl
      · obtain ⟨rfl, s3, rfl⟩ := hP
        exact ⟨rfl, _, _, rfl⟩
    · obtain ⟨rfl, s2, s3, rfl⟩ := hP
      refine ⟨_, rfl, ?_⟩
      rw [List.length_map, List.length_range]
      exact q
theorem ok_cr {f : Addr} {fd : FuncData} (F : Fun K "_law_crossed" "_law_crossed" s_l_crossed f fd) (mz : ∀ x ∈ bn, mg x = none) : VFn gd P w K mg base CX0 (k + 1) f fd ["_law_half"] am spCr := by
  refine vfn_of F sc_l_crossed (fun ds n Q E h => ?_) ⟨_, fun cdv A out s H E F0 H0 hcd hgd hr =>
    (vss_cons (vs_set (i := 1) sc_l_crossed.nd rfl (.inr rfl) (ve_op op_mul lft_I ve_int (ve_var (pv 0))))
      (vss_cons (vs_setLcF (i := 3) (own := [("_law_k", 2)]) rfl sc_l_crossed.nd rfl rfl (sw_true rfl rfl rfl (by decide +kernel)) (vi_range1 (by rfl) (mz "range" (by decide)) (vb_cons (ve_op op_mul lft_I ve_int (ve_var (pv 1))) vb_nil)) (blkOk_by (own := [("_law_k", 2)]) (N := ["_law_half", "_law_ring", "_law_k", "_law_pairs", "_law_found", "_law_i", "_law_j", "_law_row", "_law_u", "_law_v", "_law_place"]) (sc := defScope s_l_crossed) (by decide +kernel)) (tg_name (by simp)) (fun _ _ _ _ _ => (pg_name (i := 2) sc_l_crossed.nd rfl (.inl rfl))) (fun _ _ _ _ _ _ _ => vts_nil) (fun _ _ _ _ _ _ _ => (ve_tup (va_cons (ve_op op_mod lft_I (ve_var (pv 2)) (ve_var (pv 1))) (va_cons (ve_op op_fdiv lft_I (ve_var (pv 2)) (ve_var (pv 1))) va_nil)))))
      (vss_cons (vs_setN (i := 4) sc_l_crossed.nd rfl (.inl rfl) (vn_lst va_nil))
      (vss_cons (vs_for PassesOwn.never rfl (vi_list (ve_var (pv 3))) (vg_tup (m := 2) rfl (vgs_cons (vg_name (pg_name (i := 5) sc_l_crossed.nd rfl (.inl rfl))) (vgs_cons (vg_name (pg_name (i := 6) sc_l_crossed.nd rfl (.inl rfl))) vgs_nil)))
        (vss_cons (vs_setN (i := 7) sc_l_crossed.nd rfl (.inl rfl) (vn_lst va_nil))
        (vss_cons (vs_for PassesOwn.never rfl (vi_list (ve_var (pv 3))) (vg_tup (m := 2) rfl (vgs_cons (vg_name (pg_name (i := 8) sc_l_crossed.nd rfl (.inl rfl))) (vgs_cons (vg_name (pg_name (i := 9) sc_l_crossed.nd rfl (.inl rfl))) vgs_nil)))
          (vss_cons (vs_set (i := 10) sc_l_crossed.nd rfl (.inl rfl) (ve_op op_add lft_I0 (ve_op op_add lft_I0 (ve_var (pv 5)) (ve_ix ix_list lft_ixL (ve_new (vn_lst (va_cons (ve_var (pv 8)) (va_cons (ve_op op_sub lft_I0 ve_int (ve_var (pv 8))) va_nil)))) (ve_var (pv 6)) (fun _ _ => rfl))) (ve_op op_mul lft_I (ve_op op_mul lft_I (ve_var (pv 0)) (ve_var (pv 6))) (ve_var (pv 9)))))
          (vss_one (vs_expr (ve_m (pe_bm PySem.F.plainAttrs_list PySem.F.slot_list_append PySem.F.type_list_append mt_append (pv 7) (va_cons (ve_op op_add lft_I0 (ve_op op_mod lft_I (ve_var (pv 10)) (ve_var (pv 1))) (ve_op op_mul lft_I (ve_var (pv 1)) (ve_op op_mod lft_I (ve_op op_add lft_I0 (ve_var (pv 6)) (ve_var (pv 9))) ve_int))) va_nil)) lft_append)))))
        (vss_one (vs_expr (ve_m (pe_bm PySem.F.plainAttrs_list PySem.F.slot_list_append PySem.F.type_list_append mt_append (pv 4) (va_cons (ve_mv (pv 7)) va_nil)) lft_append))))))
      (vss_one (vs_ret (ve_mv (pv 4)))))))), fun ds t Q E h => ?_⟩
  · obtain ⟨n, rfl, _⟩ := h
    rfl
  · obtain ⟨h, rfl, h0, h6, q⟩ := h
    obtain ⟨r, er⟩ : ∃ r, r = 2 * h := ⟨_, rfl⟩
    obtain ⟨pp, hpp⟩ : ∃ pp : List Dt, pp = (List.range (2 * r)).map fun k => .tup [nD (k % r), nD (k / r)] := ⟨_, rfl⟩
    have hp : ∀ (j : Nat) x, pp[j]? = some x → x = .tup [nD (j % r), nD (j / r)] ∧ j < 2 * r := fun j x h => by
      rw [hpp] at h
      have hj := (List.getElem?_eq_some_iff.mp h).1
      rw [List.length_map, List.length_range] at hj
      rw [List.getElem?_map, List.getElem?_range hj] at h
      exact ⟨(Option.some.inj h).symm, hj⟩
    have hpl : pp.length = 2 * r := by rw [hpp, List.length_map, List.length_range]
    refine ⟨_, rfl, _, _, rfl, rfl, .inl (by decide), _, rfl, _, _, rfl, rfl, .inl (by decide), _, rfl, by omega, ?_⟩
    show LcBody (vgName 2) vYes _ _ (rngD 0 (2 * (2 * (h : Int))).toNat) [.fz (nD h), .fz (.int (2 * (h : Int))), .no, .no, .no, .no, .no, .no, .no, .no, .no] t _
    rw [show (2 * (2 * (h : Int))).toNat = 2 * r by omega, show (2 : Int) * (h : Int) = (r : Int) by omega]
    have r0 : (0 : Int) < (r : Int) := by omega
    have r1 : CDiv 0 (r : Int) := ⟨r0, by omega⟩
    refine lc_map (i := 2) (fun k => .tup [nD (k % r), nD (k / r)]) (.head _) (noOw1 rfl no_ow) (by rw [rngD_len]; omega) (fun k x hx R q => ?_) ?_
    · obtain ⟨rfl, hk⟩ := rngD_get0 hx
      exact ⟨_, rfl, _, rfl, _, _, rfl, rfl, r0, _, rfl, _, rfl, _, _, rfl, rfl, r1, (by decide : 2 ≤ 1000), q⟩
    rw [rngD_len, ← hpp]
    refine ⟨_, rfl, Nat.zero_le _, _, rfl, _, rfl, fun j env t' => t' = t ∧ ∃ s5 s6 s7 s8 s9 s10, env = [.fz (nD h), .fz (nD r), .no, .fz (.lst pp), .ow (.lst ((List.range j).map fun a => rowD (2 * r) (crM h a))), s5, s6, s7, s8, s9, s10], ⟨rfl, .no, .no, .no, .no, .no, .no, rfl⟩, fun j x env t' hx hP => ?_, fun env t' hP => ?_⟩
    · obtain ⟨rfl, s5, s6, s7, s8, s9, s10, rfl⟩ := hP
      obtain ⟨rfl, hj⟩ := hp j x hx
      have hc : j / r = 0 ∨ j / r = 1 := by
        have : j / r < 2 := Nat.div_lt_of_lt_mul (by omega)
        generalize j / r = c at this ⊢
        omega
      refine ⟨_, rfl, rfl, _, _, rfl, _, _, rfl, rfl, Nat.zero_le _, _, rfl, _, rfl, fun i env t2 => t2 = t' ∧ ∃ s8 s9 s10, env = [.fz (nD h), .fz (nD r), .no, .fz (.lst pp), .ow (.lst ((List.range j).map fun a => rowD (2 * r) (crM h a))), .fz (nD (j % r)), .fz (nD (j / r)), .ow (.lst (nsD ((List.range i).map (crM h j)))), s8, s9, s10], ⟨rfl, s8, s9, s10, rfl⟩, fun i x env t2 hx hP => ?_, fun env t2 hP => ?_⟩
      · obtain ⟨rfl, s8, s9, s10, rfl⟩ := hP
        obtain ⟨rfl, hi⟩ := hp i x hx
        obtain ⟨d, hd⟩ : ∃ d : Int, d = if j / r = 0 then ((i % r : Nat) : Int) else 0 - ((i % r : Nat) : Int) := ⟨_, rfl⟩
        have hat : atI [nD (i % r), .int (0 - ((i % r : Nat) : Int))] ((j / r : Nat) : Int) = some (.int d) := by
          rcases hc with hc | hc
          · rw [hc, if_pos rfl] at hd
            rw [hc, hd]; rfl
          · rw [hc, if_neg (by decide)] at hd
            rw [hc, hd]; rfl
        refine ⟨_, rfl, rfl, _, _, rfl, _, _, rfl, rfl, _, rfl, _, rfl, _, rfl, _, _, rfl, rfl, (by decide : 2 ≤ 1000), _, rfl, _, rfl, _, _, .int d, rfl, rfl, hat, _, _, rfl, rfl, _, rfl, _, rfl, _, _, rfl, rfl, .inl ⟨by omega, by omega⟩, _, rfl, _, _, rfl, rfl, ?_, _, _, rfl, rfl, ?_⟩
        · refine .inl ?_
          rcases hc with hc | hc
          · rw [hc]; constructor <;> simp
          · rw [hc]; constructor <;> omega
        · refine ⟨⟨_, rfl⟩, _, rfl, _, rfl, _, _, rfl, rfl, r0, _, rfl, _, rfl, _, rfl, _, _, rfl, rfl, _, _, rfl, rfl, p02, _, _, rfl, rfl, .inl ⟨by omega, by omega⟩, _, _, rfl, rfl, _, rfl, _, rfl, by rw [nsD_len, List.length_map, List.length_range]; omega, rfl, .fz (nD (i % r)), .fz (nD (i / r)), .fz (.int (((j % r : Nat) : Int) + d + (h : Int) * ((j / r : Nat) : Int) * ((i / r : Nat) : Int))), ?_⟩
          rw [List.range_succ, List.map_append, List.map_cons, List.map_nil, ← nsD_app]
          unfold nD
          rw [← cr_eq er h0 hc hd]
          rfl
      · obtain ⟨rfl, s8, s9, s10, rfl⟩ := hP
        rw [hpl]
        refine ⟨⟨_, rfl⟩, _, rfl, _, rfl, _, rfl, by rw [List.length_map, List.length_range]; omega, rfl, .fz (nD (j % r)), .fz (nD (j / r)), .fz (.lst (nsD ((List.range (2 * r)).map (crM h j)))), s8, s9, s10, ?_⟩
        rw [List.range_succ, List.map_append]
        rfl
    · obtain ⟨rfl, s5, s6, s7, s8, s9, s10, rfl⟩ := hP
      rw [hpl] 
      refine ⟨_, rfl, ?_⟩
      rw [er]
      exact q
end
end K15
namespace K15
open PySem PySem.Spec PyProof.Rows L2 HM VL
section
variable {P : Program} {w : World} {K : PySem.W.Frag} {mg : Str → Option Value} {base : Heap} {am : Am} {gd : Around → Prop} {k : Nat}
theorem ok_pairs {p : Addr} {f f_l_take : Addr} {fd fd_l_take : FuncData} (F : Fun K "_law_of_pairs" "_law_of_pairs" s_l_of_pairs f fd) (G_l_take : VFn anyA P w K mg base CX0 (k + 1) f_l_take fd_l_take ["_law_pen_here", "_law_many"] am (spTake p)) (g_l_take : mg "_law_take" = some (.ref f_l_take)) (k_l_take : PySem.W.keepIn K (.ref f_l_take) = true) (b_l_take : Binds K fd_l_take ["_law_pen_here", "_law_many"] [])
    (mz : ∀ x ∈ bn, mg x = none) : VFn gd P w K mg base CX0 (k + 2) f fd ["_law_pen_here", "_law_most"] am (spPairs p) := by
  refine vfn_of F sc_l_of_pairs (fun ds n Q E h => ?_) ⟨_, fun cdv A out s H E F0 H0 hcd hgd hr =>
    (vss_cons (vs_set (i := 2) sc_l_of_pairs.nd rfl (.inl rfl) (ve_op op_add lft_I0 ve_int (ve_call G_l_take trivial (hr.mono (by omega)) (by rfl) g_l_take k_l_take b_l_take pass0 (va_cons (ve_var (pv 0)) (va_cons ve_int va_nil)))))
      (vss_cons (vs_set (i := 3) sc_l_of_pairs.nd rfl (.inr rfl) (ve_op op_add lft_I0 ve_int (ve_call G_l_take trivial (hr.mono (by omega)) (by rfl) g_l_take k_l_take b_l_take pass0 (va_cons (ve_var (pv 0)) (va_cons (ve_op op_fdiv lft_I (ve_var (pv 1)) (ve_var (pv 2))) va_nil)))))
      (vss_cons (vs_set (i := 4) sc_l_of_pairs.nd rfl (.inl rfl) (ve_op op_add lft_I0 ve_int (ve_call G_l_take trivial (hr.mono (by omega)) (by rfl) g_l_take k_l_take b_l_take pass0 (va_cons (ve_var (pv 0)) (va_cons (ve_var (pv 2)) va_nil)))))
      (vss_cons (vs_setN (i := 5) sc_l_of_pairs.nd rfl (.inl rfl) (vn_lst (va_cons ve_int va_nil)))
      (vss_cons (vs_for PassesOwn.never rfl (vi_range1 (by rfl) (mz "range" (by decide)) (vb_cons (ve_var (pv 3)) vb_nil)) (vg_name (pg_name (i := 6) sc_l_of_pairs.nd rfl (.inl rfl)))
        (vss_one (vs_expr (ve_m (pe_bm PySem.F.plainAttrs_list PySem.F.slot_list_append PySem.F.type_list_append mt_append (pv 5) (va_cons (ve_op op_mod lft_I (ve_op op_mul lft_I (ve_ixO (pv 5) (ve_neg ve_int) (fun _ _ => rfl)) (ve_var (pv 4))) (ve_var (pv 2))) va_nil)) lft_append))))
      (vss_cons (vs_if (vt_cmp op_ne lft_ne (ve_ixO (pv 5) (ve_var (pv 3)) (fun _ _ => rfl)) (ve_op op_mod lft_I ve_int (ve_var (pv 2))) (nomark _))
        (vss_one (vs_setN (i := 5) sc_l_of_pairs.nd rfl (.inl rfl) (vn_op op_rep lft_rep (ve_lstK (ka_cons ve_int ka_nil) (by decide)) (ve_op op_add lft_I0 (ve_var (pv 3)) ve_int))))
        vss_nil)
      (vss_cons (vs_setLcF (i := 7) (own := [("_law_k", 6)]) rfl sc_l_of_pairs.nd rfl rfl (sw_true rfl rfl rfl (by decide +kernel)) (vi_range1 (by rfl) (mz "range" (by decide)) (vb_cons (ve_op op_mul lft_I (ve_var (pv 2)) (ve_var (pv 3))) vb_nil)) (blkOk_by (own := [("_law_k", 6)]) (N := ["_law_pen_here", "_law_most", "_law_many", "_law_other", "_law_by", "_law_powers", "_law_k", "_law_pairs", "_law_found", "_law_i", "_law_j", "_law_row", "_law_u", "_law_v", "_law_first"]) (sc := defScope s_l_of_pairs) (by decide +kernel)) (tg_name (by simp)) (fun _ _ _ _ _ => (pg_name (i := 6) sc_l_of_pairs.nd rfl (.inl rfl))) (fun _ _ _ _ _ _ _ => vts_nil) (fun _ _ _ _ _ _ _ => (ve_tup (va_cons (ve_op op_fdiv lft_I (ve_var (pv 6)) (ve_var (pv 3))) (va_cons (ve_op op_mod lft_I (ve_var (pv 6)) (ve_var (pv 3))) va_nil)))))
      (vss_cons (vs_setN (i := 8) sc_l_of_pairs.nd rfl (.inl rfl) (vn_lst va_nil))
      (vss_cons (vs_for PassesOwn.never rfl (vi_list (ve_var (pv 7))) (vg_tup (m := 2) rfl (vgs_cons (vg_name (pg_name (i := 9) sc_l_of_pairs.nd rfl (.inl rfl))) (vgs_cons (vg_name (pg_name (i := 10) sc_l_of_pairs.nd rfl (.inl rfl))) vgs_nil)))
        (vss_cons (vs_setN (i := 11) sc_l_of_pairs.nd rfl (.inl rfl) (vn_lst va_nil))
        (vss_cons (vs_for PassesOwn.never rfl (vi_list (ve_var (pv 7))) (vg_tup (m := 2) rfl (vgs_cons (vg_name (pg_name (i := 12) sc_l_of_pairs.nd rfl (.inl rfl))) (vgs_cons (vg_name (pg_name (i := 13) sc_l_of_pairs.nd rfl (.inl rfl))) vgs_nil)))
          (vss_cons (vs_set (i := 14) sc_l_of_pairs.nd rfl (.inl rfl) (ve_op op_mod lft_I (ve_op op_add lft_I0 (ve_var (pv 9)) (ve_op op_mul lft_I (ve_ixO (pv 5) (ve_var (pv 10)) (fun _ _ => rfl)) (ve_var (pv 12)))) (ve_var (pv 2))))
          (vss_one (vs_expr (ve_m (pe_bm PySem.F.plainAttrs_list PySem.F.slot_list_append PySem.F.type_list_append mt_append (pv 11) (va_cons (ve_op op_add lft_I0 (ve_op op_mul lft_I (ve_var (pv 14)) (ve_var (pv 3))) (ve_op op_mod lft_I (ve_op op_add lft_I0 (ve_var (pv 10)) (ve_var (pv 13))) (ve_var (pv 3)))) va_nil)) lft_append)))))
        (vss_one (vs_expr (ve_m (pe_bm PySem.F.plainAttrs_list PySem.F.slot_list_append PySem.F.type_list_append mt_append (pv 8) (va_cons (ve_mv (pv 11)) va_nil)) lft_append))))))
      (vss_one (vs_ret (ve_mv (pv 8))))))))))))), fun ds t Q E h => ?_⟩
  · obtain ⟨n, rfl, _⟩ := h
    rfl
  · obtain ⟨c, rfl, hc, hc2, q⟩ := h
    refine vseq_set ⟨_, rfl, 12, rfl, by decide, by decide, fun r1 h1 => ⟨_, _, rfl, rfl, ?_⟩⟩
    change vSeq _ _ _ [.fz (.obj p), .fz (nD c), .fz (nD (1 + r1)), .no, .no, .no, .no, .no, .no, .no, .no, .no, .no, .no, .no] t
    obtain ⟨s, hs⟩ : ∃ s, s = 1 + r1 := ⟨_, rfl⟩
    rw [← hs]
    have hcs : 0 < c / s := Nat.div_pos (by omega) (by omega)
    refine vseq_set ⟨_, rfl, _, rfl, _, rfl, _, _, rfl, rfl, ⟨by omega, by omega⟩, c / s, rfl, hcs, Nat.le_trans (Nat.div_le_self c s) (by omega), fun r2 h2 => ⟨_, _, rfl, rfl, ?_⟩⟩
    change vSeq _ _ _ [.fz (.obj p), .fz (nD c), .fz (nD s), .fz (nD (1 + r2)), .no, .no, .no, .no, .no, .no, .no, .no, .no, .no, .no] t
    obtain ⟨o, ho⟩ : ∃ o, o = 1 + r2 := ⟨_, rfl⟩
    rw [← ho]
    have hso : s * o ≤ c := by
      have := Nat.mul_le_mul_left s (show o ≤ c / s by omega)
      have h3 := Nat.mul_div_le c s
      omega
    have ho24 : o ≤ 24 := by
      have := Nat.div_le_self c s
      omega
    refine vseq_set ⟨_, rfl, _, rfl, s, rfl, by omega, by omega, fun r3 h3 => ⟨_, _, rfl, rfl, ?_⟩⟩
    change vSeq _ _ _ [.fz (.obj p), .fz (nD c), .fz (nD s), .fz (nD o), .fz (nD (1 + r3)), .no, .no, .no, .no, .no, .no, .no, .no, .no, .no] t
    obtain ⟨b, hb⟩ : ∃ b, b = 1 + r3 := ⟨_, rfl⟩
    rw [← hb]
    have s0 : (0 : Int) < (s : Int) := by omega
    have o0 : (0 : Int) < (o : Int) := by omega
    refine vseq_setN ⟨(by decide : 1 ≤ 1000), ?_⟩
    change vSeq _ _ _ [.fz (.obj p), .fz (nD c), .fz (nD s), .fz (nD o), .fz (nD b), .ow (.lst [.int 1]), .no, .no, .no, .no, .no, .no, .no, .no, .no] t
    refine vcut (fun env t' => t' = t ∧ ∃ s6, (∀ k, s6 ≠ .ow k) ∧ env = [.fz (.obj p), .fz (nD c), .fz (nD s), .fz (nD o), .fz (nD b), .ow (.lst (nsD ((List.range (o + 1)).map (pwB s b)))), s6, .no, .no, .no, .no, .no, .no, .no, .no]) (fun N hN => ?_) (fun env t' hP => ?_)
    · refine ⟨_, rfl, _, rfl, ⟨by omega, by omega⟩, fun j env t' => t' = t ∧ ∃ s6, (∀ k, s6 ≠ .ow k) ∧ env = [.fz (.obj p), .fz (nD c), .fz (nD s), .fz (nD o), .fz (nD b), .ow (.lst (nsD ((List.range (j + 1)).map (pwB s b)))), s6, .no, .no, .no, .no, .no, .no, .no, .no], ⟨rfl, .no, no_ow, rfl⟩, fun j x env t' hx hP => ?_, fun env t' hP => ?_⟩
      · obtain ⟨rfl, s6, h6, rfl⟩ := hP
        obtain ⟨rfl, hj⟩ := rngD_get0 hx
        have hj : j < o := hj
        refine ⟨⟨_, rfl⟩, ⟨_, .inr ⟨_, rfl, rfl⟩⟩, _, rfl, _, _, nD (pwB s b j), .inr ⟨_, rfl, rfl⟩, rfl, ?_, _, rfl, _, _, rfl, rfl, .inl ⟨by omega, ?_⟩, _, rfl, _, _, rfl, rfl, s0, _, rfl, _, rfl, by rw [nsD_len, List.length_map, List.length_range]; omega, rfl, .fz (nD j), fz_ow _, ?_⟩
        · rw [List.range_succ, List.map_append, List.map_cons, List.map_nil, ← nsD_app]
          exact atI_last
        · have := pwB_le b (by omega) (by omega) j (s := s)
          omega
        · rw [List.range_succ (n := j + 1), List.map_append, List.map_cons, List.map_nil, ← nsD_app]
          rfl
      · obtain ⟨rfl, s6, h6, rfl⟩ := hP
        rw [rngD_len]
        exact hN _ _ ⟨rfl, s6, h6, rfl⟩
    obtain ⟨rfl, s6, h6, rfl⟩ := hP
    refine vcut (fun env t2 => t2 = t' ∧ ∃ pw s6, Pws s o pw ∧ (∀ k, s6 ≠ .ow k) ∧ env = [.fz (.obj p), .fz (nD c), .fz (nD s), .fz (nD o), .fz (nD b), .ow (.lst (nsD ((List.range (o + 1)).map pw))), s6, .no, .no, .no, .no, .no, .no, .no, .no]) (fun N hN => ?_) (fun env t2 hP => ?_)
    · refine ⟨⟨_, .inr ⟨_, rfl, rfl⟩⟩, _, rfl, _, _, nD (pwB s b o), .inr ⟨_, rfl, rfl⟩, rfl, row_at (by omega), _, rfl, _, _, rfl, rfl, s0, .inl ⟨_, _, rfl, rfl, _, rfl, iteB (fun e => ?_) (fun e => ?_)⟩⟩
      · refine ⟨_, rfl, _, _, rfl, rfl, _, o + 1, rfl, rfl, by omega, by show 1 * (o + 1) ≤ 1000; omega, ?_⟩
        rw [one_rep]
        exact hN _ _ ⟨rfl, fun _ => 1, s6, pws_1, h6, rfl⟩
      · have e2 : ((pwB s b o : Nat) : Int) = 1 % (s : Int) := by
          have e3 : (!decide (((pwB s b o : Nat) : Int) = 1 % (s : Int))) = false := e
          rw [Bool.not_eq_false', decide_eq_true_iff] at e3
          exact e3
        refine hN _ _ ⟨rfl, pwB s b, s6, pws_b (by omega) (by omega) ?_, h6, rfl⟩
        have e4 : pwB s b o = 1 % s := by
          have e5 : ((1 % s : Nat) : Int) = 1 % (s : Int) := rfl
          omega
        rw [e4, Nat.mod_mod]
    obtain ⟨rfl, pw, s6, hpw, h6, rfl⟩ := hP
    have hq := q s o pw (by omega) (by omega) (by omega) hso hpw
    clear q
    obtain ⟨z, hz⟩ : ∃ z, z = s * o := ⟨_, rfl⟩
    rw [← hz] at hq
    obtain ⟨pp, hpp⟩ : ∃ pp : List Dt, pp = (List.range z).map fun k => .tup [nD (k / o), nD (k % o)] := ⟨_, rfl⟩
    have hp : ∀ (j : Nat) x, pp[j]? = some x → x = .tup [nD (j / o), nD (j % o)] ∧ j < z := fun j x h => by
      rw [hpp] at h
      have hj := (List.getElem?_eq_some_iff.mp h).1
      rw [List.length_map, List.length_range] at hj
      rw [List.getElem?_map, List.getElem?_range hj] at h
      exact ⟨(Option.some.inj h).symm, hj⟩
    have hpl : pp.length = z := by rw [hpp, List.length_map, List.length_range]
    refine ⟨_, rfl, _, rfl, _, _, rfl, rfl, .inl ⟨by omega, by omega⟩, _, rfl, by omega, ?_⟩
    change LcBody (vgName 6) vYes _ _ (rngD 0 ((s : Int) * (o : Int)).toNat) [.fz (.obj p), .fz (nD c), .fz (nD s), .fz (nD o), .fz (nD b), .ow (.lst (nsD ((List.range (o + 1)).map pw))), s6, .no, .no, .no, .no, .no, .no, .no, .no] t2 _
    rw [show ((s : Int) * (o : Int)).toNat = z by rw [hz, ← Int.natCast_mul]; rfl]
    refine lc_map (i := 6) (fun k => .tup [nD (k / o), nD (k % o)]) (.head _) (noOw1 rfl h6) (by rw [rngD_len]; omega) (fun k x hx R q => ?_) ?_
    · obtain ⟨rfl, hk⟩ := rngD_get0 hx
      exact ⟨_, rfl, _, rfl, _, _, rfl, rfl, ⟨o0, by omega⟩, _, rfl, _, rfl, _, _, rfl, rfl, o0, (by decide : 2 ≤ 1000), q⟩
    rw [rngD_len, ← hpp]
    refine ⟨_, rfl, Nat.zero_le _, _, rfl, _, rfl, fun j env t' => t' = t2 ∧ ∃ s9 s10 s11 s12 s13 s14, env = [.fz (.obj p), .fz (nD c), .fz (nD s), .fz (nD o), .fz (nD b), .ow (.lst (nsD ((List.range (o + 1)).map pw))), s6, .fz (.lst pp), .ow (.lst ((List.range j).map fun a => rowD z (prM s o pw a))), s9, s10, s11, s12, s13, s14], ⟨rfl, .no, .no, .no, .no, .no, .no, rfl⟩, fun j x env t' hx hP => ?_, fun env t' hP => ?_⟩
    · obtain ⟨rfl, s9, s10, s11, s12, s13, s14, rfl⟩ := hP
      obtain ⟨rfl, hj⟩ := hp j x hx
      have hjo : j % o < o := Nat.mod_lt _ (by omega)
      refine ⟨_, rfl, rfl, _, _, rfl, _, _, rfl, rfl, Nat.zero_le _, _, rfl, _, rfl, fun i env t2 => t2 = t' ∧ ∃ s12 s13 s14, env = [.fz (.obj p), .fz (nD c), .fz (nD s), .fz (nD o), .fz (nD b), .ow (.lst (nsD ((List.range (o + 1)).map pw))), s6, .fz (.lst pp), .ow (.lst ((List.range j).map fun a => rowD z (prM s o pw a))), .fz (nD (j / o)), .fz (nD (j % o)), .ow (.lst (nsD ((List.range i).map (prM s o pw j)))), s12, s13, s14], ⟨rfl, s12, s13, s14, rfl⟩, fun i x env t2 hx hP => ?_, fun env t2 hP => ?_⟩
      · obtain ⟨rfl, s12, s13, s14, rfl⟩ := hP
        obtain ⟨rfl, hi⟩ := hp i x hx
        refine ⟨_, rfl, rfl, _, _, rfl, _, _, rfl, rfl, _, rfl, ⟨_, .inr ⟨_, rfl, rfl⟩⟩, _, rfl, _, _, nD (pw (j % o)), .inr ⟨_, rfl, rfl⟩, rfl, row_at (by omega), _, rfl, _, _, rfl, rfl, .inl ⟨by omega, ?_⟩, _, _, rfl, rfl, _, rfl, _, _, rfl, rfl, s0, ?_⟩
        · have := hpw.bd (j % o)
          omega
        · refine ⟨⟨_, rfl⟩, _, rfl, _, rfl, _, _, rfl, rfl, .inr ⟨by omega, by omega⟩, _, rfl, _, rfl, _, _, rfl, rfl, _, rfl, _, _, rfl, rfl, o0, _, _, rfl, rfl, _, rfl, _, rfl, by rw [nsD_len, List.length_map, List.length_range]; omega, rfl, .fz (nD (i / o)), .fz (nD (i % o)), .fz (nD ((j / o + pw (j % o) * (i / o)) % s)), ?_⟩
          rw [List.range_succ (n := i), List.map_append, List.map_cons, List.map_nil, ← nsD_app]
          rfl
      · obtain ⟨rfl, s12, s13, s14, rfl⟩ := hP
        rw [hpl]
        refine ⟨⟨_, rfl⟩, _, rfl, _, rfl, _, rfl, by rw [List.length_map, List.length_range]; omega, rfl, .fz (nD (j / o)), .fz (nD (j % o)), .fz (.lst (nsD ((List.range z).map (prM s o pw j)))), s12, s13, s14, ?_⟩
        rw [List.range_succ (n := j), List.map_append]
        rfl
    · obtain ⟨rfl, s9, s10, s11, s12, s13, s14, rfl⟩ := hP
      rw [hpl]
      exact ⟨_, rfl, hq⟩
end
end K15
namespace K15
end K15
namespace K15
open PySem PySem.Spec PyProof.Rows L2 HM VL
abbrev s_l_turn : Stmt := topS 7
theorem sc_l_turn : FnScope ["_law_pen_here", "_law_many", "_law_left", "_law_found", "_law_k"] ["_law_pen_here", "_law_many"] (defScope s_l_turn) := ⟨rfl, rfl, rfl, by decide +kernel, rfl, by decide +kernel, by decide +kernel⟩
abbrev s_l_named : Stmt := topS 8
theorem sc_l_named : FnScope ["_law_turn_here", "_law_names", "_law_found", "_law_k"] ["_law_turn_here", "_law_names"] (defScope s_l_named) := ⟨rfl, rfl, rfl, by decide +kernel, rfl, by decide +kernel, by decide +kernel⟩
abbrev s_l_known : Stmt := topS 6
theorem sc_l_known : FnScope ["_law_way", "_law_wheel", "_law_some", "_law_bent"] ["_law_way"] (defScope s_l_known) := ⟨rfl, rfl, rfl, by decide +kernel, rfl, by decide +kernel, by decide +kernel⟩
abbrev s_l_group : Stmt := topS 9
theorem sc_l_group : FnScope ["_law_many", "_law_turns", "_law_stay", "_law_found", "_law_waiting", "_law_one", "_law_turn_here", "_law_k", "_law_more"] ["_law_many", "_law_turns"] (defScope s_l_group) := ⟨rfl, rfl, rfl, by decide +kernel, rfl, by decide +kernel, by decide +kernel⟩
abbrev s_l_table : Stmt := topS 10
theorem sc_l_table : FnScope ["_law_turns", "_law_numbers", "_law_turn_here", "_law_found", "_law_one", "_law_other", "_law_k"] ["_law_turns"] (defScope s_l_table) := ⟨rfl, rfl, rfl, by decide +kernel, rfl, by decide +kernel, by decide +kernel⟩
abbrev s_l_of_turns : Stmt := topS 11
theorem sc_l_of_turns : FnScope ["_law_pen_here", "_law_way", "_law_many", "_law_turns", "_law_known_here", "_law_names", "_law_turn_here", "_law_k", "_law_group_here"] ["_law_pen_here", "_law_way"] (defScope s_l_of_turns) := ⟨rfl, rfl, rfl, by decide +kernel, rfl, by decide +kernel, by decide +kernel⟩
abbrev s_l_renumbered : Stmt := topS 15
theorem sc_l_renumbered : FnScope ["_law_pen_here", "_law_house_here", "_law_left", "_law_order", "_law_k", "_law_row", "_law_found", "_law_a", "_law_b"] ["_law_pen_here", "_law_house_here"] (defScope s_l_renumbered) := ⟨rfl, rfl, rfl, by decide +kernel, rfl, by decide +kernel, by decide +kernel⟩
abbrev s_l_house : Stmt := topS 16
theorem sc_l_house : FnScope ["_law_pen_here", "_law_way", "_law_house_here", "_law_k"] ["_law_pen_here"] (defScope s_l_house) := ⟨rfl, rfl, rfl, by decide +kernel, rfl, by decide +kernel, by decide +kernel⟩
section
variable {P : Program} {w : World} {K : PySem.W.Frag} {mg : Str → Option Value} {base : Heap} {am : Am} {gd : Around → Prop} {k : Nat}
theorem ok_turn {p : Addr} {f f_l_take : Addr} {fd fd_l_take : FuncData} (F : Fun K "_law_turn" "_law_turn" s_l_turn f fd) (G_l_take : VFn anyA P w K mg base CX0 (k + 1) f_l_take fd_l_take ["_law_pen_here", "_law_many"] am (spTake p)) (g_l_take : mg "_law_take" = some (.ref f_l_take)) (k_l_take : PySem.W.keepIn K (.ref f_l_take) = true) (b_l_take : Binds K fd_l_take ["_law_pen_here", "_law_many"] [])
    (mz : ∀ x ∈ bn, mg x = none) : VFn gd P w K mg base CX0 (k + 2) f fd ["_law_pen_here", "_law_many"] am (spTurn p) := by
  refine vfn_of F sc_l_turn (fun ds n Q E h => ?_) ⟨_, fun cdv A out s H E F0 H0 hcd hgd hr =>
    (vss_cons (vs_setN (i := 2) sc_l_turn.nd rfl (.inl rfl) (vn_listRg rfl (by rfl) (mz "list" (by decide)) (vrg_1 (by rfl) (mz "range" (by decide)) (ve_var (pv 1)))))
      (vss_cons (vs_setN (i := 3) sc_l_turn.nd rfl (.inl rfl) (vn_lst va_nil))
      (vss_cons (vs_for PassesOwn.never rfl (vi_range1 (by rfl) (mz "range" (by decide)) (vb_cons (ve_var (pv 1)) vb_nil)) (vg_name (pg_name (i := 4) sc_l_turn.nd rfl (.inl rfl)))
        (vss_one (vs_expr (ve_m (pe_bm PySem.F.plainAttrs_list PySem.F.slot_list_append PySem.F.type_list_append mt_append (pv 3) (va_cons (ve_m (pe_bm PySem.F.plainAttrs_list PySem.F.slot_list_pop PySem.F.type_list_pop mt_popAt (pv 2) (va_cons (ve_call G_l_take trivial (hr.mono (by omega)) (by rfl) g_l_take k_l_take b_l_take pass0 (va_cons (ve_var (pv 0)) (va_cons (ve_cbR call_len_seq lft_len (by rfl) (mz "len" (by decide)) PySem.boot_len (vb_rd (pv 2) vb_nil)) va_nil))) va_nil)) lft_popAt) va_nil)) lft_append))))
      (vss_one (vs_ret (ve_tyTR call_tuple_of lft_tupleOf (by rfl) (mz "tuple" (by decide)) (by decide +kernel) (vb_rd (pv 3) vb_nil))))))), fun ds t Q E h => ?_⟩
  · obtain ⟨n, rfl, _⟩ := h
    rfl
  · obtain ⟨m, rfl, hm, q⟩ := h
    have hrg : rngD 0 m = nsD (List.range m) := by
      unfold rngD nsD
      refine List.map_congr_left fun i _ => ?_
      rw [Int.zero_add]
      rfl
    refine ⟨_, rfl, _, rfl, ⟨by omega, by omega, by omega, by omega⟩, Nat.zero_le _, _, rfl, _, rfl, ⟨by omega, by omega⟩, fun j env t' => t' = t ∧ ∃ fs ls s4, env = [.fz (.obj p), .fz (nD m), .ow (.lst (nsD ls)), .ow (.lst (nsD fs)), s4] ∧ (fs ++ ls).Perm (List.range m) ∧ fs.length = j, ?_, fun j x env t' hx hP => ?_, fun env t' hP => ?_⟩
    · refine ⟨rfl, [], List.range m, .no, ?_, List.Perm.refl _, rfl⟩
      rw [← hrg, show ((m : Int) - 0).toNat = m by omega]
      rfl
    · obtain ⟨rfl, fs, ls, s4, rfl, hpm, hfl⟩ := hP
      obtain ⟨rfl, hj⟩ := rngD_get0 hx
      have hj : j < m := hj
      have hll := hpm.length_eq
      rw [List.length_append, List.length_range] at hll
      refine ⟨⟨_, rfl⟩, ⟨_, rfl⟩, _, rfl, ⟨_, .inr ⟨_, rfl, rfl⟩⟩, _, .inr ⟨_, rfl, rfl⟩, _, .inl rfl, rfl, ls.length, by rw [nsD_len]; rfl, by omega, by omega, fun r hr => ?_⟩
      have hg : ls[r]? = some (tA ls r) := tA_get hr
      refine ⟨_, rfl, r, nD (tA ls r), rfl, by rw [nsD_len]; omega, by unfold nsD; rw [List.getElem?_map, hg]; rfl, _, rfl, _, rfl, by rw [nsD_len]; omega, rfl, fs ++ [tA ls r], ls.eraseIdx r, .fz (nD j), ?_, perm_popN hpm hg, by rw [List.length_append, hfl]; rfl⟩
      rw [← nsD_app, show (nsD ls).eraseIdx r = nsD (ls.eraseIdx r) by unfold nsD; rw [List.eraseIdx_eq_take_drop_succ, List.eraseIdx_eq_take_drop_succ, List.map_append, List.map_take, List.map_drop]]
      rfl
    · obtain ⟨rfl, fs, ls, s4, rfl, hpm, hfl⟩ := hP
      have hll := hpm.length_eq
      rw [List.length_append, List.length_range, hfl, rngD_len] at hll
      have : ls = [] := List.length_eq_zero_iff.mp (by have : ls.length + (m : Int).toNat = m := by omega
                                                       omega)
      rw [this, List.append_nil] at hpm
      exact ⟨⟨_, .inr ⟨_, rfl, rfl⟩⟩, _, .inr ⟨_, rfl, rfl⟩, _, rfl, flats_ns fs, q fs hpm⟩
theorem ok_named {f : Addr} {fd : FuncData} (F : Fun K "_law_named" "_law_named" s_l_named f fd) (mz : ∀ x ∈ bn, mg x = none) : VFn gd P w K mg base CX0 (k + 1) f fd ["_law_turn_here", "_law_names"] am spNamed := by
  refine vfn_of F sc_l_named (fun ds n Q E h => ?_) ⟨_, fun cdv A out s H E F0 H0 hcd hgd hr =>
    (vss_cons (vs_setN (i := 2) sc_l_named.nd rfl (.inl rfl) (vn_tyR call_list_of lft_listOf (by rfl) (mz "list" (by decide)) (by decide +kernel) (vb_rd (pv 0) vb_nil)))
      (vss_cons (vs_for PassesOwn.never rfl (vi_range1 (by rfl) (mz "range" (by decide)) (vb_cons (ve_cbR call_len_seq lft_len (by rfl) (mz "len" (by decide)) PySem.boot_len (vb_rd (pv 0) vb_nil)) vb_nil)) (vg_name (pg_name (i := 3) sc_l_named.nd rfl (.inl rfl)))
        (vss_one (vs_setIx (pv 2) (ve_ix ix_tup lft_ixT (ve_var (pv 1)) (ve_var (pv 3)) (fun _ _ => rfl)) (ve_ix ix_tup lft_ixT (ve_var (pv 1)) (ve_ix ix_tup lft_ixT (ve_var (pv 0)) (ve_var (pv 3)) (fun _ _ => rfl)) (fun _ _ => rfl)))))
      (vss_one (vs_ret (ve_tyTR call_tuple_of lft_tupleOf (by rfl) (mz "tuple" (by decide)) (by decide +kernel) (vb_rd (pv 2) vb_nil)))))), fun ds t Q E h => ?_⟩
  · obtain ⟨n, l, ns, rfl, _⟩ := h
    rfl
  · obtain ⟨m, l, ns, rfl, hm, hl, hn, q⟩ := h
    refine ⟨⟨_, .inl rfl⟩, _, .inl rfl, _, .inr rfl, flats_ns l, ⟨_, .inl rfl⟩, _, .inl rfl, _, .inr rfl, rfl, _, rfl, by rw [nsD_len, hl.len]; omega, fun j env t' => t' = t ∧ ∃ r s3, env = [.fz (.tup (nsD l)), .fz (.tup (nsD ns)), .ow (.lst (nsD r)), s3] ∧ r.length = m ∧ ∀ k, k < j → r[tA ns k]? = some (tA ns (tA l k)), ⟨rfl, l, .no, rfl, hl.len, fun k hk => absurd hk (Nat.not_lt_zero k)⟩, fun j x env t' hx hP => ?_, fun env t' hP => ?_⟩
    · obtain ⟨rfl, r, s3, rfl, hrl, hk⟩ := hP
      obtain ⟨rfl, hj⟩ := rngD_get0 hx
      have hj : j < m := by
        have : j < ((nsD l).length : Int).toNat := hj
        rw [nsD_len, hl.len] at this
        omega
      have h1 := hl.at_lt hj
      have h2 := hn.at_lt hj
      refine ⟨_, rfl, _, rfl, _, rfl, _, _, _, rfl, rfl, nsD_tA (by rw [hl.len]; exact hj), _, _, _, rfl, rfl, nsD_tA (by rw [hn.len]; exact h1), ⟨_, rfl⟩, _, rfl, _, rfl, _, _, _, rfl, rfl, nsD_tA (by rw [hn.len]; exact hj), _, _, rfl, rfl, by rw [nsD_len]; omega, rfl, r.set (tA ns j) (tA ns (tA l j)), .fz (nD j), ?_, by rw [List.length_set]; exact hrl, fun k hk2 => ?_⟩
      · unfold nsD
        rw [List.map_set]
        rfl
      · by_cases z : k = j
        · rw [z, List.getElem?_set_self (by omega)]
        · rw [List.getElem?_set_ne fun e => z (hn.inj (by omega) hj e.symm)]
          exact hk k (by omega)
    · obtain ⟨rfl, r, s3, rfl, hrl, hk⟩ := hP
      rw [rngD_len, nsD_len, hl.len] at hk
      exact ⟨⟨_, .inr ⟨_, rfl, rfl⟩⟩, _, .inr ⟨_, rfl, rfl⟩, _, rfl, flats_ns r, q r (tn_put hn hl hrl fun k h => hk k (by omega))⟩
end
end K15
namespace K15
open PySem PySem.Spec PyProof.Rows L2 HM VL
def kE (e : Nat × List (List Nat)) : Dt := .tup [nD e.1, .lst (tnsD e.2)]
def kB (e : Nat × List (List Nat)) : Bool := decide (2 ≤ e.1) && decide (e.1 ≤ 7) && decide (e.2.length ≤ 4) && e.2.all (tnB e.1)
def Good (x : Dt) : Prop := ∃ (m : Nat) (ls : List (List Nat)), x = .tup [nD m, .lst (tnsD ls)] ∧ 2 ≤ m ∧ m ≤ 7 ∧ ls.length ≤ 4 ∧ ∀ l ∈ ls, Tn m l
theorem good_B {e : Nat × List (List Nat)} (h : kB e = true) : Good (kE e) := by
  unfold kB at h
  simp only [Bool.and_eq_true, decide_eq_true_iff, List.all_eq_true] at h
  exact ⟨e.1, e.2, rfl, h.1.1.1, h.1.1.2, h.1.2, fun l hl => tn_B (h.2 l hl)⟩
theorem good_all {T : List (Nat × List (List Nat))} (h : T.all kB = true) : ∀ x ∈ T.map kE, Good x := fun x hx => by
  obtain ⟨e, he, rfl⟩ := List.mem_map.mp hx
  exact good_B (List.all_eq_true.mp h e he)
section
variable {a b d s2 : Sl} {B : VTS} {V : VEn} {L : List Dt} {t : Nat}
theorem kn_new {ta : VTA} (T : List (Nat × List (List Nat))) (hl : T.length ≤ 1000) (hta : ∀ Q : List Dt → Ev → Nat → Prop, Q (T.map kE) [a, b, s2, d] t → ta [a, b, s2, d] t Q) (hT : T.all kB = true)
    (nx : ∀ L : List Dt, L.length = T.length → (∀ x ∈ L, Good x) → B V [a, b, .ow (.lst L), d] t) : vSeq (vSetN 2 (vLst ta)) B V [a, b, s2, d] t :=
  hta _ ⟨by rw [List.length_map]; exact hl, nx _ (List.length_map _) (good_all hT)⟩
theorem kn_cat {te : VTE} (T : List (Nat × List (List Nat))) (hte : ∀ Q : Dt → Ev → Nat → Prop, Q (.lst (T.map kE)) [a, b, .fz (.lst L), d] t → te [a, b, .fz (.lst L), d] t Q) (hT : T.all kB = true) (hL : ∀ x ∈ L, Good x) (hl : L.length + T.length ≤ 1000)
    (nx : ∀ L' : List Dt, L'.length = L.length + T.length → (∀ x ∈ L', Good x) → B V [a, b, .ow (.lst L'), d] t) : vSeq (vSetN 2 (vOpNew dCat (vMv 2) te)) B V [a, b, .ow (.lst L), d] t :=
  ⟨L, rfl, hte _ ⟨L, _, rfl, rfl, by rw [List.length_map]; exact hl, nx _ (by rw [List.length_append, List.length_map]) fun x hx => (List.mem_append.mp hx).elim (hL x) (good_all hT x)⟩⟩
theorem kn_app {te : VTE} (e : Nat × List (List Nat)) (hte : ∀ Q : Dt → Ev → Nat → Prop, Q (kE e) [a, b, .ow (.lst L), d] t → te [a, b, .ow (.lst L), d] t Q) (hT : kB e = true) (hL : ∀ x ∈ L, Good x) (hl : L.length ≤ 1000)
    (nx : ∀ L' : List Dt, L'.length = L.length + 1 → (∀ x ∈ L', Good x) → B V [a, b, .ow (.lst L'), d] t) : vSeq (vDrop (vM 2 mAppend (vCons te vNil))) B V [a, b, .ow (.lst L), d] t :=
  ⟨⟨L, rfl⟩, hte _ ⟨L, rfl, _, rfl, hl, nx _ (by rw [List.length_append]; rfl) fun x hx => (List.mem_append.mp hx).elim (hL x) fun z => by rw [List.mem_singleton.mp z]; exact good_B hT⟩⟩
end
theorem ok1 : 1 ≤ 1000 := by decide
theorem ok2 : 2 ≤ 1000 := by decide
theorem ok4 : 4 ≤ 1000 := by decide
theorem ok7 : 7 ≤ 1000 := by decide
section
variable {P : Program} {w : World} {K : PySem.W.Frag} {mg : Str → Option Value} {base : Heap} {am : Am} {gd : Around → Prop} {k : Nat}
theorem ok_known {f : Addr} {fd : FuncData} (F : Fun K "_law_known" "_law_known" s_l_known f fd) (mz : ∀ x ∈ bn, mg x = none) : VFn gd P w K mg base CX0 (k + 1) f fd ["_law_way"] am spKnown := by
  refine vfn_of F sc_l_known (fun ds n Q E h => ?_) ⟨_, fun cdv A out s H E F0 H0 hcd hgd hr =>
    (vss_cons (vs_set (i := 1) sc_l_known.nd rfl (.inl rfl) (ve_tup (va_cons ve_int (va_cons ve_int (va_cons ve_int (va_cons ve_int (va_cons ve_int (va_cons ve_int (va_cons ve_int va_nil)))))))))
      (vss_cons (vs_setN (i := 2) sc_l_known.nd rfl (.inl rfl) (vn_lst (va_cons (ve_tupK (ka_cons ve_int (ka_cons (ve_lstK (ka_cons (ve_tupK (ka_cons ve_int (ka_cons ve_int (ka_cons ve_int ka_nil))) (by decide)) (ka_cons (ve_tupK (ka_cons ve_int (ka_cons ve_int (ka_cons ve_int ka_nil))) (by decide)) ka_nil)) (by decide)) ka_nil)) (by decide)) (va_cons (ve_tupK (ka_cons ve_int (ka_cons (ve_lstK (ka_cons (ve_tupK (ka_cons ve_int (ka_cons ve_int (ka_cons ve_int (ka_cons ve_int ka_nil)))) (by decide)) (ka_cons (ve_tupK (ka_cons ve_int (ka_cons ve_int (ka_cons ve_int (ka_cons ve_int ka_nil)))) (by decide)) ka_nil)) (by decide)) ka_nil)) (by decide)) (va_cons (ve_tupK (ka_cons ve_int (ka_cons (ve_lstK (ka_cons (ve_tupK (ka_cons ve_int (ka_cons ve_int (ka_cons ve_int (ka_cons ve_int ka_nil)))) (by decide)) (ka_cons (ve_tupK (ka_cons ve_int (ka_cons ve_int (ka_cons ve_int (ka_cons ve_int ka_nil)))) (by decide)) ka_nil)) (by decide)) ka_nil)) (by decide)) va_nil)))))
      (vss_cons (vs_setN (i := 2) sc_l_known.nd rfl (.inl rfl) (vn_op op_cat lft_cat (ve_mv (pv 2)) (ve_lstK (ka_cons (ve_tupK (ka_cons ve_int (ka_cons (ve_lstK (ka_cons (ve_tupK (ka_cons ve_int (ka_cons ve_int (ka_cons ve_int (ka_cons ve_int ka_nil)))) (by decide)) (ka_cons (ve_tupK (ka_cons ve_int (ka_cons ve_int (ka_cons ve_int (ka_cons ve_int ka_nil)))) (by decide)) ka_nil)) (by decide)) ka_nil)) (by decide)) (ka_cons (ve_tupK (ka_cons ve_int (ka_cons (ve_lstK (ka_cons (ve_tupK (ka_cons ve_int (ka_cons ve_int (ka_cons ve_int (ka_cons ve_int ka_nil)))) (by decide)) (ka_cons (ve_tupK (ka_cons ve_int (ka_cons ve_int (ka_cons ve_int (ka_cons ve_int ka_nil)))) (by decide)) ka_nil)) (by decide)) ka_nil)) (by decide)) ka_nil)) (by decide))))
      (vss_cons (vs_setN (i := 2) sc_l_known.nd rfl (.inl rfl) (vn_op op_cat lft_cat (ve_mv (pv 2)) (ve_lstK (ka_cons (ve_tupK (ka_cons ve_int (ka_cons (ve_lstK (ka_cons (ve_tupK (ka_cons ve_int (ka_cons ve_int (ka_cons ve_int (ka_cons ve_int (ka_cons ve_int ka_nil))))) (by decide)) (ka_cons (ve_tupK (ka_cons ve_int (ka_cons ve_int (ka_cons ve_int (ka_cons ve_int (ka_cons ve_int ka_nil))))) (by decide)) ka_nil)) (by decide)) ka_nil)) (by decide)) (ka_cons (ve_tupK (ka_cons ve_int (ka_cons (ve_lstK (ka_cons (ve_tupK (ka_cons ve_int (ka_cons ve_int (ka_cons ve_int (ka_cons ve_int (ka_cons ve_int ka_nil))))) (by decide)) (ka_cons (ve_tupK (ka_cons ve_int (ka_cons ve_int (ka_cons ve_int (ka_cons ve_int (ka_cons ve_int ka_nil))))) (by decide)) ka_nil)) (by decide)) ka_nil)) (by decide)) ka_nil)) (by decide))))
      (vss_cons (vs_setN (i := 2) sc_l_known.nd rfl (.inl rfl) (vn_op op_cat lft_cat (ve_mv (pv 2)) (ve_lstK (ka_cons (ve_tupK (ka_cons ve_int (ka_cons (ve_lstK (ka_cons (ve_tupK (ka_cons ve_int (ka_cons ve_int (ka_cons ve_int (ka_cons ve_int (ka_cons ve_int ka_nil))))) (by decide)) (ka_cons (ve_tupK (ka_cons ve_int (ka_cons ve_int (ka_cons ve_int (ka_cons ve_int (ka_cons ve_int ka_nil))))) (by decide)) (ka_cons (ve_tupK (ka_cons ve_int (ka_cons ve_int (ka_cons ve_int (ka_cons ve_int (ka_cons ve_int ka_nil))))) (by decide)) ka_nil))) (by decide)) ka_nil)) (by decide)) (ka_cons (ve_tupK (ka_cons ve_int (ka_cons (ve_lstK ka_nil (by decide)) ka_nil)) (by decide)) (ka_cons (ve_tupK (ka_cons ve_int (ka_cons (ve_lstK (ka_cons (ve_tupK (ka_cons ve_int (ka_cons ve_int (ka_cons ve_int (ka_cons ve_int ka_nil)))) (by decide)) ka_nil) (by decide)) ka_nil)) (by decide)) ka_nil))) (by decide))))
      (vss_cons (vs_setN (i := 2) sc_l_known.nd rfl (.inl rfl) (vn_op op_cat lft_cat (ve_mv (pv 2)) (ve_lstK (ka_cons (ve_tupK (ka_cons ve_int (ka_cons (ve_lstK (ka_cons (ve_tupK (ka_cons ve_int (ka_cons ve_int (ka_cons ve_int (ka_cons ve_int (ka_cons ve_int (ka_cons ve_int ka_nil)))))) (by decide)) (ka_cons (ve_tupK (ka_cons ve_int (ka_cons ve_int (ka_cons ve_int (ka_cons ve_int (ka_cons ve_int (ka_cons ve_int ka_nil)))))) (by decide)) ka_nil)) (by decide)) ka_nil)) (by decide)) (ka_cons (ve_tupK (ka_cons ve_int (ka_cons (ve_lstK (ka_cons (ve_tupK (ka_cons ve_int (ka_cons ve_int (ka_cons ve_int (ka_cons ve_int (ka_cons ve_int (ka_cons ve_int ka_nil)))))) (by decide)) (ka_cons (ve_tupK (ka_cons ve_int (ka_cons ve_int (ka_cons ve_int (ka_cons ve_int (ka_cons ve_int (ka_cons ve_int ka_nil)))))) (by decide)) ka_nil)) (by decide)) ka_nil)) (by decide)) ka_nil)) (by decide))))
      (vss_cons (vs_setN (i := 2) sc_l_known.nd rfl (.inl rfl) (vn_op op_cat lft_cat (ve_mv (pv 2)) (ve_lstK (ka_cons (ve_tupK (ka_cons ve_int (ka_cons (ve_lstK (ka_cons (ve_tupK (ka_cons ve_int (ka_cons ve_int (ka_cons ve_int (ka_cons ve_int (ka_cons ve_int (ka_cons ve_int ka_nil)))))) (by decide)) (ka_cons (ve_tupK (ka_cons ve_int (ka_cons ve_int (ka_cons ve_int (ka_cons ve_int (ka_cons ve_int (ka_cons ve_int ka_nil)))))) (by decide)) ka_nil)) (by decide)) ka_nil)) (by decide)) (ka_cons (ve_tupK (ka_cons ve_int (ka_cons (ve_lstK (ka_cons (ve_tupK (ka_cons ve_int (ka_cons ve_int (ka_cons ve_int (ka_cons ve_int (ka_cons ve_int (ka_cons ve_int (ka_cons ve_int ka_nil))))))) (by decide)) ka_nil) (by decide)) ka_nil)) (by decide)) ka_nil)) (by decide))))
      (vss_cons (vs_setN (i := 2) sc_l_known.nd rfl (.inl rfl) (vn_op op_cat lft_cat (ve_mv (pv 2)) (ve_lstK (ka_cons (ve_tupK (ka_cons ve_int (ka_cons (ve_lstK (ka_cons (ve_tupK (ka_cons ve_int (ka_cons ve_int (ka_cons ve_int (ka_cons ve_int (ka_cons ve_int (ka_cons ve_int ka_nil)))))) (by decide)) (ka_cons (ve_tupK (ka_cons ve_int (ka_cons ve_int (ka_cons ve_int (ka_cons ve_int (ka_cons ve_int (ka_cons ve_int ka_nil)))))) (by decide)) (ka_cons (ve_tupK (ka_cons ve_int (ka_cons ve_int (ka_cons ve_int (ka_cons ve_int (ka_cons ve_int (ka_cons ve_int ka_nil)))))) (by decide)) ka_nil))) (by decide)) ka_nil)) (by decide)) ka_nil) (by decide))))
      (vss_cons (vs_setN (i := 2) sc_l_known.nd rfl (.inl rfl) (vn_op op_cat lft_cat (ve_mv (pv 2)) (ve_new (vn_lst (va_cons (ve_tup (va_cons ve_int (va_cons (ve_new (vn_lst (va_cons (ve_var (pv 1)) (va_cons (ve_tupK (ka_cons ve_int (ka_cons ve_int (ka_cons ve_int (ka_cons ve_int (ka_cons ve_int (ka_cons ve_int (ka_cons ve_int ka_nil))))))) (by decide)) va_nil)))) va_nil))) (va_cons (ve_tupK (ka_cons ve_int (ka_cons (ve_lstK (ka_cons (ve_tupK (ka_cons ve_int (ka_cons ve_int (ka_cons ve_int (ka_cons ve_int (ka_cons ve_int ka_nil))))) (by decide)) (ka_cons (ve_tupK (ka_cons ve_int (ka_cons ve_int (ka_cons ve_int (ka_cons ve_int (ka_cons ve_int ka_nil))))) (by decide)) ka_nil)) (by decide)) ka_nil)) (by decide)) va_nil))))))
      (vss_cons (vs_expr (ve_m (pe_bm PySem.F.plainAttrs_list PySem.F.slot_list_append PySem.F.type_list_append mt_append (pv 2) (va_cons (ve_tup (va_cons ve_int (va_cons (ve_new (vn_lst (va_cons (ve_var (pv 1)) (va_cons (ve_tupK (ka_cons ve_int (ka_cons ve_int (ka_cons ve_int (ka_cons ve_int (ka_cons ve_int (ka_cons ve_int (ka_cons ve_int ka_nil))))))) (by decide)) va_nil)))) va_nil))) va_nil)) lft_append))
      (vss_cons (vs_setN (i := 2) sc_l_known.nd rfl (.inl rfl) (vn_op op_cat lft_cat (ve_mv (pv 2)) (ve_lstK (ka_cons (ve_tupK (ka_cons ve_int (ka_cons (ve_lstK (ka_cons (ve_tupK (ka_cons ve_int (ka_cons ve_int (ka_cons ve_int (ka_cons ve_int (ka_cons ve_int (ka_cons ve_int ka_nil)))))) (by decide)) (ka_cons (ve_tupK (ka_cons ve_int (ka_cons ve_int (ka_cons ve_int (ka_cons ve_int (ka_cons ve_int (ka_cons ve_int ka_nil)))))) (by decide)) (ka_cons (ve_tupK (ka_cons ve_int (ka_cons ve_int (ka_cons ve_int (ka_cons ve_int (ka_cons ve_int (ka_cons ve_int ka_nil)))))) (by decide)) ka_nil))) (by decide)) ka_nil)) (by decide)) ka_nil) (by decide))))
      (vss_cons (vs_expr (ve_m (pe_bm PySem.F.plainAttrs_list PySem.F.slot_list_append PySem.F.type_list_append mt_append (pv 2) (va_cons (ve_tupK (ka_cons ve_int (ka_cons (ve_lstK (ka_cons (ve_tupK (ka_cons ve_int (ka_cons ve_int (ka_cons ve_int (ka_cons ve_int (ka_cons ve_int (ka_cons ve_int ka_nil)))))) (by decide)) (ka_cons (ve_tupK (ka_cons ve_int (ka_cons ve_int (ka_cons ve_int (ka_cons ve_int (ka_cons ve_int (ka_cons ve_int ka_nil)))))) (by decide)) (ka_cons (ve_tupK (ka_cons ve_int (ka_cons ve_int (ka_cons ve_int (ka_cons ve_int (ka_cons ve_int (ka_cons ve_int ka_nil)))))) (by decide)) (ka_cons (ve_tupK (ka_cons ve_int (ka_cons ve_int (ka_cons ve_int (ka_cons ve_int (ka_cons ve_int (ka_cons ve_int ka_nil)))))) (by decide)) ka_nil)))) (by decide)) ka_nil)) (by decide)) va_nil)) lft_append))
      (vss_cons (vs_set (i := 3) sc_l_known.nd rfl (.inl rfl) (ve_new (vn_lst (va_cons (ve_tupK (ka_cons ve_int (ka_cons ve_int (ka_cons ve_int (ka_cons ve_int (ka_cons ve_int (ka_cons ve_int (ka_cons ve_int ka_nil))))))) (by decide)) (va_cons (ve_tupK (ka_cons ve_int (ka_cons ve_int (ka_cons ve_int (ka_cons ve_int (ka_cons ve_int (ka_cons ve_int (ka_cons ve_int ka_nil))))))) (by decide)) (va_cons (ve_tupK (ka_cons ve_int (ka_cons ve_int (ka_cons ve_int (ka_cons ve_int (ka_cons ve_int (ka_cons ve_int (ka_cons ve_int ka_nil))))))) (by decide)) (va_cons (ve_tupK (ka_cons ve_int (ka_cons ve_int (ka_cons ve_int (ka_cons ve_int (ka_cons ve_int (ka_cons ve_int (ka_cons ve_int ka_nil))))))) (by decide)) va_nil)))))))
      (vss_cons (vs_expr (ve_m (pe_bm PySem.F.plainAttrs_list PySem.F.slot_list_append PySem.F.type_list_append mt_append (pv 2) (va_cons (ve_tup (va_cons ve_int (va_cons (ve_var (pv 3)) va_nil))) va_nil)) lft_append))
      (vss_one (vs_ret (ve_ixO (pv 2) (ve_var (pv 0)) (fun _ _ => rfl)))))))))))))))))), fun ds t Q E h => ?_⟩
  · obtain ⟨n, rfl, _⟩ := h
    rfl
  · obtain ⟨c, rfl, hc, q⟩ := h
    refine vseq_set ⟨ok7, ?_⟩
    refine kn_new [(3, [[1, 2, 0], [1, 0, 2]]), (4, [[1, 2, 3, 0], [3, 2, 1, 0]]), (4, [[1, 0, 3, 2], [2, 3, 0, 1]])] (by decide) (fun Q q => q) (by decide +kernel) fun L0 hl0 hL0 => ?_
    refine kn_cat [(4, [[1, 2, 0, 3], [1, 0, 3, 2]]), (4, [[1, 2, 3, 0], [1, 0, 2, 3]])] (fun Q q => q) (by decide +kernel) hL0 (by rw [hl0]; decide) fun L1 hl1 hL1 => ?_
    rw [hl0] at hl1
    refine kn_cat [(5, [[1, 2, 3, 4, 0], [0, 4, 3, 2, 1]]), (5, [[1, 2, 3, 4, 0], [0, 2, 4, 1, 3]])] (fun Q q => q) (by decide +kernel) hL1 (by rw [hl1]; decide) fun L2 hl2 hL2 => ?_
    rw [hl1] at hl2
    refine kn_cat [(5, [[1, 2, 0, 3, 4], [1, 0, 2, 3, 4], [0, 1, 2, 4, 3]]), (2, []), (4, [[1, 2, 3, 0]])] (fun Q q => q) (by decide +kernel) hL2 (by rw [hl2]; decide) fun L3 hl3 hL3 => ?_
    rw [hl2] at hl3
    refine kn_cat [(6, [[1, 2, 3, 4, 5, 0], [0, 5, 4, 3, 2, 1]]), (6, [[1, 2, 0, 3, 4, 5], [0, 1, 2, 4, 5, 3]])] (fun Q q => q) (by decide +kernel) hL3 (by rw [hl3]; decide) fun L4 hl4 hL4 => ?_
    rw [hl3] at hl4
    refine kn_cat [(6, [[1, 2, 0, 3, 4, 5], [3, 4, 5, 0, 1, 2]]), (7, [[1, 2, 3, 0, 5, 6, 4]])] (fun Q q => q) (by decide +kernel) hL4 (by rw [hl4]; decide) fun L5 hl5 hL5 => ?_
    rw [hl4] at hl5
    refine kn_cat [(6, [[1, 2, 3, 0, 4, 5], [3, 2, 1, 0, 4, 5], [0, 1, 2, 3, 5, 4]])] (fun Q q => q) (by decide +kernel) hL5 (by rw [hl5]; decide) fun L6 hl6 hL6 => ?_
    rw [hl5] at hl6
    refine kn_cat [(7, [[1, 2, 3, 4, 5, 6, 0], [0, 2, 4, 6, 1, 3, 5]]), (5, [[1, 2, 3, 4, 0], [1, 2, 0, 3, 4]])] (fun Q q => ⟨_, rfl, ok2, _, rfl, ok2, ok2, _, rfl, q⟩) (by decide +kernel) hL6 (by rw [hl6]; decide) fun L7 hl7 hL7 => ?_
    rw [hl6] at hl7
    refine kn_app (7, [[1, 2, 3, 4, 5, 6, 0], [0, 3, 6, 2, 5, 1, 4]]) (fun Q q => ⟨_, rfl, ok2, _, rfl, ok2, q⟩) (by decide +kernel) hL7 (by rw [hl7]; decide) fun L8 hl8 hL8 => ?_
    rw [hl7] at hl8
    refine kn_cat [(6, [[1, 2, 3, 0, 4, 5], [1, 0, 2, 3, 4, 5], [0, 1, 2, 3, 5, 4]])] (fun Q q => q) (by decide +kernel) hL8 (by rw [hl8]; decide) fun L9 hl9 hL9 => ?_
    rw [hl8] at hl9
    refine kn_app (6, [[1, 2, 0, 3, 4, 5], [1, 0, 2, 3, 4, 5], [0, 1, 2, 4, 5, 3], [0, 1, 2, 4, 3, 5]]) (fun Q q => q) (by decide +kernel) hL9 (by rw [hl9]; decide) fun L10 hl10 hL10 => ?_
    rw [hl9] at hl10
    refine vseq_set ⟨ok4, _, rfl, ?_⟩
    refine kn_app (7, [[1, 2, 3, 0, 4, 5, 6], [3, 2, 1, 0, 4, 5, 6], [0, 1, 2, 3, 5, 6, 4], [0, 1, 2, 3, 5, 4, 6]]) (fun Q q => ⟨_, rfl, ok2, q⟩) (by decide +kernel) hL10 (by rw [hl10]; decide) fun L11 hl11 hL11 => ?_
    rw [hl10] at hl11
    obtain ⟨x, hx⟩ : ∃ x, L11[c]? = some x := ⟨_, List.getElem?_eq_getElem (by rw [hl11]; exact hc)⟩
    obtain ⟨m, ls, rfl, h2, h7, h4, hT⟩ := hL11 x (List.mem_of_getElem? hx)
    exact ⟨⟨_, .inr ⟨_, rfl, rfl⟩⟩, _, rfl, _, _, _, .inr ⟨_, rfl, rfl⟩, rfl, atI_nat hx, q m ls h2 h7 h4 hT⟩
end
end K15
namespace K15
end K15
namespace K15
open PySem PySem.Spec PyProof.Rows L2 HM VL
section
variable {P : Program} {w : World} {K : PySem.W.Frag} {mg : Str → Option Value} {base : Heap} {am : Am} {gd : Around → Prop} {k : Nat}
theorem ok_group_ {c : Nat} {sp2 : VSp} {f : Addr} {fd : FuncData} (F : Fun K "_law_group" "_law_group" s_l_group f fd) (hc : c ≤ 1 ∨ sp2 = spGroup 1) (G_l_group : VFn anyA P w K mg base CX0 (k + 1) f fd ["_law_many", "_law_turns"] am sp2) (g_l_group : mg "_law_group" = some (.ref f)) (k_l_group : PySem.W.keepIn K (.ref f) = true) (b_l_group : Binds K fd ["_law_many", "_law_turns"] [])
    (mz : ∀ x ∈ bn, mg x = none) : VFn gd P w K mg base CX0 (k + 2) f fd ["_law_many", "_law_turns"] am (spGroup c) := by
  refine vfn_of F sc_l_group (fun ds n Q E h => ?_) ⟨_, fun cdv A out s H E F0 H0 hcd hgd hr =>
    (vss_cons (vs_set (i := 2) sc_l_group.nd rfl (.inl rfl) (ve_tupRg rfl (by rfl) (mz "tuple" (by decide)) (vrg_1 (by rfl) (mz "range" (by decide)) (ve_var (pv 0)))))
      (vss_cons (vs_setN (i := 3) sc_l_group.nd rfl (.inl rfl) (vn_dispT (hu_of hr) (fun F0 H0 => (ve_var (pv 2))) (fun F0 H0 => ve_bl)))
      (vss_cons (vs_setN (i := 4) sc_l_group.nd rfl (.inl rfl) (vn_lst (va_cons (ve_var (pv 2)) va_nil)))
      (vss_cons (vs_while PassesOwn.never (vt_cmpN (op_neD hr.units) lft_neD (pv 4) (vr_of (ve_new (vn_lst va_nil))) (nomark _))
        (vss_cons (vs_set (i := 5) sc_l_group.nd rfl (.inl rfl) (ve_m0 (pe_bm0 PySem.F.plainAttrs_list PySem.F.slot_list_pop PySem.F.type_list_pop mt_pop (pv 4)) lft_pop))
        (vss_cons (vs_for PassesOwn.never rfl (vi_list (ve_var (pv 1))) (vg_name (pg_name (i := 6) sc_l_group.nd rfl (.inr rfl)))
          (vss_cons (vs_set (i := 8) sc_l_group.nd rfl (.inl rfl) (ve_tyTR call_tuple_of lft_tupleOf (by rfl) (mz "tuple" (by decide)) (by decide +kernel) (vb_cons (ve_new (vn_lc (own := [("_law_k", 7)]) rfl sc_l_group.nd (vi_tup (ve_var (pv 5))) (blkOk_by (own := [("_law_k", 7)]) (N := ["_law_many", "_law_turns", "_law_stay", "_law_found", "_law_waiting", "_law_one", "_law_turn_here", "_law_k", "_law_more"]) (sc := defScope s_l_group) (by decide +kernel)) (tg_name (by simp)) (fun _ _ _ _ _ => (pg_name (i := 7) sc_l_group.nd rfl (.inl rfl))) (fun _ _ _ _ _ _ _ => vts_nil) (fun _ _ _ _ _ _ _ => (ve_ix ix_tup lft_ixT (ve_var (pv 6)) (ve_var (pv 7)) (fun _ _ => rfl))))) vb_nil)))
          (vss_one (vs_if (vt_dnotin (hu_of hr) (ve_var (pv 8)) (pv 3))
            (vss_cons (vs_dput (hu_of hr) (pv 3) (ve_var (pv 8)) ve_bl rfl)
            (vss_one (vs_expr (ve_m (pe_bm PySem.F.plainAttrs_list PySem.F.slot_list_append PySem.F.type_list_append mt_append (pv 4) (va_cons (ve_var (pv 8)) va_nil)) lft_append))))
            vss_nil))))
        (vss_one (vs_if (vt_cmp op_gt lft_B0 (ve_dlenT (by rfl) (mz "len" (by decide)) (pv 3)) ve_int (nomark _))
          (vss_one (vs_ret (ve_call G_l_group trivial (hr.mono (by omega)) (by rfl) g_l_group k_l_group b_l_group pass0 (va_cons (ve_var (pv 0)) (va_cons (ve_new (vn_slL (ve_var (pv 1)) vo_none (vo_some ve_int))) va_nil)))))
          vss_nil)))))
      (vss_one (vs_ret (ve_new (vn_dsortT rfl (by rfl) (mz "sorted" (by decide)) (pv 3))))))))), fun ds t Q E h => ?_⟩
  · obtain ⟨n, ts, rfl, _⟩ := h
    rfl
  · obtain ⟨m, ts, rfl, h1, h7, hts, h4, hT, q⟩ := h
    obtain ⟨td, etd⟩ : ∃ td, td = Dt.lst (tnsD ts) := ⟨_, rfl⟩
    rw [← etd]
    have hgr : ∀ {x : List Nat}, GR m ts x → Tn m x := fun h => h.tn hT
    refine vseq_set ⟨_, rfl, _, rfl, ⟨by omega, by omega, by omega, by omega⟩, ?_⟩
    rw [show ((m : Int) - 0).toNat = m by omega, rg_stay]
    refine vseq_setN ⟨_, rfl, kN (stay m), tup_key _, vseq_setN ⟨_, rfl, (by decide : 1 ≤ 1000), ?_⟩⟩
    let I : List (List Nat) → List (List Nat) → Sl → Ev → Prop := fun fs ws s5 env => ∃ kvs s6 s8, env = [.fz (nD m), .fz td, .fz (.tup (nsD (stay m))), .ow (.dT kvs), .ow (.lst (tnsD ws)), s5, s6, .no, s8] ∧ kvs.map (·.1) = fs.map kN
    refine ⟨fun mm env t' => ∃ fs ws, mm = 2 * (61 - fs.length) + ws.length ∧ t' = t ∧ (∃ s5, I fs ws s5 env) ∧ GWt m ts fs ws ∧ fs.length ≤ 60, ⟨_, [stay m], [stay m], rfl, rfl, ⟨.no, _, .no, .no, rfl, rfl⟩, ⟨by simp, fun x hx => by rw [List.mem_singleton.mp hx]; exact .stay, by simp, fun x hx => hx, by simp, fun x hx hn => absurd hx hn⟩, (by decide : 1 ≤ 60)⟩, fun mm env t' hW => ?_⟩
    obtain ⟨fs, ws, rfl, rfl, ⟨s5, kvs, s6, s8, rfl, hk⟩, hW, hf60⟩ := hW
    refine ⟨⟨_, .inr ⟨_, rfl, rfl⟩⟩, by decide, _, rfl, _, .inr ⟨_, rfl, rfl⟩, dNeD_pl (pl_tns ws) rfl (dep_tns ws) (by decide) fun b hb => ⟨rfl, b, rfl, iteB (fun e => ?_) (fun e => ?_)⟩⟩
    · have hne : ws ≠ [] := fun z => (hb.mp e) (tnsD_nil.mpr z)
      obtain ⟨ws', x0, rfl⟩ : ∃ l x, ws = l ++ [x] := ⟨_, _, (List.dropLast_concat_getLast hne).symm⟩
      have hx0 : x0 ∈ fs := hW.sb x0 (by simp)
      have hx0n : Tn m x0 := hgr (hW.rc x0 hx0)
      have hwn := hW.wn
      rw [List.nodup_append] at hwn
      have hx0w : x0 ∉ ws' := fun z => hwn.2.2 x0 z x0 (by simp) rfl
      refine vseq_set ⟨⟨_, rfl⟩, _, rfl, .tup (nsD x0), rfl, tnsD_last, ?_⟩
      rw [tnsD_dropLast]
      refine vcut (fun env t3 => t3 = t' ∧ ∃ ext, ext.length ≤ 4 ∧ I (fs ++ ext) (ws' ++ ext) (.fz (.tup (nsD x0))) env ∧ (fs ++ ext).Nodup ∧ (∀ x ∈ fs ++ ext, GR m ts x) ∧ ∀ g ∈ ts, thn x0 g ∈ fs ++ ext) (fun N hN => ?_) (fun env t3 hP => ?_)
      · refine ⟨_, rfl, tnsD ts, etd, fun j env t3 => t3 = t' ∧ ∃ ext, ext.length ≤ j ∧ I (fs ++ ext) (ws' ++ ext) (.fz (.tup (nsD x0))) env ∧ (fs ++ ext).Nodup ∧ (∀ x ∈ fs ++ ext, GR m ts x) ∧ ∀ g ∈ ts.take j, thn x0 g ∈ fs ++ ext, ⟨rfl, [], Nat.le_refl 0, ⟨kvs, s6, s8, by rw [List.append_nil]; rfl, by rw [List.append_nil]; exact hk⟩, by rw [List.append_nil]; exact hW.nd, by rw [List.append_nil]; exact hW.rc, fun g hg => by rw [List.take_zero] at hg; cases hg⟩, fun j x env t3 hx hP => ?_, fun env t3 hP => ?_⟩
        · obtain ⟨rfl, ext, hel, ⟨kvs, s6, s8, rfl, hk⟩, hnd, hrc, hcl⟩ := hP
          unfold tnsD at hx
          rw [List.getElem?_map] at hx
          obtain ⟨g, hg1, rfl⟩ := Option.map_eq_some_iff.mp hx
          have hgm := List.mem_of_getElem? hg1
          have hj : j < ts.length := (List.getElem?_eq_some_iff.mp hg1).1
          have hgT := hT g hgm
          have hkl : kvs.length = (fs ++ ext).length := by
            have := congrArg List.length hk
            rw [List.length_map, List.length_map] at this
            exact this
          have hfl : (fs ++ ext).length ≤ 64 := by rw [List.length_append]; omega
          have htk : ∀ g2 ∈ ts.take (j + 1), g2 ∈ ts.take j ∨ g2 = g := fun g2 h => by
            rw [take_snoc' hg1] at h
            rcases List.mem_append.mp h with h | h
            · exact .inl h
            · exact .inr (List.mem_singleton.mp h)
          have hmem : (valD kvs (kN (thn x0 g))).isSome = decide (thn x0 g ∈ fs ++ ext) := by
            rw [valD_some, hk]
            exact decide_eq_decide.mpr kN_mem
          refine vseq_set ⟨_, rfl, _, rfl, ?_⟩
          refine lc_map (i := 7) (fun j => nD (tA g (tA x0 j))) (.head _) (noOw1 rfl no_ow) (by rw [nsD_len, hx0n.len]; omega) (fun i y hy R q => ?_) ?_
          · unfold nsD at hy
            rw [List.getElem?_map] at hy
            obtain ⟨y0, hy1, rfl⟩ := Option.map_eq_some_iff.mp hy
            have hil := (List.getElem?_eq_some_iff.mp hy1).1
            have e3 : y0 = tA x0 i := Option.some.inj (hy1.symm.trans (tA_get hil))
            rw [← e3] at q
            exact ⟨_, rfl, _, rfl, _, _, _, rfl, rfl, nsD_tA (by rw [hgT.len]; exact hx0n.lt (List.mem_of_getElem? hy1)), q⟩
          rw [thn_lc]
          refine ⟨_, rfl, _, rfl, flats_ns _, ?_⟩
          refine ⟨_, rfl, _, .inr ⟨kvs, kN (thn x0 g), rfl, tup_key _, rfl⟩, _, rfl, iteB (fun e2 => ?_) (fun e2 => ?_)⟩
          · have hnin : thn x0 g ∉ fs ++ ext := by
              have e3 : (!(valD kvs (kN (thn x0 g))).isSome) = true := e2
              rw [hmem, Bool.not_eq_true', decide_eq_false_iff_not] at e3
              exact e3
            have hnk : kN (thn x0 g) ∉ kvs.map (·.1) := by rw [hk, kN_mem]; exact hnin
            refine ⟨.inr ⟨_, rfl⟩, _, rfl, .inr ⟨kvs, kN (thn x0 g), rfl, tup_key _, by omega, ⟨_, rfl⟩, _, rfl, _, rfl, _, rfl, ?_, rfl, ext ++ [thn x0 g], by rw [List.length_append, List.length_singleton]; omega, ⟨putD kvs (kN (thn x0 g)) (.bl true), .fz (.tup (nsD g)), .fz (.tup (nsD (thn x0 g))), ?_, ?_⟩, ?_, fun x hx => ?_, fun g2 hg2 => ?_⟩⟩
            · rw [tnsD_len, List.length_append]
              have h1 := List.Nodup.length_le_of_subset hwn.1 fun x hx => hW.sb x (List.mem_append_left _ hx)
              omega
            · rw [tnsD_app, ← List.append_assoc]
              rfl
            · rw [putD_new hnk, List.map_append, hk, ← List.append_assoc, List.map_append (l₁ := fs ++ ext)]
              rfl
            · rw [← List.append_assoc, List.nodup_append]
              exact ⟨hnd, by simp, fun a ha b hb z => hnin (by rw [List.mem_singleton.mp hb] at z; rw [← z]; exact ha)⟩
            · rw [← List.append_assoc] at hx
              rcases List.mem_append.mp hx with hx | hx
              · exact hrc x hx
              · rw [List.mem_singleton.mp hx]
                exact .step (hW.rc x0 hx0) hgm
            · rw [← List.append_assoc]
              rcases htk g2 hg2 with h | rfl
              · exact List.mem_append_left _ (hcl g2 h)
              · exact List.mem_append_right _ (List.mem_singleton.mpr rfl)
          · have hin : thn x0 g ∈ fs ++ ext := by
              have e3 : (!(valD kvs (kN (thn x0 g))).isSome) = false := e2
              rw [hmem, Bool.not_eq_false', decide_eq_true_iff] at e3
              exact e3
            refine ⟨rfl, ext, by omega, ⟨kvs, _, _, rfl, hk⟩, hnd, hrc, fun g2 hg2 => ?_⟩
            rcases htk g2 hg2 with h | rfl
            · exact hcl g2 h
            · exact hin
        · obtain ⟨rfl, ext, hel, hI, hnd, hrc, hcl⟩ := hP
          rw [tnsD_len] at hel
          rw [tnsD_len, List.take_of_length_le (Nat.le_refl _)] at hcl
          exact hN _ _ ⟨rfl, ext, by omega, hI, hnd, hrc, hcl⟩
      · obtain ⟨rfl, ext, hel, ⟨kvs, s6, s8, rfl, hk⟩, hnd, hrc, hcl⟩ := hP
        have hkl : kvs.length = (fs ++ ext).length := by
          have := congrArg List.length hk
          rw [List.length_map, List.length_map] at this
          exact this
        refine ⟨_, rfl, _, _, rfl, rfl, _, rfl, iteB (fun e2 => ?_) (fun e2 => ?_)⟩
        · have hbig : 60 < (fs ++ ext).length := by
            have : (60 : Int) < (kvs.length : Int) := of_decide_eq_true e2
            omega
          rcases Nat.lt_or_ge c 2 with z | z
          · have := GR.few hT h7 (by omega) hnd hrc
            omega
          · rw [hc.resolve_left (by omega)]
            refine ⟨_, rfl, _, rfl, _, rfl, _, etd, _, rfl, m, ts.take 1, ?_, h1, h7, ?_, ?_, fun g hg => hT g (List.mem_of_mem_take hg), q⟩
            · rw [cut1]
            · rw [List.length_take]; omega
            · rw [List.length_take]; omega
        · have hsm : (fs ++ ext).length ≤ 60 := by
            have : ¬ (60 : Int) < (kvs.length : Int) := of_decide_eq_false e2
            omega
          have hl := hsm
          rw [List.length_append] at hl
          rw [List.nodup_append] at hnd
          refine ⟨_, by rw [List.length_append, List.length_append, List.length_append, List.length_singleton]; omega, fs ++ ext, ws' ++ ext, rfl, rfl, ⟨_, kvs, s6, s8, rfl, hk⟩, ⟨List.nodup_append.mpr hnd, hrc, List.mem_append_left _ hW.ze, fun x hx => ?_, ?_, fun x hx hnx g hg => ?_⟩, hsm⟩
          · rcases List.mem_append.mp hx with hx | hx
            · exact List.mem_append_left _ (hW.sb x (List.mem_append_left _ hx))
            · exact List.mem_append_right _ hx
          · rw [List.nodup_append]
            exact ⟨hwn.1, hnd.2.1, fun a ha b hb => hnd.2.2 a (hW.sb a (List.mem_append_left _ ha)) b hb⟩
          · rw [List.mem_append, not_or] at hnx
            rcases List.mem_append.mp hx with hx | hx
            · by_cases z : x = x0
              · rw [z]
                exact hcl g hg
              · exact List.mem_append_left _ (hW.cl x hx (by rw [List.mem_append, List.mem_singleton, not_or]; exact ⟨hnx.1, z⟩) g hg)
            · exact absurd hx hnx.2
    · have hnil : ws = [] := Classical.byContradiction fun z => by
        have := hb.mpr fun h => z (tnsD_nil.mp h)
        rw [this] at e
        cases e
      subst hnil
      refine ⟨kvs, fs.map iN, m, (m : Int), rfl, ?_, by rw [List.length_map]; omega, h1, fun k hk => ?_, fun ls hp hs => ⟨_, rfl, ?_⟩⟩
      · rw [hk, List.map_map]
        exact List.map_congr_left fun l _ => (kN_ikey l).symm
      · obtain ⟨l, hl, rfl⟩ := List.mem_map.mp hk
        have := hgr (hW.rc l hl)
        exact ⟨by unfold iN; rw [List.length_map, this.len], bd_tn this⟩
      · obtain ⟨gl, hg, rfl⟩ := permInv hp
        rw [tns_int]
        have hm : ∀ x, x ∈ gl ↔ GR m ts x := fun x => by rw [hg.mem_iff, hW.all]
        exact q gl ⟨by rw [hg.length_eq]; exact hf60, hg.nodup_iff.mpr hW.nd, fun a ha => hgr ((hm a).mp ha), fun a ha b hb => (hm _).mpr (GR.mul hT ((hm a).mp ha) ((hm b).mp hb)), stay_first (fun a ha => hgr ((hm a).mp ha)) ((hm _).mpr .stay) hs⟩
theorem ok_group {f : Addr} {fd : FuncData} (F : Fun K "_law_group" "_law_group" s_l_group f fd) (g_l_group : mg "_law_group" = some (.ref f)) (k_l_group : PySem.W.keepIn K (.ref f) = true) (b_l_group : Binds K fd ["_law_many", "_law_turns"] [])
    (mz : ∀ x ∈ bn, mg x = none) : VFn gd P w K mg base CX0 (k + 3) f fd ["_law_many", "_law_turns"] am (spGroup 4) :=
  ok_group_ F (.inr rfl) (ok_group_ (c := 1) F (.inl (Nat.le_refl 1)) never g_l_group k_l_group b_l_group mz) g_l_group k_l_group b_l_group mz
end
end K15
namespace K15
open PySem PySem.Spec PyProof.Rows L2 HM VL
section
variable {P : Program} {w : World} {K : PySem.W.Frag} {mg : Str → Option Value} {base : Heap} {am : Am} {gd : Around → Prop} {k : Nat}
theorem ok_table {f : Addr} {fd : FuncData} (F : Fun K "_law_table" "_law_table" s_l_table f fd) (mz : ∀ x ∈ bn, mg x = none) : VFn gd P w K mg base CX0 (k + 1) f fd ["_law_turns"] am spTable := by
  refine vfn_of F sc_l_table (fun ds n Q E h => ?_) ⟨_, fun cdv A out s H E F0 H0 hcd hgd hr =>
    (vss_cons (vs_setN (i := 1) sc_l_table.nd rfl (.inr rfl) vn_dnewT)
      (vss_cons (vs_for PassesOwn.never rfl (vi_list (ve_var (pv 0))) (vg_name (pg_name (i := 2) sc_l_table.nd rfl (.inl rfl)))
        (vss_one (vs_dput (hu_of hr) (pv 1) (ve_var (pv 2)) (ve_dlenT (by rfl) (mz "len" (by decide)) (pv 1)) rfl)))
      (vss_cons (vs_setN (i := 3) sc_l_table.nd rfl (.inl rfl) (vn_lst va_nil))
      (vss_cons (vs_for PassesOwn.never rfl (vi_list (ve_var (pv 0))) (vg_name (pg_name (i := 4) sc_l_table.nd rfl (.inr rfl)))
        (vss_one (vs_expr (ve_m (pe_bm PySem.F.plainAttrs_list PySem.F.slot_list_append PySem.F.type_list_append mt_append (pv 3) (va_cons (ve_new (vn_lc (own := [("_law_other", 5)]) rfl sc_l_table.nd (vi_list (ve_var (pv 0))) (blkOk_by (own := [("_law_other", 5)]) (N := ["_law_turns", "_law_numbers", "_law_turn_here", "_law_found", "_law_one", "_law_other", "_law_k"]) (sc := defScope s_l_table) (by decide +kernel)) (tg_name (by simp)) (fun _ _ _ _ _ => (pg_name (i := 5) sc_l_table.nd rfl (.inr rfl))) (fun _ _ _ _ _ _ _ => vts_nil) (fun _ _ _ _ _ _ _ => (ve_dget (hu_of hr) (pv 1) (ve_tyTR call_tuple_of lft_tupleOf (by rfl) (mz "tuple" (by decide)) (by decide +kernel) (vb_cons (ve_new (vn_lc (own := [("_law_k", 6)]) rfl sc_l_table.nd (vi_tup (ve_var (pv 4))) (blkOk_by (own := [("_law_k", 6)]) (by rfl)) (tg_name (by simp)) (fun _ _ _ _ _ => (pg_name (i := 6) sc_l_table.nd rfl (.inl rfl))) (fun _ _ _ _ _ _ _ => vts_nil) (fun _ _ _ _ _ _ _ => (ve_ix ix_tup lft_ixT (ve_var (pv 5)) (ve_var (pv 6)) (fun _ _ => rfl))))) vb_nil)) (fun _ _ => rfl))))) va_nil)) lft_append))))
      (vss_one (vs_ret (ve_mv (pv 3)))))))), fun ds t Q E h => ?_⟩
  · obtain ⟨n, ts, rfl, _⟩ := h
    rfl
  · obtain ⟨m, gl, rfl, h7, hG, q⟩ := h
    obtain ⟨td, etd⟩ : ∃ td, td = Dt.lst (tnsD gl) := ⟨_, rfl⟩
    rw [← etd]
    have hn := hG.few
    refine vseq_setN ?_
    refine vcut (fun env t' => t' = t ∧ ∃ s2, env = [.fz td, .ow (.dT (numK gl gl.length)), s2, .no, .no, .no, .no]) (fun N hN => ?_) (fun env t' hP => ?_)
    · refine ⟨_, rfl, _, etd, fun j env t' => t' = t ∧ ∃ s2, env = [.fz td, .ow (.dT (numK gl j)), s2, .no, .no, .no, .no], ⟨rfl, .no, rfl⟩, fun j x env t' hx hP => ?_, fun env t' hP => ?_⟩
      · obtain ⟨rfl, s2, rfl⟩ := hP
        obtain ⟨rfl, hj⟩ := tns_get hx
        have hl : (numK gl j).length = j := by unfold numK; rw [List.length_map, List.length_range]
        refine ⟨_, rfl, .inr ⟨_, rfl⟩, _, rfl, .inr ⟨_, kN (glA gl j), rfl, tup_key _, by omega, rfl, .fz (.tup (nsD (glA gl j))), ?_⟩⟩
        rw [← numK_put hG.nd hj, hl]
        rfl
      · obtain ⟨rfl, s2, rfl⟩ := hP
        rw [tnsD_len]
        exact hN _ _ ⟨rfl, s2, rfl⟩
    obtain ⟨rfl, s2, rfl⟩ := hP
    refine vseq_setN ⟨Nat.zero_le _, ?_⟩
    refine ⟨_, rfl, _, etd, fun j env t2 => t2 = t' ∧ ∃ s4, env = [.fz td, .ow (.dT (numK gl gl.length)), s2, .ow (.lst ((List.range j).map fun a => rowD gl.length (tblM gl a))), s4, .no, .no], ⟨rfl, .no, rfl⟩, fun j x env t2 hx hP => ?_, fun env t2 hP => ?_⟩
    · obtain ⟨rfl, s4, rfl⟩ := hP
      obtain ⟨rfl, hj⟩ := tns_get hx
      have hjT := hG.tn _ (glA_mem hj)
      refine ⟨⟨_, rfl⟩, _, rfl, _, etd, ?_⟩
      refine lc_map (i := 5) (fun k => nD (tblM gl j k)) (.head _) (noOw1 rfl no_ow) (by rw [tnsD_len]; omega) (fun k x hx R q => ?_) ?_
      · obtain ⟨rfl, hk⟩ := tns_get hx
        have hkT := hG.tn _ (glA_mem hk)
        refine ⟨.inr ⟨_, rfl⟩, _, rfl, _, rfl, ?_⟩
        refine lc_map (i := 6) (fun i => nD (tA (glA gl k) (tA (glA gl j) i))) (.head _) (noOw1 rfl no_ow) (by rw [nsD_len, hjT.len]; omega) (fun i y hy R q => ?_) ?_
        · unfold nsD at hy
          rw [List.getElem?_map] at hy
          obtain ⟨y0, hy1, rfl⟩ := Option.map_eq_some_iff.mp hy
          have hil := (List.getElem?_eq_some_iff.mp hy1).1
          have e3 : y0 = tA (glA gl j) i := Option.some.inj (hy1.symm.trans (tA_get hil))
          rw [← e3] at q
          exact ⟨_, rfl, _, rfl, _, _, _, rfl, rfl, nsD_tA (by rw [hkT.len]; exact hjT.lt (List.mem_of_getElem? hy1)), q⟩
        rw [thn_lc]
        have hin := hG.mul _ (glA_mem hj) _ (glA_mem hk)
        refine ⟨_, rfl, _, rfl, flats_ns _, nD (tblM gl j k), .inr ⟨_, kN (thn (glA gl j) (glA gl k)), rfl, tup_key _, ?_⟩, q⟩
        have e4 := numK_val hG.nd (Nat.le_refl gl.length) (List.idxOf_lt_length_of_mem hin)
        rw [glA_idx hin] at e4
        exact e4.symm
      · rw [tnsD_len]
        refine ⟨_, rfl, _, rfl, _, rfl, by rw [List.length_map, List.length_range]; omega, rfl, .fz (.tup (nsD (glA gl j))), ?_⟩
        rw [List.range_succ (n := j), List.map_append]
        rw [show (List.range gl.length).map (fun k => nD (tblM gl j k)) = nsD ((List.range gl.length).map (tblM gl j)) by unfold nsD; rw [List.map_map]; rfl]
        rfl
    · obtain ⟨rfl, s4, rfl⟩ := hP
      rw [tnsD_len]
      exact ⟨_, rfl, q⟩
end
end K15
namespace K15
end K15
namespace K15
open PySem PySem.Spec PyProof.Rows L2 HM VL
section
variable {P : Program} {w : World} {K : PySem.W.Frag} {mg : Str → Option Value} {base : Heap} {am : Am} {gd : Around → Prop} {k : Nat}
theorem ok_of_turns {p : Addr} {f f_l_take f_l_turn f_l_known f_l_named f_l_group f_l_table : Addr} {fd fd_l_take fd_l_turn fd_l_known fd_l_named fd_l_group fd_l_table : FuncData} (PI : PenIn K am p) (F : Fun K "_law_of_turns" "_law_of_turns" s_l_of_turns f fd)
    (G_l_take : VFn anyA P w K mg base CX0 (k + 3) f_l_take fd_l_take ["_law_pen_here", "_law_many"] am (spTake p)) (g_l_take : mg "_law_take" = some (.ref f_l_take)) (k_l_take : PySem.W.keepIn K (.ref f_l_take) = true) (b_l_take : Binds K fd_l_take ["_law_pen_here", "_law_many"] [])
    (G_l_turn : VFn anyA P w K mg base CX0 (k + 3) f_l_turn fd_l_turn ["_law_pen_here", "_law_many"] am (spTurn p)) (g_l_turn : mg "_law_turn" = some (.ref f_l_turn)) (k_l_turn : PySem.W.keepIn K (.ref f_l_turn) = true) (b_l_turn : Binds K fd_l_turn ["_law_pen_here", "_law_many"] [])
    (G_l_known : VFn anyA P w K mg base CX0 (k + 3) f_l_known fd_l_known ["_law_way"] am spKnown) (g_l_known : mg "_law_known" = some (.ref f_l_known)) (k_l_known : PySem.W.keepIn K (.ref f_l_known) = true) (b_l_known : Binds K fd_l_known ["_law_way"] [])
    (G_l_named : VFn anyA P w K mg base CX0 (k + 3) f_l_named fd_l_named ["_law_turn_here", "_law_names"] am spNamed) (g_l_named : mg "_law_named" = some (.ref f_l_named)) (k_l_named : PySem.W.keepIn K (.ref f_l_named) = true) (b_l_named : Binds K fd_l_named ["_law_turn_here", "_law_names"] [])
    (G_l_group : VFn anyA P w K mg base CX0 (k + 3) f_l_group fd_l_group ["_law_many", "_law_turns"] am (spGroup 4)) (g_l_group : mg "_law_group" = some (.ref f_l_group)) (k_l_group : PySem.W.keepIn K (.ref f_l_group) = true) (b_l_group : Binds K fd_l_group ["_law_many", "_law_turns"] [])
    (G_l_table : VFn anyA P w K mg base CX0 (k + 3) f_l_table fd_l_table ["_law_turns"] am spTable) (g_l_table : mg "_law_table" = some (.ref f_l_table)) (k_l_table : PySem.W.keepIn K (.ref f_l_table) = true) (b_l_table : Binds K fd_l_table ["_law_turns"] [])
    (mz : ∀ x ∈ bn, mg x = none) : VFn gd P w K mg base CX0 (k + 4) f fd ["_law_pen_here", "_law_way"] am (spHse p 10) := by
  refine vfn_of F sc_l_of_turns (fun ds n Q E h => ?_) ⟨_, fun cdv A out s H E F0 H0 hcd hgd hr =>
    (vss_cons (vs_set (i := 2) sc_l_of_turns.nd rfl (.inr rfl) (ve_op op_add lft_I0 ve_int (ve_call G_l_take trivial (hr.mono (by omega)) (by rfl) g_l_take k_l_take b_l_take pass0 (va_cons (ve_var (pv 0)) (va_cons ve_int va_nil)))))
      (vss_cons (vs_set (i := 3) sc_l_of_turns.nd rfl (.inl rfl) (ve_new (vn_lst va_nil)))
      (vss_cons (vs_if (vt_cmp op_lt lft_B0 (ve_var (pv 1)) ve_int (nomark _))
        (vss_cons (vs_asg (ve_call G_l_known trivial (hr.mono (by omega)) (by rfl) g_l_known k_l_known b_l_known pass0 (va_cons (ve_ix ix_list lft_ixL (ve_new (vn_lst (va_cons (ve_call G_l_take trivial (hr.mono (by omega)) (by rfl) g_l_take k_l_take b_l_take pass0 (va_cons (ve_var (pv 0)) (va_cons ve_int va_nil))) (va_cons (ve_op op_add lft_I0 ve_int (ve_call G_l_take trivial (hr.mono (by omega)) (by rfl) g_l_take k_l_take b_l_take pass0 (va_cons (ve_var (pv 0)) (va_cons ve_int va_nil)))) va_nil)))) (ve_intB (by rfl) (mz "int" (by decide)) (ve_cmp op_eq lft_eq (ve_var (pv 1)) ve_int (nomark _))) (fun _ _ => rfl)) va_nil)) (vg_tup (m := 2) rfl (vgs_cons (vg_name (pg_name (i := 2) sc_l_of_turns.nd rfl (.inr rfl))) (vgs_cons (vg_name (pg_name (i := 4) sc_l_of_turns.nd rfl (.inl rfl))) vgs_nil))))
        (vss_cons (vs_set (i := 5) sc_l_of_turns.nd rfl (.inr rfl) (ve_call G_l_turn trivial (hr.mono (by omega)) (by rfl) g_l_turn k_l_turn b_l_turn pass0 (va_cons (ve_var (pv 0)) (va_cons (ve_var (pv 2)) va_nil))))
        (vss_one (vs_setLcF (i := 3) (own := [("_law_turn_here", 6)]) rfl sc_l_of_turns.nd rfl rfl (sw_true rfl rfl rfl (by decide +kernel)) (vi_list (ve_var (pv 4))) (blkOk_by (own := [("_law_turn_here", 6)]) (N := ["_law_pen_here", "_law_way", "_law_many", "_law_turns", "_law_known_here", "_law_names", "_law_turn_here", "_law_k", "_law_group_here"]) (sc := defScope s_l_of_turns) (by decide +kernel)) (tg_name (by simp)) (fun _ _ _ _ _ => (pg_name (i := 6) sc_l_of_turns.nd rfl (.inl rfl))) (fun _ _ _ _ _ _ _ => vts_nil) (fun _ _ _ _ _ _ _ => (ve_call G_l_named trivial (hr.mono (by omega)) (by rfl) g_l_named k_l_named b_l_named pass0 (va_cons (ve_var (pv 6)) (va_cons (ve_var (pv 5)) va_nil))))))))
        (vss_one (vs_setLcF (i := 3) (own := [("_law_k", 7)]) rfl sc_l_of_turns.nd rfl rfl (sw_true rfl rfl rfl (by decide +kernel)) (vi_range1 (by rfl) (mz "range" (by decide)) (vb_cons (ve_op op_add lft_I0 ve_int (ve_call G_l_take trivial (hr.mono (by omega)) (by rfl) g_l_take k_l_take b_l_take pass0 (va_cons (ve_var (pv 0)) (va_cons ve_int va_nil)))) vb_nil)) (blkOk_by (own := [("_law_k", 7)]) (N := ["_law_pen_here", "_law_way", "_law_many", "_law_turns", "_law_known_here", "_law_names", "_law_turn_here", "_law_k", "_law_group_here"]) (sc := defScope s_l_of_turns) (by decide +kernel)) (tg_name (by simp)) (fun _ _ _ _ _ => (pg_name (i := 7) sc_l_of_turns.nd rfl (.inl rfl))) (fun _ _ _ _ _ _ _ => vts_nil) (fun _ _ _ _ _ _ _ => (ve_call G_l_turn trivial (hr.mono (by omega)) (by rfl) g_l_turn k_l_turn b_l_turn pass0 (va_cons (ve_var (pv 0)) (va_cons (ve_var (pv 2)) va_nil)))))))
      (vss_cons (vs_set (i := 8) sc_l_of_turns.nd rfl (.inl rfl) (ve_call G_l_group trivial (hr.mono (by omega)) (by rfl) g_l_group k_l_group b_l_group pass0 (va_cons (ve_var (pv 2)) (va_cons (ve_var (pv 3)) va_nil))))
      (vss_cons (vs_if (vt_and (vt_cmp op_gt lft_B0 (ve_cbR call_len_seq lft_len (by rfl) (mz "len" (by decide)) PySem.boot_len (vb_rd (pv 8) vb_nil)) ve_int (nomark _)) (vt_and1 (vt_val (ve_pget PI (hu_of hr) (pv 0))))).pt
        (vss_one (vs_set (i := 8) sc_l_of_turns.nd rfl (.inl rfl) (ve_call G_l_group trivial (hr.mono (by omega)) (by rfl) g_l_group k_l_group b_l_group pass0 (va_cons (ve_var (pv 2)) (va_cons (ve_new (vn_slL (ve_var (pv 3)) vo_none (vo_some ve_int))) va_nil)))))
        vss_nil)
      (vss_cons (vs_if (vt_cmp op_gt lft_B0 (ve_cbR call_len_seq lft_len (by rfl) (mz "len" (by decide)) PySem.boot_len (vb_rd (pv 8) vb_nil)) ve_int (nomark _))
        (vss_one (vs_pput PI (hu_of hr) (pv 0) rfl))
        vss_nil)
      (vss_one (vs_ret (ve_call G_l_table trivial (hr.mono (by omega)) (by rfl) g_l_table k_l_table b_l_table pass0 (va_cons (ve_var (pv 8)) va_nil)))))))))), fun ds t Q E h => ?_⟩
  · obtain ⟨c, rfl, _⟩ := h
    rfl
  · obtain ⟨c, rfl, hc, q⟩ := h
    have hq : ∀ m gl, IsGr m gl → Q (houD gl.length (tblM gl)) t := fun m gl h => q _ _ (hse_tbl h) h.few
    clear q
    refine vseq_set ⟨_, rfl, 6, rfl, by decide, by decide, fun r1 h1 => ⟨_, _, rfl, rfl, ?_⟩⟩
    change vSeq _ _ _ [.fz (.obj p), .fz (nD c), .fz (nD (2 + r1)), .no, .no, .no, .no, .no, .no] t
    refine vseq_set ⟨Nat.zero_le _, _, rfl, ?_⟩
    refine vcut (fun env t' => t' = t ∧ ∃ m ts s4 s5 s6 s7, 2 ≤ m ∧ m ≤ 7 ∧ ts.length ≤ 4 ∧ (∀ g ∈ ts, Tn m g) ∧ env = [.fz (.obj p), .fz (nD c), .fz (nD m), .fz (.lst (tnsD ts)), s4, s5, s6, s7, .no]) (fun N hN => ?_) (fun env t' hP => ?_)
    · refine ⟨_, rfl, _, _, rfl, rfl, _, rfl, iteB (fun e => ?_) (fun e => ?_)⟩
      · refine ⟨_, rfl, 16, rfl, by decide, by decide, fun r2 h2 => ⟨_, rfl, 5, rfl, by decide, by decide, fun r3 h3 => ⟨_, _, rfl, rfl, ok2, _, rfl, _, rfl, .inl ⟨_, _, rfl, rfl, _, rfl, ?_⟩⟩⟩⟩
        obtain ⟨v, hv, hv2⟩ : ∃ v : Nat, atI [nD r2, .int (16 + (r3 : Int))] (if decide ((c : Int) = 0) = true then 1 else 0) = some (nD v) ∧ v < 21 := by
          split
          · exact ⟨16 + r3, rfl, by omega⟩
          · exact ⟨r2, rfl, by omega⟩
        refine ⟨_, _, nD v, rfl, rfl, hv, v, rfl, hv2, fun m ls h2 h7 h4 hT => ⟨_, rfl, rfl, _, _, rfl, _, _, rfl, rfl, _, rfl, _, rfl, m, rfl, by omega, fun nm hnm => ⟨_, rfl, _, rfl, ?_⟩⟩⟩
        refine lc_any (i := 6) (fun j acc => ∃ rs, acc = tnsD rs ∧ rs.length = j ∧ ∀ g ∈ rs, Tn m g) (.head _) (noOw1 rfl no_ow) (by rw [tnsD_len]; omega) ⟨[], rfl, rfl, fun g hg => by cases hg⟩ (fun j x acc hx hP R hR => ?_) (fun acc hP => ?_)
        · obtain ⟨rs, rfl, hrl, hrT⟩ := hP
          obtain ⟨rfl, hj⟩ := tns_get hx
          refine ⟨_, rfl, _, rfl, m, glA ls j, nm, rfl, by omega, hT _ (glA_mem hj), hnm, fun r hr => hR _ ⟨rs ++ [r], tnsD_app rs r, by rw [List.length_append, hrl]; rfl, fun g hg => ?_⟩⟩
          rcases List.mem_append.mp hg with hg | hg
          · exact hrT g hg
          · rw [List.mem_singleton.mp hg]; exact hr
        · obtain ⟨rs, rfl, hrl, hrT⟩ := hP
          rw [tnsD_len] at hrl
          exact ⟨_, rfl, hN _ _ ⟨rfl, m, rs, _, _, _, _, h2, h7, by omega, hrT, rfl⟩⟩
      · refine ⟨_, rfl, 3, rfl, by decide, by decide, fun r2 h2 => ⟨_, _, rfl, rfl, _, rfl, by omega, ?_⟩⟩
        refine lc_any (i := 7) (fun j acc => ∃ rs, acc = tnsD rs ∧ rs.length = j ∧ ∀ g ∈ rs, Tn (2 + r1) g) (.head _) (noOw1 rfl no_ow) (by rw [rngD_len]; omega) ⟨[], rfl, rfl, fun g hg => by cases hg⟩ (fun j x acc hx hP R hR => ?_) (fun acc hP => ?_)
        · obtain ⟨rs, rfl, hrl, hrT⟩ := hP
          refine ⟨_, rfl, _, rfl, 2 + r1, rfl, by omega, fun r hr => hR _ ⟨rs ++ [r], tnsD_app rs r, by rw [List.length_append, hrl]; rfl, fun g hg => ?_⟩⟩
          rcases List.mem_append.mp hg with hg | hg
          · exact hrT g hg
          · rw [List.mem_singleton.mp hg]; exact hr
        · obtain ⟨rs, rfl, hrl, hrT⟩ := hP
          rw [rngD_len] at hrl
          exact ⟨_, rfl, hN _ _ ⟨rfl, 2 + r1, rs, _, _, _, _, by omega, by omega, by omega, hrT, rfl⟩⟩
    obtain ⟨rfl, m, ts, s4, s5, s6, s7, h2, h7, h4, hT, rfl⟩ := hP
    refine vseq_set ⟨_, rfl, _, rfl, m, ts, rfl, by omega, h7, h4, h4, hT, fun gl hG => ?_⟩
    refine vcut (fun env t2 => t2 = t' ∧ ∃ gl, IsGr m gl ∧ env = [.fz (.obj p), .fz (nD c), .fz (nD m), .fz (.lst (tnsD ts)), s4, s5, s6, s7, .fz (.lst (tnsD gl))]) (fun N hN => ?_) (fun env t2 hP => ?_)
    · refine ⟨⟨_, .inl rfl⟩, _, .inl rfl, _, .inl rfl, rfl, _, _, rfl, rfl, _, rfl, iteB (fun e => ?_) (fun e => ?_)⟩
      · refine ⟨rfl, fun g => ⟨_, rfl, iteB (fun e2 => ?_) (fun e2 => ?_)⟩⟩
        · refine ⟨_, rfl, _, rfl, _, rfl, _, rfl, _, rfl, m, ts.take 1, by rw [cut1], by omega, h7, ?_, ?_, fun g hg => hT g (List.mem_of_mem_take hg), fun gl2 hG2 => hN _ _ ⟨rfl, gl2, hG2, rfl⟩⟩
          · rw [List.length_take]; omega
          · rw [List.length_take]; omega
        · exact hN _ _ ⟨rfl, gl, hG, rfl⟩
      · exact iteB (fun z => by cases z) (fun _ => hN _ _ ⟨rfl, gl, hG, rfl⟩)
    obtain ⟨rfl, gl2, hG2, rfl⟩ := hP
    refine vcut (fun env t3 => t3 = t2 ∧ env = [.fz (.obj p), .fz (nD c), .fz (nD m), .fz (.lst (tnsD ts)), s4, s5, s6, s7, .fz (.lst (tnsD gl2))]) (fun N hN => ?_) (fun env t3 hP => ?_)
    · refine ⟨⟨_, .inl rfl⟩, _, .inl rfl, _, .inl rfl, rfl, _, _, rfl, rfl, _, rfl, iteB (fun e => ?_) (fun e => ?_)⟩
      · exact ⟨rfl, hN _ _ ⟨rfl, rfl⟩⟩
      · exact hN _ _ ⟨rfl, rfl⟩
    obtain ⟨rfl, rfl⟩ := hP
    exact ⟨_, rfl, m, gl2, rfl, h7, hG2, hq m gl2 hG2⟩
end
end K15
namespace K15
end K15
namespace K15
open PySem PySem.Spec PyProof.Rows L2 HM VL
section
variable {P : Program} {w : World} {K : PySem.W.Frag} {mg : Str → Option Value} {base : Heap} {am : Am} {gd : Around → Prop} {k : Nat}
theorem ok_house {p : Addr} {f f_l_take f_l_of_turns f_l_of_pairs f_l_crossed f_l_doubled f_l_renumbered : Addr} {fd fd_l_take fd_l_of_turns fd_l_of_pairs fd_l_crossed fd_l_doubled fd_l_renumbered : FuncData} (F : Fun K "_law_house" "_law_house" s_l_house f fd)
    (G_l_take : VFn anyA P w K mg base CX0 (k + 4) f_l_take fd_l_take ["_law_pen_here", "_law_many"] am (spTake p)) (g_l_take : mg "_law_take" = some (.ref f_l_take)) (k_l_take : PySem.W.keepIn K (.ref f_l_take) = true) (b_l_take : Binds K fd_l_take ["_law_pen_here", "_law_many"] [])
    (G_l_of_turns : VFn anyA P w K mg base CX0 (k + 4) f_l_of_turns fd_l_of_turns ["_law_pen_here", "_law_way"] am (spHse p 10)) (g_l_of_turns : mg "_law_of_turns" = some (.ref f_l_of_turns)) (k_l_of_turns : PySem.W.keepIn K (.ref f_l_of_turns) = true) (b_l_of_turns : Binds K fd_l_of_turns ["_law_pen_here", "_law_way"] [])
    (G_l_of_pairs : VFn anyA P w K mg base CX0 (k + 4) f_l_of_pairs fd_l_of_pairs ["_law_pen_here", "_law_most"] am (spPairs p)) (g_l_of_pairs : mg "_law_of_pairs" = some (.ref f_l_of_pairs)) (k_l_of_pairs : PySem.W.keepIn K (.ref f_l_of_pairs) = true) (b_l_of_pairs : Binds K fd_l_of_pairs ["_law_pen_here", "_law_most"] [])
    (G_l_crossed : VFn anyA P w K mg base CX0 (k + 4) f_l_crossed fd_l_crossed ["_law_half"] am spCr) (g_l_crossed : mg "_law_crossed" = some (.ref f_l_crossed)) (k_l_crossed : PySem.W.keepIn K (.ref f_l_crossed) = true) (b_l_crossed : Binds K fd_l_crossed ["_law_half"] [])
    (G_l_doubled : VFn anyA P w K mg base CX0 (k + 4) f_l_doubled fd_l_doubled ["_law_house_here"] am spDbl) (g_l_doubled : mg "_law_doubled" = some (.ref f_l_doubled)) (k_l_doubled : PySem.W.keepIn K (.ref f_l_doubled) = true) (b_l_doubled : Binds K fd_l_doubled ["_law_house_here"] [])
    (G_l_renumbered : VFn anyA P w K mg base CX0 (k + 4) f_l_renumbered fd_l_renumbered ["_law_pen_here", "_law_house_here"] am (spRen p)) (g_l_renumbered : mg "_law_renumbered" = some (.ref f_l_renumbered)) (k_l_renumbered : PySem.W.keepIn K (.ref f_l_renumbered) = true) (b_l_renumbered : Binds K fd_l_renumbered ["_law_pen_here", "_law_house_here"] [])
    (mz : ∀ x ∈ bn, mg x = none) : VFn gd P w K mg base CX0 (k + 5) f fd ["_law_pen_here"] am (spHouse p) := by
  refine vfn_of F sc_l_house (fun ds n Q E h => ?_) ⟨_, fun cdv A out s H E F0 H0 hcd hgd hr =>
    (vss_cons (vs_set (i := 1) sc_l_house.nd rfl (.inl rfl) (ve_call G_l_take trivial (hr.mono (by omega)) (by rfl) g_l_take k_l_take b_l_take pass0 (va_cons (ve_var (pv 0)) (va_cons ve_int va_nil))))
      (vss_cons (vs_if (vt_cmp op_lt lft_B0 (ve_var (pv 1)) ve_int (nomark _))
        (vss_one (vs_ret (ve_call G_l_of_turns trivial (hr.mono (by omega)) (by rfl) g_l_of_turns k_l_of_turns b_l_of_turns pass0 (va_cons (ve_var (pv 0)) (va_cons (ve_var (pv 1)) va_nil)))))
        vss_nil)
      (vss_cons (vs_if (vt_cmp op_lt lft_B0 (ve_var (pv 1)) ve_int (nomark _))
        (vss_one (vs_ret (ve_call G_l_renumbered trivial (hr.mono (by omega)) (by rfl) g_l_renumbered k_l_renumbered b_l_renumbered pass0 (va_cons (ve_var (pv 0)) (va_cons (ve_call G_l_of_pairs trivial (hr.mono (by omega)) (by rfl) g_l_of_pairs k_l_of_pairs b_l_of_pairs pass0 (va_cons (ve_var (pv 0)) (va_cons ve_int va_nil))) va_nil)))))
        vss_nil)
      (vss_cons (vs_if (vt_cmp op_lt lft_B0 (ve_var (pv 1)) ve_int (nomark _))
        (vss_one (vs_ret (ve_call G_l_renumbered trivial (hr.mono (by omega)) (by rfl) g_l_renumbered k_l_renumbered b_l_renumbered pass0 (va_cons (ve_var (pv 0)) (va_cons (ve_call G_l_crossed trivial (hr.mono (by omega)) (by rfl) g_l_crossed k_l_crossed b_l_crossed pass0 (va_cons (ve_op op_add lft_I0 ve_int (ve_call G_l_take trivial (hr.mono (by omega)) (by rfl) g_l_take k_l_take b_l_take pass0 (va_cons (ve_var (pv 0)) (va_cons ve_int va_nil)))) va_nil)) va_nil)))))
        vss_nil)
      (vss_cons (vs_if (vt_cmp op_eq lft_eq (ve_var (pv 1)) ve_int (nomark _))
        (vss_one (vs_ret (ve_call G_l_renumbered trivial (hr.mono (by omega)) (by rfl) g_l_renumbered k_l_renumbered b_l_renumbered pass0 (va_cons (ve_var (pv 0)) (va_cons (ve_call G_l_doubled trivial (hr.mono (by omega)) (by rfl) g_l_doubled k_l_doubled b_l_doubled pass0 (va_cons (ve_call G_l_of_pairs trivial (hr.mono (by omega)) (by rfl) g_l_of_pairs k_l_of_pairs b_l_of_pairs pass0 (va_cons (ve_var (pv 0)) (va_cons ve_int va_nil))) va_nil)) va_nil)))))
        vss_nil)
      (vss_cons (vs_set (i := 2) sc_l_house.nd rfl (.inl rfl) (ve_new (vn_lst (va_cons (ve_lstK (ka_cons ve_int ka_nil) (by decide)) va_nil))))
      (vss_cons (vs_for PassesOwn.never rfl (vi_range1 (by rfl) (mz "range" (by decide)) (vb_cons (ve_op op_add lft_I0 ve_int (ve_call G_l_take trivial (hr.mono (by omega)) (by rfl) g_l_take k_l_take b_l_take pass0 (va_cons (ve_var (pv 0)) (va_cons ve_int va_nil)))) vb_nil)) (vg_name (pg_name (i := 3) sc_l_house.nd rfl (.inl rfl)))
        (vss_one (vs_set (i := 2) sc_l_house.nd rfl (.inl rfl) (ve_call G_l_doubled trivial (hr.mono (by omega)) (by rfl) g_l_doubled k_l_doubled b_l_doubled pass0 (va_cons (ve_var (pv 2)) va_nil)))))
      (vss_one (vs_ret (ve_call G_l_renumbered trivial (hr.mono (by omega)) (by rfl) g_l_renumbered k_l_renumbered b_l_renumbered pass0 (va_cons (ve_var (pv 0)) (va_cons (ve_var (pv 2)) va_nil)))))))))))), fun ds t Q E h => ?_⟩
  · obtain ⟨rfl, _⟩ := h
    rfl
  · obtain ⟨rfl, q⟩ := h
    refine ⟨_, rfl, 16, rfl, by decide, by decide, fun c hc => ?_⟩
    refine ⟨_, rfl, _, _, rfl, rfl, _, rfl, iteB (fun e => ?_) (fun e => ?_)⟩
    · have : (c : Int) < 10 := of_decide_eq_true e
      exact ⟨_, rfl, _, rfl, c, rfl, by omega, q⟩
    refine ⟨_, rfl, _, _, rfl, rfl, _, rfl, iteB (fun e => ?_) (fun e => ?_)⟩
    · refine ⟨_, rfl, _, rfl, 24, rfl, by decide, by decide, fun s o pw h1 h2 h3 h4 h5 => ⟨_, _, rfl, hse_pairs h1 h3 h5, by omega, fun m' h => q _ _ h (by omega)⟩⟩
    refine ⟨_, rfl, _, _, rfl, rfl, _, rfl, iteB (fun e => ?_) (fun e => ?_)⟩
    · refine ⟨_, rfl, _, rfl, 5, rfl, by decide, by decide, fun r hr => ⟨_, _, rfl, rfl, 2 + r, rfl, by omega, by omega, _, _, rfl, hse_cr (by omega), by omega, fun m' h => q _ _ h (by omega)⟩⟩
    refine ⟨_, rfl, .inl ⟨_, _, rfl, rfl, _, rfl, iteB (fun e => ?_) (fun e => ?_)⟩⟩
    · refine ⟨_, rfl, _, rfl, 12, rfl, by decide, by decide, fun s o pw h1 h2 h3 h4 h5 => ⟨_, _, rfl, by omega, _, _, rfl, hse_dbl (hse_pairs h1 h3 h5), by omega, fun m' h => q _ _ h (by omega)⟩⟩
    refine ⟨(by decide : 1 ≤ 1000), _, rfl, _, rfl, 4, rfl, by decide, by decide, fun r hr => ⟨_, _, rfl, rfl, _, rfl, by omega, fun j env t' => t' = t ∧ ∃ n m s3, Hse n m ∧ n ≤ 2 ^ j ∧ env = [.fz (.obj p), .fz (nD c), .fz (houD n m), s3], ⟨rfl, 1, fun _ _ => 0, .no, hse_one, Nat.le_refl 1, rfl⟩, fun j x env t' hx hP => ?_, fun env t' hP => ?_⟩⟩
    · obtain ⟨rfl, n, m, s3, hH, hn, rfl⟩ := hP
      obtain ⟨rfl, hj⟩ := rngD_get0 hx
      have hj : j < 4 := by
        have : j < ((1 : Int) + (r : Int)).toNat := hj
        omega
      have h8 : 2 ^ j ≤ 2 ^ 3 := Nat.pow_le_pow_right (by decide) (by omega)
      have h9 : (2 : Nat) ^ 3 = 8 := rfl
      exact ⟨_, rfl, n, m, rfl, by omega, rfl, 2 * n, dblM m, _, hse_dbl hH, by rw [Nat.pow_succ]; omega, rfl⟩
    · obtain ⟨rfl, n, m, s3, hH, hn, rfl⟩ := hP
      rw [rngD_len] at hn
      have h8 : 2 ^ ((1 : Int) + (r : Int)).toNat ≤ 2 ^ 4 := Nat.pow_le_pow_right (by decide) (by omega)
      have h9 : (2 : Nat) ^ 4 = 16 := rfl
      have hn : n ≤ 2 ^ ((1 : Int) + (r : Int)).toNat := hn
      exact ⟨_, rfl, _, rfl, n, m, rfl, hH, by omega, fun m' h => q _ _ h (by omega)⟩
end
end K15
namespace K15
open PySem PySem.Spec PyProof.Rows L2 HM VL
section
variable {P : Program} {w : World} {K : PySem.W.Frag} {mg : Str → Option Value} {base : Heap} {am : Am} {gd : Around → Prop} {k : Nat}
theorem ok_ren {p : Addr} {f f_l_take : Addr} {fd fd_l_take : FuncData} (F : Fun K "_law_renumbered" "_law_renumbered" s_l_renumbered f fd) (G_l_take : VFn anyA P w K mg base CX0 (k + 1) f_l_take fd_l_take ["_law_pen_here", "_law_many"] am (spTake p)) (g_l_take : mg "_law_take" = some (.ref f_l_take)) (k_l_take : PySem.W.keepIn K (.ref f_l_take) = true) (b_l_take : Binds K fd_l_take ["_law_pen_here", "_law_many"] [])
    (mz : ∀ x ∈ bn, mg x = none) : VFn gd P w K mg base CX0 (k + 2) f fd ["_law_pen_here", "_law_house_here"] am (spRen p) := by
  refine vfn_ofX F sc_l_renumbered (fun ds n Q E h => ?_) ⟨fun F0 H0 => _, fun cdv A out s H E F0 H0 hcd hgd hr =>
    (xss_out (xss_cons (xs_lift fun H0 => (vs_setN (i := 2) sc_l_renumbered.nd rfl (.inl rfl) (vn_listRg rfl (by rfl) (mz "list" (by decide)) (vrg_2 (by rfl) (mz "range" (by decide)) ve_int (ve_cbR call_len_seq lft_len (by rfl) (mz "len" (by decide)) PySem.boot_len (vb_rd (pv 1) vb_nil))))))
      (xss_cons (xs_lift fun H0 => (vs_setN (i := 3) sc_l_renumbered.nd rfl (.inl rfl) (vn_lst (va_cons ve_int va_nil))))
      (xss_cons (xs_lift fun H0 => (vs_for PassesOwn.never rfl (vi_range2 (by rfl) (mz "range" (by decide)) (vb_cons ve_int (vb_cons (ve_cbR call_len_seq lft_len (by rfl) (mz "len" (by decide)) PySem.boot_len (vb_rd (pv 1) vb_nil)) vb_nil))) (vg_name (pg_name (i := 4) sc_l_renumbered.nd rfl (.inl rfl)))
        (vss_one (vs_expr (ve_m (pe_bm PySem.F.plainAttrs_list PySem.F.slot_list_append PySem.F.type_list_append mt_append (pv 3) (va_cons (ve_m (pe_bm PySem.F.plainAttrs_list PySem.F.slot_list_pop PySem.F.type_list_pop mt_popAt (pv 2) (va_cons (ve_call G_l_take trivial (hr.mono (by omega)) (by rfl) g_l_take k_l_take b_l_take pass0 (va_cons (ve_var (pv 0)) (va_cons (ve_cbR call_len_seq lft_len (by rfl) (mz "len" (by decide)) PySem.boot_len (vb_rd (pv 2) vb_nil)) va_nil))) va_nil)) lft_popAt) va_nil)) lft_append)))))
      (xss_cons (xs_setLcRows (i := 6) (iv := 5) (own := [("_law_row", 5)]) rfl sc_l_renumbered.nd rfl rfl (sw_true rfl rfl rfl (by decide +kernel)) (fun H0 => (vi_list (ve_var (pv 1)))) (blkOk_by (own := [("_law_row", 5)]) (N := ["_law_pen_here", "_law_house_here", "_law_left", "_law_order", "_law_k", "_law_row", "_law_found", "_law_a", "_law_b"]) (sc := defScope s_l_renumbered) (by decide +kernel)) (fun _ _ _ _ _ => (pg_name (i := 5) sc_l_renumbered.nd rfl (.inl rfl))) (fun H0 _ _ _ _ _ => (vn_op op_rep lft_rep (ve_lstK (ka_cons ve_int ka_nil) (by decide)) (ve_cbR call_len_seq lft_len (by rfl) (mz "len" (by decide)) PySem.boot_len (vb_rd (pv 1) vb_nil)))))
      (xss_cons (xs_for PassesOwn.never rfl (fun H0 => (vi_range1 (by rfl) (mz "range" (by decide)) (vb_cons (ve_cbR call_len_seq lft_len (by rfl) (mz "len" (by decide)) PySem.boot_len (vb_rd (pv 1) vb_nil)) vb_nil))) (fun H0 => (vg_name (pg_name (i := 7) sc_l_renumbered.nd rfl (.inl rfl))))
        (xss_one (xs_for PassesOwn.never rfl (fun H0 => (vi_range1 (by rfl) (mz "range" (by decide)) (vb_cons (ve_cbR call_len_seq lft_len (by rfl) (mz "len" (by decide)) PySem.boot_len (vb_rd (pv 1) vb_nil)) vb_nil))) (fun H0 => (vg_name (pg_name (i := 8) sc_l_renumbered.nd rfl (.inl rfl))))
          (xss_one (xs_row (fun H0 => (ve_ixO (pv 6) (ve_ixO (pv 3) (ve_var (pv 7)) (fun _ _ => rfl)) (fun _ _ => rfl))) (fun H0 => (ve_ixO (pv 3) (ve_var (pv 8)) (fun _ _ => rfl))) (fun H0 => (ve_ixO (pv 3) (ve_ix ix_list lft_ixL (ve_ixO (pv 1) (ve_var (pv 7)) (fun _ _ => rfl)) (ve_var (pv 8)) (fun _ _ => rfl)) (fun _ _ => rfl))))))))
      (xss_one (xs_retRows (pv 6))))))))), fun F0 H0 ds t Q E h => ?_⟩
  · obtain ⟨n, m, rfl, _⟩ := h
    rfl
  · obtain ⟨n, m, rfl, hH, hn, q⟩ := h
    have hp := hH.pos
    have hlen : ((List.range n).map fun a => rowD n (m a)).length = n := by rw [List.length_map, List.length_range]
    refine ⟨⟨_, .inl rfl⟩, _, .inl rfl, _, .inl rfl, rfl, _, _, rfl, rfl, ⟨by omega, by rw [hlen]; omega, by omega, by omega⟩, (by decide : 1 ≤ 1000), ⟨_, .inl rfl⟩, _, .inl rfl, _, .inl rfl, rfl, _, _, rfl, ⟨by omega, by omega, by omega, by rw [hlen]; omega⟩, ?_⟩
    rw [hlen, rng1_ns n hp]
    refine ⟨fun j env t' => t' = t ∧ ∃ fs ls s4, env = [.fz (.obj p), .fz (houD n m), .ow (.lst (nsD ls)), .ow (.lst (nsD (0 :: fs))), s4, .no, .no, .no, .no] ∧ (fs ++ ls).Perm ((List.range (n - 1)).map (· + 1)) ∧ fs.length = j, ⟨rfl, [], _, .no, rfl, List.Perm.refl _, rfl⟩, fun j x env t' hx hP => ?_, fun env t' hP => ?_⟩
    · obtain ⟨rfl, fs, ls, s4, rfl, hpm, hfl⟩ := hP
      have hj := (List.getElem?_eq_some_iff.mp hx).1
      rw [nsD_len, List.length_map, List.length_range] at hj
      have hll := hpm.length_eq
      rw [List.length_append, List.length_map, List.length_range] at hll
      refine ⟨⟨_, rfl⟩, ⟨_, rfl⟩, _, rfl, ⟨_, .inr ⟨_, rfl, rfl⟩⟩, _, .inr ⟨_, rfl, rfl⟩, _, .inl rfl, rfl, ls.length, by rw [nsD_len]; rfl, by omega, by omega, fun r hr => ?_⟩
      have hg : ls[r]? = some (tA ls r) := tA_get hr
      refine ⟨_, rfl, r, nD (tA ls r), rfl, by rw [nsD_len]; omega, by unfold nsD; rw [List.getElem?_map, hg]; rfl, _, rfl, _, rfl, by rw [nsD_len, List.length_cons]; omega, rfl, fs ++ [tA ls r], ls.eraseIdx r, .fz x, ?_, perm_pop2 hpm hg, by rw [List.length_append, hfl]; rfl⟩
      rw [show nsD (0 :: (fs ++ [tA ls r])) = nsD (0 :: fs) ++ nsD [tA ls r] by unfold nsD; rw [← List.map_append]; rfl, show (nsD ls).eraseIdx r = nsD (ls.eraseIdx r) by unfold nsD; rw [List.eraseIdx_eq_take_drop_succ, List.eraseIdx_eq_take_drop_succ, List.map_append, List.map_take, List.map_drop]]
      rfl
    · obtain ⟨rfl, fs, ls, s4, rfl, hpm, hfl⟩ := hP
      have hll := hpm.length_eq
      rw [List.length_append, List.length_map, List.length_range, hfl, nsD_len, List.length_map, List.length_range] at hll
      have : ls = [] := List.length_eq_zero_iff.mp (by omega)
      subst this
      rw [List.append_nil] at hpm
      have ho := tn_cons hp hpm
      generalize hoe : (0 :: fs) = o at ho
      have ho0 : tA o 0 = 0 := by rw [← hoe]; rfl
      refine ⟨_, rfl, _, rfl, noOw1 (s := .no) rfl no_ow, by rw [hlen]; omega, List.mem_cons_self, fun _ => List.replicate n 0, fun i x hx R hR => ?_, ?_⟩
      · refine ⟨⟨_, .inl rfl⟩, _, .inl rfl, _, .inl rfl, rfl, [.int 0], n, rfl, by rw [hlen], by omega, by show 1 * n ≤ 1000; omega, ?_⟩
        rw [rep_ints]
        exact hR
      rw [hlen]
      intro A mo
      refine ⟨⟨_, .inl rfl⟩, _, .inl rfl, _, .inl rfl, rfl, _, rfl, ⟨by omega, by rw [hlen]; omega⟩, ?_⟩
      rw [hlen]
      refine ⟨fun a H1 env t2 => t2 = t' ∧ ∃ r s7 s8, H1 = mat H0 n A r ∧ env = [.fz (.obj p), .fz (houD n m), .ow (.lst (nsD [])), .ow (.lst (nsD o)), s4, .no, .ow (.lst (objD n A)), s7, s8] ∧ (∀ i, i < n → (r i).length = n) ∧ ∀ a' b', a' < a → b' < n → (r (tA o a'))[tA o b']? = some ((tA o (m a' b') : Nat) : Int), ⟨rfl, _, .no, .no, rfl, rfl, fun i _ => List.length_replicate, fun a' _ h => absurd h (Nat.not_lt_zero _)⟩, fun a x H1 env t2 hx hP => ?_, fun H1 env t2 hP => ?_⟩
      · obtain ⟨rfl, r, s7, s8, rfl, rfl, hl, hr⟩ := hP
        obtain ⟨rfl, ha⟩ := rngD_get0 hx
        have ha : a < n := by have : a < ((n : Nat) : Int).toNat := ha; omega
        refine ⟨⟨_, .inl rfl⟩, _, .inl rfl, _, .inl rfl, rfl, _, rfl, ⟨by omega, by rw [hlen]; omega⟩, ?_⟩
        rw [hlen]
        refine ⟨fun b H1 env t3 => t3 = t2 ∧ ∃ r s8, H1 = mat H0 n A r ∧ env = [.fz (.obj p), .fz (houD n m), .ow (.lst (nsD [])), .ow (.lst (nsD o)), s4, .no, .ow (.lst (objD n A)), .fz (nD a), s8] ∧ (∀ i, i < n → (r i).length = n) ∧ ∀ a' b', (a' < a ∨ (a' = a ∧ b' < b)) → b' < n → (r (tA o a'))[tA o b']? = some ((tA o (m a' b') : Nat) : Int), ⟨rfl, r, s8, rfl, rfl, hl, fun a' b' h hb => hr a' b' (by omega) hb⟩, fun b x H1 env t3 hx hP => ?_, fun H1 env t3 hP => ?_⟩
        · obtain ⟨rfl, r, s8, rfl, rfl, hl, hr⟩ := hP
          obtain ⟨rfl, hb⟩ := rngD_get0 hx
          have hb : b < n := by have : b < ((n : Nat) : Int).toNat := hb; omega
          have hmab := hH.lt a b ha hb
          have hoa := ho.at_lt ha
          have hob := ho.at_lt hb
          refine ⟨⟨_, .inr ⟨_, rfl, rfl⟩⟩, ⟨_, .inl rfl⟩, _, rfl, _, _, _, .inl rfl, rfl, hou_at ha, _, rfl, _, _, _, rfl, rfl, row_at hb, _, _, _, .inr ⟨_, rfl, rfl⟩, rfl, nsD_tA (by rw [ho.len]; exact hmab), ?_⟩
          refine ⟨⟨_, .inr ⟨_, rfl, rfl⟩⟩, ⟨_, .inr ⟨_, rfl, rfl⟩⟩, _, rfl, _, _, _, .inr ⟨_, rfl, rfl⟩, rfl, nsD_tA (by rw [ho.len]; exact ha), _, _, _, .inr ⟨_, rfl, rfl⟩, rfl, objD_at hoa, ?_⟩
          refine ⟨⟨_, .inr ⟨_, rfl, rfl⟩⟩, _, rfl, _, _, _, .inr ⟨_, rfl, rfl⟩, rfl, nsD_tA (by rw [ho.len]; exact hb), ?_⟩
          refine ⟨H0, n, A, r, tA o a, tA o b, _, rfl, mo, rfl, hoa, rfl, by rw [hl _ hoa]; exact hob, rfl, rfl, _, _, rfl, rfl, fun i hi => ?_, fun a' b' h hb' => ?_⟩
          · by_cases z : i = tA o a
            · rw [if_pos z, List.length_set]; exact hl _ hoa
            · rw [if_neg z]; exact hl i hi
          · by_cases z : a' = a
            · subst z
              rw [if_pos rfl]
              by_cases z2 : b' = b
              · subst z2
                rw [List.getElem?_set_self (by rw [hl _ hoa]; exact hob)]
              · rw [List.getElem?_set_ne fun e => z2 (ho.inj hb' hb e.symm)]
                exact hr a' b' (by omega) hb'
            · have ha' : a' < n := by omega
              rw [if_neg fun e => z (ho.inj ha' ha e)]
              exact hr a' b' (by omega) hb'
        · obtain ⟨rfl, r, s8, rfl, rfl, hl, hr⟩ := hP
          rw [rngD_len] at hr
          exact ⟨rfl, r, _, s8, rfl, rfl, hl, fun a' b' h hb => hr a' b' (by omega) hb⟩
      · obtain ⟨rfl, r, s7, s8, rfl, rfl, hl, hr⟩ := hP
        rw [rngD_len] at hr
        have hr2 : ∀ i j, i < n → j < n → ∃ k : Nat, (r i)[j]? = some (k : Int) := fun i j hi hj => by
          obtain ⟨a, ha, rfl⟩ := ho.onto hi
          obtain ⟨b, hb, rfl⟩ := ho.onto hj
          exact ⟨_, hr a b (by omega) hb⟩
        refine ⟨H0, n, A, r, rfl, mo, rfl, rfl, ?_⟩
        rw [rows_hou hl hr2]
        refine q _ (hse_ren hH ho ho0 fun a b ha hb => ?_)
        show ((r (tA o a)).getD (tA o b) 0).toNat = _
        rw [List.getD_eq_getElem?_getD, hr a b (by omega) hb]
        rfl
end
end K15
namespace K15
open PySem PySem.Spec PyProof.Rows L2 HM VL
abbrev s_l_right : Stmt := topS 20
theorem sc_l_right : FnScope ["_law_pen_here", "_law_house_here", "_law_part_here", "_law_due_here", "_law_found", "_law_by", "_law_goals", "_law_number", "_law_goal"] ["_law_pen_here", "_law_house_here", "_law_part_here"] (defScope s_l_right) := ⟨rfl, rfl, rfl, by decide +kernel, rfl, by decide +kernel, by decide +kernel⟩
abbrev s_l_in_place_right : Stmt := topS 21
theorem sc_l_in_place_right : FnScope ["_law_pen_here", "_law_houses", "_law_here", "_law_ring", "_law_by_two", "_law_house_here", "_law_row", "_law_part_here"] ["_law_pen_here", "_law_houses"] (defScope s_l_in_place_right) := ⟨rfl, rfl, rfl, by decide +kernel, rfl, by decide +kernel, by decide +kernel⟩
abbrev s_law : Stmt := topS 22
theorem sc_law : FnScope ["_law_script", "_law_pen_here", "_law_houses", "_law_turn_here", "_law_house_here", "_law_row", "_law_kept", "_law_k", "_law_parts", "_law_part_here"] ["_law_script"] (defScope s_law) := ⟨rfl, rfl, rfl, by decide +kernel, rfl, by decide +kernel, by decide +kernel⟩
section
variable {P : Program} {w : World} {K : PySem.W.Frag} {mg : Str → Option Value} {base : Heap} {am : Am} {gd : Around → Prop} {k : Nat}
def spSameE : VSp := fun ds t Q _ => ∃ d : Dt, ds = [d, d] ∧ wd 2 d ∧ Q (.bl true) t
theorem sameE_imp : ∀ ds n Q E, spSameE ds n Q E → spSameG 2 ds n Q E := fun ds n Q E ⟨d, e, h, q⟩ => ⟨d, d, e, h, h, fun b hb => by rw [hb.mpr rfl]; exact q⟩
def spRight (p : Addr) : VSp := fun ds t Q _ => ∃ (n : Nat) (m : Nat → Nat → Nat) (L : List Nat), ds = [.obj p, houD n m, .tup (nsD L)] ∧ Hse n m ∧ n ≤ 60 ∧ Sub n m L ∧ Q (.bl true) t
/-- the goals of the first j numbers -/
def gls (m : Nat → Nat → Nat) (L : List Nat) (g j : Nat) : List (Key × Dt) := (lst m L j).map fun b => (.inl ((plc m L b : Nat) : Int), nD (plc m L (m b g)))
theorem valD_in {κ : Type} [DecidableEq κ] {kvs : List (κ × Dt)} {k : κ} {y : Dt} (h : valD kvs k = some y) : (k, y) ∈ kvs := by
  unfold valD at h
  obtain ⟨kv, h1, h2⟩ := Option.map_eq_some_iff.mp h
  have e : kv.1 = k := by simpa using List.find?_some h1
  have hm := List.mem_of_find?_eq_some h1
  rw [← e, ← h2]
  exact hm
theorem valD_out {κ : Type} [DecidableEq κ] {kvs : List (κ × Dt)} {k : κ} (h : valD kvs k = none) : k ∉ kvs.map (·.1) := fun z => by
  have := valD_some (kvs := kvs) (k := k)
  rw [h, decide_eq_true z] at this
  cases this
theorem gls_in {m : Nat → Nat → Nat} {L : List Nat} {g j : Nat} {z : Nat} {y : Dt} (h : ((.inl ((z : Nat) : Int) : Key), y) ∈ gls m L g j) : ∃ b ∈ lst m L j, plc m L b = z ∧ y = nD (plc m L (m b g)) := by
  obtain ⟨b, hb, e⟩ := List.mem_map.mp h
  injection e with e1 e2
  exact ⟨b, hb, Int.ofNat_inj.mp (Sum.inl.inj e1), e2.symm⟩
theorem cls_by {n : Nat} {m : Nat → Nat → Nat} {L : List Nat} (hH : Hse n m) (hS : Sub n m L) {a b g : Nat} (ha : a < n) (hg : g < n) (c : cls m L a b) : cls m L (m a g) (m b g) := by
  obtain ⟨x, hx, e⟩ := c
  exact ⟨x, hx, by rw [← e, hH.as x a g (hS.lt x hx) ha hg]⟩
theorem gls_same {n : Nat} {m : Nat → Nat → Nat} {L : List Nat} (hH : Hse n m) (hS : Sub n m L) {g j : Nat} (hg : g < n) (hj : j < n) {y : Dt} (h : valD (gls m L g j) (.inl ((plc m L j : Nat) : Int)) = some y) : y = nD (plc m L (m j g)) ∧ gls m L g (j + 1) = gls m L g j := by
  obtain ⟨b, hb, e, rfl⟩ := gls_in (valD_in h)
  obtain ⟨hbj, hrb⟩ := lst_mem.mp hb
  have hbn : b < n := Nat.lt_trans hbj hj
  have c := (cls_plc hH hS hbn hj).mp e
  refine ⟨by rw [(cls_plc hH hS (hH.lt b g hbn hg) (hH.lt j g hj hg)).mpr (cls_by hH hS hbn hg c)], ?_⟩
  have hnl : ¬ isL m L j = true := fun z => by
    have z' := of_decide_eq_true z
    have := rp_min (hS.symm hH hbn c)
    omega
  unfold gls
  rw [lst_succ, if_neg hnl, List.append_nil]
theorem gls_new {n : Nat} {m : Nat → Nat → Nat} {L : List Nat} (hH : Hse n m) (hS : Sub n m L) {g j : Nat} (hj : j < n) (h : valD (gls m L g j) (.inl ((plc m L j : Nat) : Int)) = none) : putD (gls m L g j) (.inl ((plc m L j : Nat) : Int)) (nD (plc m L (m j g))) = gls m L g (j + 1) := by
  have hk : (.inl ((plc m L j : Nat) : Int) : Key) ∉ (gls m L g j).map (·.1) := valD_out h
  have hl : isL m L j = true := by
    refine decide_eq_true (Classical.byContradiction fun z => hk ?_)
    have hr : rp m L j < j := Nat.lt_of_le_of_ne (rp_le j L).1 z
    refine List.mem_map.mpr ⟨_, List.mem_map.mpr ⟨rp m L j, lst_mem.mpr ⟨hr, hS.rp_rp hH hj⟩, rfl⟩, ?_⟩
    show (Sum.inl ((plc m L (rp m L j) : Nat) : Int) : Key) = _
    rw [(cls_plc hH hS (hS.rp_lt hH hj) hj).mpr (hS.symm hH hj (hS.rp_cls hH hj))]
  rw [putD_new hk]
  unfold gls
  rw [lst_succ, if_pos hl, List.map_append]
  rfl
/-- the goals of all numbers are all places -/
theorem gls_all {n : Nat} {m : Nat → Nat → Nat} {L : List Nat} (hH : Hse n m) (hS : Sub n m L) {g : Nat} (hg : g < n) : Tn (lst m L n).length ((lst m L n).map fun b => plc m L (m b g)) := by
  have hlt : ∀ b ∈ lst m L n, b < n := fun b hb => (lst_mem.mp hb).1
  refine tn_of (List.length_map _) (fun x hx => ?_) (List.pairwise_map.mpr ((List.Pairwise.imp_of_mem (fun {a b} ha hb hne e => hne ?_) (lst_nodup (m := m) (P := L) n))))
  · obtain ⟨b, hb, rfl⟩ := List.mem_map.mp hx
    have hbg := hH.lt b g (hlt b hb) hg
    exact (List.getElem?_eq_some_iff.mp (lst_place (hS.isL_rp hH hbg) (hS.rp_lt hH hbg))).1
  · have han := hlt a ha
    have hbn := hlt b hb
    obtain ⟨x, hx, ex⟩ := (cls_plc hH hS (hH.lt a g han hg) (hH.lt b g hbn hg)).mp e
    have hxn := hS.lt x hx
    have e2 : m x a = b := hH.rc (hH.lt x a hxn han) hbn hg (by rw [hH.as x a g hxn han hg, ex])
    have e3 := hS.rp_eq hH han ⟨x, hx, e2⟩
    rw [(lst_mem.mp ha).2, (lst_mem.mp hb).2] at e3
    exact e3
theorem wd_two (x y : List Nat) (hx : x.length ≤ 1000) (hy : y.length ≤ 1000) : wd 2 (.tup [.lst (nsD x), .lst (nsD y)]) := by
  have w1 : ∀ l : List Nat, l.length ≤ 1000 → wd 1 (.lst (nsD l)) := fun l h => ⟨by rw [nsD_len]; exact h, fun z hz => by
    obtain ⟨i, _, rfl⟩ := List.mem_map.mp hz
    trivial⟩
  refine ⟨(by decide : 2 ≤ 1000), fun z hz => ?_⟩
  rcases List.mem_cons.mp hz with rfl | hz
  · exact w1 x hx
  · rw [List.mem_singleton.mp hz]
    exact w1 y hy
theorem ok_right {p f f_l_take f_l_due f_shares f_l_same : Addr} {fd fd_l_take fd_l_due fd_shares fd_l_same : FuncData} (F : Fun K "_law_right" "_law_right" s_l_right f fd)
    (G_l_take : VFn anyA P w K mg base CX0 (k + 14) f_l_take fd_l_take ["_law_pen_here", "_law_many"] am (spTake p)) (g_l_take : mg "_law_take" = some (.ref f_l_take)) (k_l_take : PySem.W.keepIn K (.ref f_l_take) = true) (b_l_take : Binds K fd_l_take ["_law_pen_here", "_law_many"] [])
    (G_l_due : VFn anyA P w K mg base CX0 (k + 14) f_l_due fd_l_due ["_law_house_here", "_law_part_here"] am spShares) (g_l_due : mg "_law_due" = some (.ref f_l_due)) (k_l_due : PySem.W.keepIn K (.ref f_l_due) = true) (b_l_due : Binds K fd_l_due ["_law_house_here", "_law_part_here"] [])
    (GP_shares : VFnP anyA P w K mg base CX0 (k + 14) f_shares fd_shares ["house", "part"] am spSharesP) (g_shares : mg "shares" = some (.ref f_shares)) (k_shares : PySem.W.keepIn K (.ref f_shares) = true) (b_shares : Binds K fd_shares ["house", "part"] [])
    (G_l_same : VFn anyA P w K mg base CX0 (k + 14) f_l_same fd_l_same ["_law_found", "_law_due_here"] am spSameE) (g_l_same : mg "_law_same" = some (.ref f_l_same)) (k_l_same : PySem.W.keepIn K (.ref f_l_same) = true) (b_l_same : Binds K fd_l_same ["_law_found", "_law_due_here"] [])
    (mz : ∀ x ∈ bn, mg x = none) : VFn gd P w K mg base CX0 (k + 15) f fd ["_law_pen_here", "_law_house_here", "_law_part_here"] am (spRight p) := by
  refine vfn_ofX F sc_l_right (fun ds n Q E h => ?_) ⟨_, fun cdv A out s H E F0 H0 hcd hgd hr =>
    (xss_drop (xss_cons (xs_liftH fun H0 => (vs_set (i := 3) sc_l_right.nd rfl (.inl rfl) (ve_call G_l_due trivial (hr.mono (by omega)) (by rfl) g_l_due k_l_due b_l_due pass0 (va_cons (ve_var (pv 1)) (va_cons (ve_var (pv 2)) va_nil)))))
      (xss_cons (xs_callP (i := 4) sc_l_right.nd rfl (.inl rfl) GP_shares trivial (hr.mono (by omega)) (by rfl) g_shares k_shares b_shares pass0 (fun H0 => (va_cons (ve_var (pv 1)) (va_cons (ve_var (pv 2)) va_nil))))
      (xss_cons (xs_liftH fun H0 => (vs_if (vt_not (vt_val (ve_callR G_l_same trivial (hr.mono (by omega)) (by rfl) g_l_same k_l_same b_l_same pass0 (vb_rdT (pv 4) (vb_rd (pv 3) vb_nil)))))
        (vss_one (vs_ret ve_bl))
        vss_nil))
      (xss_cons (xs_liftH fun H0 => (vs_set (i := 5) sc_l_right.nd rfl (.inl rfl) (ve_call G_l_take trivial (hr.mono (by omega)) (by rfl) g_l_take k_l_take b_l_take pass0 (va_cons (ve_var (pv 0)) (va_cons (ve_cbR call_len_seq lft_len (by rfl) (mz "len" (by decide)) PySem.boot_len (vb_rd (pv 1) vb_nil)) va_nil)))))
      (xss_cons (xs_liftH fun H0 => (vs_setN (i := 6) sc_l_right.nd rfl (.inl rfl) vn_dnewK))
      (xss_cons (xs_liftH fun H0 => (vs_for PassesOwn.never rfl (vi_range1 (by rfl) (mz "range" (by decide)) (vb_cons (ve_cbR call_len_seq lft_len (by rfl) (mz "len" (by decide)) PySem.boot_len (vb_rd (pv 1) vb_nil)) vb_nil)) (vg_name (pg_name (i := 7) sc_l_right.nd rfl (.inl rfl)))
        (vss_cons (vs_set (i := 8) sc_l_right.nd rfl (.inl rfl) (ve_ixM (ve_ix ix_tup lft_ixT (ve_var (pv 4)) ve_int (fun _ _ => rfl)) (ve_ix ix_list lft_ixL (ve_ixO (pv 1) (ve_var (pv 7)) (fun _ _ => rfl)) (ve_var (pv 5)) (fun _ _ => rfl)) (fun _ _ => rfl)))
        (vss_one (vs_if (vt_cmp op_ne lft_ne (ve_setd (pv 6) (ve_ixM (ve_ix ix_tup lft_ixT (ve_var (pv 4)) ve_int (fun _ _ => rfl)) (ve_var (pv 7)) (fun _ _ => rfl)) (ve_var (pv 8)) ⟨rfl, rfl, rfl, rfl⟩) (ve_var (pv 8)) (nomark _))
          (vss_one (vs_ret ve_bl))
          vss_nil)))))
      (xss_cons (xs_liftH fun H0 => (vs_if (vt_cmpR (op_neD hr.units) lft_neD (ve_new (vn_dsortV rfl (by rfl) (mz "sorted" (by decide)) (pv 6))) (vr_of (ve_new (vn_listRg rfl (by rfl) (mz "list" (by decide)) (vrg_1 (by rfl) (mz "range" (by decide)) (ve_cbR call_len_seq lft_len (by rfl) (mz "len" (by decide)) PySem.boot_len (vb_ob (ve_ix ix_tup lft_ixT (ve_var (pv 4)) ve_int (fun _ _ => rfl)) vb_nil)))))) (nomark _))
        (vss_one (vs_ret ve_bl))
        vss_nil))
      (xss_cons (xs_rm PySem.F.plainAttrs_list PySem.F.slot_list_append PySem.F.type_list_append mt_append lft_append (fun H0 => (ve_ix ix_tup lft_ixT (ve_var (pv 4)) ve_int (fun _ _ => rfl))) (fun H0 => (va_cons ve_int va_nil)))
      (xss_cons (xs_liftH fun H0 => (vs_if (vt_cmp op_ne lft_ne (ve_cbR call_len_seq lft_len (by rfl) (mz "len" (by decide)) PySem.boot_len (vb_ob (ve_ix ix_tup lft_ixT (ve_var (pv 4)) ve_int (fun _ _ => rfl)) vb_nil)) (ve_cbR call_len_seq lft_len (by rfl) (mz "len" (by decide)) PySem.boot_len (vb_rd (pv 1) vb_nil)) (nomark _))
        (vss_one (vs_ret ve_bl))
        vss_nil))
      (xss_cons (xs_rm0 PySem.F.plainAttrs_list PySem.F.slot_list_reverse PySem.F.type_list_reverse mt_reverse lft_reverse (fun H0 => (ve_ix ix_tup lft_ixT (ve_var (pv 4)) ve_int (fun _ _ => rfl))))
      (xss_cons (xs_row (fun H0 => (ve_ix ix_tup lft_ixT (ve_var (pv 4)) ve_int (fun _ _ => rfl))) (fun H0 => ve_int) (fun H0 => (ve_neg ve_int)))
      (xss_one (xs_liftH fun H0 => (vs_ret (ve_call G_l_same trivial (hr.mono (by omega)) (by rfl) g_l_same k_l_same b_l_same pass0 (va_cons (ve_callPR GP_shares trivial (hr.mono (by omega)) (by rfl) g_shares k_shares b_shares pass0 (vb_rd (pv 1) (vb_rd (pv 2) vb_nil))) (va_cons (ve_var (pv 3)) va_nil)))))))))))))))))), fun F0 H0 ds t Q E h => ?_⟩
  · obtain ⟨n, m, L, rfl, _⟩ := h
    rfl
  · obtain ⟨n, m, L, rfl, hH, hn, hS, q⟩ := h
    have hp0 := hH.pos
    have hL : L.length ≤ 60 := Nat.le_trans (few_of_nodup hS.nd hS.lt) hn
    obtain ⟨hl, ehl⟩ : ∃ hl, hl = (List.range n).map fun a => rowD n (m a) := ⟨_, rfl⟩
    have ehou : houD n m = .lst hl := by rw [ehl]; rfl
    have hll : hl.length = n := by rw [ehl, List.length_map, List.length_range]
    have hlA : ∀ g, g < n → atI hl (g : Int) = some (rowD n (m g)) := fun g hg => by rw [ehl]; exact hou_at hg
    rw [ehou]
    have hlB : (lst m L n).length ≤ n := Nat.le_trans (List.length_filter_le _ _) (by rw [List.length_range]; exact Nat.le_refl _)
    obtain ⟨B, eB⟩ : ∃ B, B = lst m L n := ⟨_, rfl⟩
    obtain ⟨C, eC⟩ : ∃ C, C = (List.range n).map (plc m L) := ⟨_, rfl⟩
    have hCl : C.length = n := by rw [eC, List.length_map, List.length_range]
    have hCg : ∀ g, g < n → atI (iL C) (g : Int) = some ((plc m L g : Nat) : Int) := fun g hg => atI_nat (by rw [eC]; unfold iL; rw [List.getElem?_map, List.getElem?_map, List.getElem?_range hg]; rfl)
    have w2 := wd_two B C (by rw [eB]; omega) (by omega)
    refine ⟨_, rfl, _, rfl, n, m, L, by rw [ehou], hH, hn, hS, ?_⟩
    refine ⟨_, rfl, _, rfl, n, m, L, by rw [ehou], hH, hn, hS, fun A mo => ?_⟩
    rw [← eB, ← eC]
    have q0 := matAt (r := two (iL B) (iL C)) mo (i := 0) (by decide)
    have q1 := matAt (r := two (iL B) (iL C)) mo (i := 1) (by decide)
    refine ⟨⟨_, rfl⟩, ⟨_, .inl rfl⟩, _, .inl rfl, iL B, iL C, A 0, A 1, q0, q1, rfl, .tup [.lst (nsD B), .lst (nsD C)], by rw [iL_ns, iL_ns], w2, rfl, _, rfl, iteB (fun e => by cases e) (fun _ => ?_)⟩
    refine ⟨_, rfl, ⟨_, .inl rfl⟩, _, .inl rfl, _, .inl rfl, rfl, n, by rw [hll]; exact rfl, hp0, by omega, fun g hg => ?_⟩
    refine ⟨⟨_, .inl rfl⟩, _, .inl rfl, _, .inl rfl, rfl, _, rfl, ⟨by omega, by rw [hll]; omega⟩, ?_⟩
    rw [hll]
    refine ⟨fun j env t' => t' = t ∧ ∃ s7 s8, env = [.fz (.obj p), .fz (.lst hl), .fz (.tup (nsD L)), .fz (.tup [.lst (nsD B), .lst (nsD C)]), .fz (.tup [.obj (A 0), .obj (A 1)]), .fz (nD g), .ow (.dK (gls m L g j)), s7, s8], ⟨rfl, .no, .no, rfl⟩, fun j x env t' hx hP => ?_, fun env t' hP => ?_⟩
    · obtain ⟨rfl, s7, s8, rfl⟩ := hP
      obtain ⟨rfl, hj⟩ := rngD_get0 hx
      have hj : j < n := by have : j < ((n : Nat) : Int).toNat := hj; omega
      have hjg := hH.lt j g hj hg
      have hlj : (lst m L j).length ≤ j := Nat.le_trans (List.length_filter_le _ _) (by rw [List.length_range]; exact Nat.le_refl _)
      refine ⟨_, rfl, _, _, _, rfl, rfl, rfl, ⟨_, .inl rfl⟩, _, rfl, _, _, _, .inl rfl, rfl, hlA j hj, _, rfl, _, _, _, rfl, rfl, row_at hg, 1, _, _, _, _, q1, rfl, rfl, hCg _ hjg, ?_⟩
      refine ⟨⟨_, rfl⟩, _, rfl, _, _, _, rfl, rfl, rfl, _, rfl, 1, _, _, _, _, q1, rfl, rfl, hCg j hj, _, rfl, gls m L g j, .inl ((plc m L j : Nat) : Int), rfl, rfl, by unfold gls; rw [List.length_map]; omega, fun y hy => ?_, fun hy => ⟨rfl, ?_⟩⟩
      · obtain ⟨rfl, e⟩ := gls_same hH hS hg hj hy
        refine ⟨_, rfl, .inl ⟨_, _, rfl, rfl, _, rfl, iteB (fun e => ?_) (fun _ => ⟨rfl, .fz (nD j), .fz (nD (plc m L (m j g))), ?_⟩)⟩⟩
        · rw [decide_eq_true rfl] at e; cases e
        · rw [e]; rfl
      · refine ⟨_, rfl, .inl ⟨_, _, rfl, rfl, _, rfl, iteB (fun e => ?_) (fun _ => ⟨rfl, .fz (nD j), .fz (nD (plc m L (m j g))), ?_⟩)⟩⟩
        · rw [decide_eq_true rfl] at e; cases e
        · rw [← gls_new hH hS hj hy]
          rfl
    · obtain ⟨rfl, s7, s8, rfl⟩ := hP
      rw [rngD_len, show ((n : Nat) : Int).toNat = n by omega]
      have hT := gls_all hH hS hg
      refine ⟨gls m L g n, iL (B.map fun b => plc m L (m b g)), rfl, by rw [eB]; unfold gls iL; rw [List.map_map, List.map_map, List.map_map]; rfl, by unfold iL; rw [List.length_map, List.length_map, eB]; omega, fun ns hp up => ⟨_, rfl, ?_⟩⟩
      obtain ⟨l, el, hlp, hlu⟩ := sorted_ns (L := B.map fun b => plc m L (m b g)) (by rw [eB]; exact hT.nd) hp up
      have e1 : l = List.range B.length := rising_eq hlu List.pairwise_lt_range fun x => by
        rw [hlp.mem_iff, List.mem_range, eB]
        exact ⟨fun h => hT.lt h, fun h => hT.all h⟩
      rw [el, e1]
      have hR : rngD 0 (((((two (iL B) (iL C) 0).map Dt.int).length : Nat) : Int) - 0).toNat = nsD (List.range B.length) := by
        rw [show ((two (iL B) (iL C) 0).map Dt.int).length = B.length by unfold two iL; rw [if_pos rfl, List.length_map, List.length_map], Int.sub_zero]
        exact rng_ns _
      refine ⟨_, rfl, _, _, _, rfl, rfl, rfl, 0, _, _, q0, rfl, _, .inl rfl, rfl, _, rfl, ⟨by decide, ?_, by decide, by omega⟩, _, rfl, dNeD_pl (pl_ns _) ?_ (dep_ns _) ?_ fun b hb => ⟨rfl, b, rfl, iteB (fun e => ?_) (fun _ => ?_)⟩⟩
      · have : ((iL B).map Dt.int).length = B.length := by unfold iL; rw [List.length_map, List.length_map]
        show (((((two (iL B) (iL C) 0).map Dt.int).length : Nat)) : Int) ≤ 1000000
        have e5 : ((two (iL B) (iL C) 0).map Dt.int).length = B.length := this
        rw [e5, eB]; omega
      · rw [hR]; exact pl_ns _
      · rw [hR]; exact dep_ns _
      · exact absurd rfl (by
          have h1 := hb.mp e
          rw [hR] at h1
          exact h1)
      · refine ⟨_, rfl, _, _, _, rfl, rfl, rfl, ⟨0, _, _, q0, rfl⟩, H0, 2, A, _, 0, rfl, mo, rfl, by decide, _, rfl, ?_, iL B ++ [0], ?_, ?_⟩
        · show ((iL B).map Dt.int).length ≤ 1000
          unfold iL; rw [List.length_map, List.length_map, eB]; omega
        · show (iL B).map Dt.int ++ [.int 0] = _
          rw [List.map_append]; rfl
        have q1' := matAt (r := fun j => if j = 0 then iL B ++ [0] else two (iL B) (iL C) j) mo (i := 1) (by decide)
        refine ⟨_, rfl, _, _, _, rfl, rfl, rfl, 1, _, _, q1', rfl, _, .inl rfl, rfl, ⟨_, .inl rfl⟩, _, .inl rfl, _, .inl rfl, rfl, .inl ⟨_, _, rfl, rfl, _, rfl, iteB (fun e => ?_) (fun _ => ?_)⟩⟩
        · exfalso
          have e5 : ((iL C).map Dt.int).length = n := by unfold iL; rw [List.length_map, List.length_map, hCl]
          have e6 : (!decide ((((iL C).map Dt.int).length : Int) = (hl.length : Int))) = true := e
          rw [e5, hll, decide_eq_true rfl] at e6
          cases e6
        refine ⟨_, rfl, _, _, _, rfl, rfl, rfl, ⟨1, _, _, q1', rfl⟩, H0, 2, A, _, 1, rfl, mo, rfl, by decide, rfl, (iL C).reverse, (List.map_reverse ..).symm, ?_⟩
        refine ⟨_, rfl, _, rfl, _, _, _, rfl, rfl, rfl, H0, 2, A, _, 1, 0, -1, rfl, mo, rfl, by decide, rfl, ?_, rfl, ?_⟩
        · show 0 < ((iL C).reverse).length
          unfold iL; rw [List.length_reverse, List.length_map, hCl]; exact hp0
        exact ⟨⟨_, .inl rfl⟩, ⟨_, .inl rfl⟩, _, .inl rfl, _, .inl rfl, n, m, L, by rw [ehou], hH, hn, hS, _, rfl, .tup [.lst (nsD B), .lst (nsD C)], by rw [iL_ns, iL_ns, ← eB, ← eC], w2, mo.up, q⟩
theorem get_range (hl : List Dt) : (List.range hl.length).map (fun j => (hl[j]?).getD .non) = hl := by
  refine List.ext_getElem? fun j => ?_
  rw [List.getElem?_map]
  by_cases hj : j < hl.length
  · rw [List.getElem?_range hj]
    show some ((hl[j]?).getD .non) = _
    rw [List.getElem?_eq_getElem hj]
    rfl
  · rw [List.getElem?_eq_none (by rw [List.length_range]; omega), List.getElem?_eq_none (by omega)]
    rfl
def IsHou (h : Dt) : Prop := ∃ (n : Nat) (m : Nat → Nat → Nat), h = houD n m ∧ Hse n m ∧ n ≤ 60
def spInPl (p : Addr) : VSp := fun ds t Q _ => ∃ hs : List Dt, ds = [.obj p, .lst hs] ∧ hs.length ≤ 2 ∧ (∀ h ∈ hs, IsHou h) ∧ Q (.bl true) t
theorem isHou_ring : IsHou (.lst [.lst [.int 0, .int 1, .int 2], .lst [.int 1, .int 2, .int 0], .lst [.int 2, .int 0, .int 1]]) := ⟨3 * 1, prM 3 1 fun _ => 1, rfl, hse_pairs (by decide) (by decide) pws_1, by decide⟩
theorem isHou_two : IsHou (.lst [.lst [.int 0, .int 1, .int 2, .int 3], .lst [.int 1, .int 0, .int 3, .int 2], .lst [.int 2, .int 3, .int 0, .int 1], .lst [.int 3, .int 2, .int 1, .int 0]]) := ⟨2 * (2 * 1), dblM (dblM fun _ _ => 0), rfl, hse_dbl (hse_dbl hse_one), by decide⟩
theorem ok_inpl {p f f_l_part f_l_due f_shares f_l_same : Addr} {fd fd_l_part fd_l_due fd_shares fd_l_same : FuncData} (F : Fun K "_law_in_place_right" "_law_in_place_right" s_l_in_place_right f fd)
    (G_l_part : VFn anyA P w K mg base CX0 (k + 14) f_l_part fd_l_part ["_law_pen_here", "_law_house_here"] am (spLPart p)) (g_l_part : mg "_law_part" = some (.ref f_l_part)) (k_l_part : PySem.W.keepIn K (.ref f_l_part) = true) (b_l_part : Binds K fd_l_part ["_law_pen_here", "_law_house_here"] [])
    (G_l_due : VFn anyA P w K mg base CX0 (k + 14) f_l_due fd_l_due ["_law_house_here", "_law_part_here"] am spShares) (g_l_due : mg "_law_due" = some (.ref f_l_due)) (k_l_due : PySem.W.keepIn K (.ref f_l_due) = true) (b_l_due : Binds K fd_l_due ["_law_house_here", "_law_part_here"] [])
    (GP_shares : VFnP anyA P w K mg base CX0 (k + 14) f_shares fd_shares ["house", "part"] am spSharesP) (g_shares : mg "shares" = some (.ref f_shares)) (k_shares : PySem.W.keepIn K (.ref f_shares) = true) (b_shares : Binds K fd_shares ["house", "part"] [])
    (G_l_same : VFn anyA P w K mg base CX0 (k + 14) f_l_same fd_l_same ["_law_found", "_law_due_here"] am spSameE) (g_l_same : mg "_law_same" = some (.ref f_l_same)) (k_l_same : PySem.W.keepIn K (.ref f_l_same) = true) (b_l_same : Binds K fd_l_same ["_law_found", "_law_due_here"] [])
    (mz : ∀ x ∈ bn, mg x = none) : VFn gd P w K mg base CX0 (k + 15) f fd ["_law_pen_here", "_law_houses"] am (spInPl p) := by
  refine vfn_of F sc_l_in_place_right (fun ds n Q E h => ?_) ⟨_, fun cdv A out s H E F0 H0 hcd hgd hr =>
    (vss_cons (vs_setN (i := 2) sc_l_in_place_right.nd rfl (.inl rfl) (vn_lst va_nil))
      (vss_cons (vs_set (i := 3) sc_l_in_place_right.nd rfl (.inl rfl) (ve_new (vn_lst (va_cons (ve_lstK (ka_cons ve_int (ka_cons ve_int (ka_cons ve_int ka_nil))) (by decide)) (va_cons (ve_lstK (ka_cons ve_int (ka_cons ve_int (ka_cons ve_int ka_nil))) (by decide)) (va_cons (ve_lstK (ka_cons ve_int (ka_cons ve_int (ka_cons ve_int ka_nil))) (by decide)) va_nil))))))
      (vss_cons (vs_set (i := 4) sc_l_in_place_right.nd rfl (.inl rfl) (ve_new (vn_lst (va_cons (ve_lstK (ka_cons ve_int (ka_cons ve_int (ka_cons ve_int (ka_cons ve_int ka_nil)))) (by decide)) (va_cons (ve_lstK (ka_cons ve_int (ka_cons ve_int (ka_cons ve_int (ka_cons ve_int ka_nil)))) (by decide)) (va_cons (ve_lstK (ka_cons ve_int (ka_cons ve_int (ka_cons ve_int (ka_cons ve_int ka_nil)))) (by decide)) (va_cons (ve_lstK (ka_cons ve_int (ka_cons ve_int (ka_cons ve_int (ka_cons ve_int ka_nil)))) (by decide)) va_nil)))))))
      (vss_cons (vs_for PassesOwn.never rfl (vi_list (ve_new (vn_op op_cat lft_cat (ve_new (vn_op op_cat lft_cat (ve_new (vn_op op_cat lft_cat (ve_var (pv 1)) (ve_new (vn_lst (va_cons (ve_var (pv 3)) (va_cons (ve_var (pv 4)) va_nil)))))) (ve_new (vn_slL (ve_var (pv 1)) vo_none (vo_some ve_int))))) (ve_new (vn_lst (va_cons (ve_var (pv 3)) va_nil)))))) (vg_name (pg_name (i := 5) sc_l_in_place_right.nd rfl (.inl rfl)))
        (vss_cons (vs_expr (ve_m0 (pe_bm0 PySem.F.plainAttrs_list PySem.F.slot_list_clear PySem.F.type_list_clear mt_clear (pv 2)) lft_clear))
        (vss_cons (vs_expr (ve_m (pe_bm PySem.F.plainAttrs_list PySem.F.slot_list_extend PySem.F.type_list_extend mt_extend (pv 2) (va_cons (ve_new (vn_lc (own := [("_law_row", 6)]) rfl sc_l_in_place_right.nd (vi_list (ve_var (pv 5))) (blkOk_by (own := [("_law_row", 6)]) (N := ["_law_pen_here", "_law_houses", "_law_here", "_law_ring", "_law_by_two", "_law_house_here", "_law_row", "_law_part_here"]) (sc := defScope s_l_in_place_right) (by decide +kernel)) (tg_name (by simp)) (fun _ _ _ _ _ => (pg_name (i := 6) sc_l_in_place_right.nd rfl (.inl rfl))) (fun _ _ _ _ _ _ _ => vts_nil) (fun _ _ _ _ _ _ _ => (ve_new (vn_tyR call_list_of lft_listOf (by rfl) (mz "list" (by decide)) (by decide +kernel) (vb_rd (pv 6) vb_nil)))))) va_nil)) lft_extend))
        (vss_cons (vs_set (i := 7) sc_l_in_place_right.nd rfl (.inl rfl) (ve_call G_l_part trivial (hr.mono (by omega)) (by rfl) g_l_part k_l_part b_l_part pass0 (va_cons (ve_var (pv 0)) (va_cons (ve_var (pv 5)) va_nil))))
        (vss_one (vs_if (vt_not (vt_val (ve_call G_l_same trivial (hr.mono (by omega)) (by rfl) g_l_same k_l_same b_l_same pass0 (va_cons (ve_callPR GP_shares trivial (hr.mono (by omega)) (by rfl) g_shares k_shares b_shares pass0 (vb_rd (pv 2) (vb_rd (pv 7) vb_nil))) (va_cons (ve_call G_l_due trivial (hr.mono (by omega)) (by rfl) g_l_due k_l_due b_l_due pass0 (va_cons (ve_var (pv 5)) (va_cons (ve_var (pv 7)) va_nil))) va_nil)))))
          (vss_one (vs_ret ve_bl))
          vss_nil))))))
      (vss_one (vs_ret ve_bl)))))), fun ds t Q E h => ?_⟩
  · obtain ⟨hs, rfl, _⟩ := h
    rfl
  · obtain ⟨hs, rfl, h2, hh, q⟩ := h
    refine ⟨Nat.zero_le _, ?_⟩
    refine ⟨(by decide : 3 ≤ 1000), _, rfl, ?_⟩
    refine ⟨(by decide : 4 ≤ 1000), _, rfl, ?_⟩
    obtain ⟨Rg, eRg⟩ : ∃ R : Dt, R = .lst [.lst [.int 0, .int 1, .int 2], .lst [.int 1, .int 2, .int 0], .lst [.int 2, .int 0, .int 1]] := ⟨_, rfl⟩
    obtain ⟨B2, eB2⟩ : ∃ R : Dt, R = .lst [.lst [.int 0, .int 1, .int 2, .int 3], .lst [.int 1, .int 0, .int 3, .int 2], .lst [.int 2, .int 3, .int 0, .int 1], .lst [.int 3, .int 2, .int 1, .int 0]] := ⟨_, rfl⟩
    have hR : IsHou Rg := by rw [eRg]; exact isHou_ring
    have hB : IsHou B2 := by rw [eB2]; exact isHou_two
    rw [← eRg, ← eB2]
    have hcl : (VL.cutD hs none (some 1)).length ≤ 2 := by
      unfold VL.cutD
      rw [List.length_take, List.length_drop]
      omega
    refine ⟨_, rfl, _, rfl, _, rfl, (by decide : 2 ≤ 1000), _, rfl, _, _, rfl, rfl, (show hs.length + 2 ≤ 1000 by omega), _, rfl, _, rfl, _, rfl, _, rfl, _, rfl, _, _, rfl, rfl, (by rw [List.length_append]; show hs.length + 2 + _ ≤ 1000; omega), _, rfl, _, rfl, (by decide : 1 ≤ 1000), _, rfl, _, _, rfl, rfl, (by rw [List.length_append, List.length_append]; show hs.length + 2 + _ + 1 ≤ 1000; omega), _, rfl, _, rfl, ?_⟩
    have hall : ∀ h ∈ hs ++ [Rg, B2] ++ VL.cutD hs none (some 1) ++ [Rg], IsHou h := fun h hm => by
      rcases List.mem_append.mp hm with hm | hm
      · rcases List.mem_append.mp hm with hm | hm
        · rcases List.mem_append.mp hm with hm | hm
          · exact hh h hm
          · rcases List.mem_cons.mp hm with rfl | hm
            · exact hR
            · rw [List.mem_singleton.mp hm]; exact hB
        · exact hh h (List.mem_of_mem_drop (List.mem_of_mem_take hm))
      · rw [List.mem_singleton.mp hm]; exact hR
    refine ⟨fun j env t' => t' = t ∧ ∃ (hd : List Dt) (s5 s7 : Sl), env = [.fz (.obj p), .fz (.lst hs), .ow (.lst hd), .fz Rg, .fz B2, s5, .no, s7], ⟨rfl, [], .no, .no, rfl⟩, fun j x env t' hx hP => ?_, fun env t' hP => ?_⟩
    · obtain ⟨rfl, hd, s5, s7, rfl⟩ := hP
      obtain ⟨n, m, rfl, hH, hn⟩ := hall x (List.mem_of_getElem? hx)
      obtain ⟨hl, ehl⟩ : ∃ hl, hl = (List.range n).map fun a => rowD n (m a) := ⟨_, rfl⟩
      have ehou : houD n m = .lst hl := by rw [ehl]; rfl
      have hll : hl.length = n := by rw [ehl, List.length_map, List.length_range]
      rw [ehou]
      refine ⟨⟨_, rfl⟩, _, rfl, rfl, ?_⟩
      refine ⟨⟨_, rfl⟩, _, rfl, _, rfl, lc_map (i := 6) (fun j => (hl[j]?).getD .non) (.head _) (noOw1 rfl (by intro k z; cases z)) (by rw [hll]; omega) (fun j x hx R hR => ?_) ?_⟩
      · have hx2 := hx
        rw [ehl, List.getElem?_map] at hx2
        obtain ⟨c, hc, rfl⟩ := Option.map_eq_some_iff.mp hx2
        refine ⟨⟨_, .inl rfl⟩, _, .inl rfl, _, .inl rfl, flats_ns _, _, rfl, ?_⟩
        show R (rowD n (m c)) _ _
        have : (hl[j]?).getD .non = rowD n (m c) := by rw [hx]; rfl
        rw [this] at hR
        exact hR
      rw [get_range hl]
      refine ⟨_, rfl, _, rfl, _, rfl, (by show 0 + hl.length ≤ 1000; omega), ?_⟩
      refine ⟨_, rfl, _, rfl, n, m, by rw [ehou], hH, hn, fun L hL => ?_⟩
      have hL60 : L.length ≤ 60 := Nat.le_trans (few_of_nodup hL.nd hL.lt) hn
      have hlB : (lst m L n).length ≤ n := Nat.le_trans (List.length_filter_le _ _) (by rw [List.length_range]; exact Nat.le_refl _)
      refine ⟨⟨_, .inr ⟨_, rfl, rfl⟩⟩, ⟨_, .inl rfl⟩, _, .inl rfl, _, .inr ⟨_, rfl, rfl⟩, n, m, L, by rw [ehou]; rfl, hH, hn, hL, _, rfl, _, rfl, n, m, L, by rw [ehou], hH, hn, hL, .tup [.lst (nsD (lst m L n)), .lst (nsD ((List.range n).map (plc m L)))], by rw [iL_ns, iL_ns], wd_two _ _ (by omega) (by rw [List.length_map, List.length_range]; omega), _, rfl, iteB (fun e => by cases e) (fun _ => ⟨rfl, _, _, _, rfl⟩)⟩
    · obtain ⟨rfl, hd, s5, s7, rfl⟩ := hP
      exact q
theorem sub_nought {n : Nat} {m : Nat → Nat → Nat} (h : Hse n m) : Sub n m [0] := ⟨by simp, fun x hx => by rw [List.mem_singleton.mp hx]; exact h.pos, by simp, fun x hx y hy => by rw [List.mem_singleton.mp hx, List.mem_singleton.mp hy, h.zl 0 h.pos]; simp⟩
end
section
variable {P : Program} {w : World} {K : PySem.W.Frag} {mg : Str → Option Value} {base : Heap} {gd : Around → Prop} {k : Nat}
theorem ok_law {f f_l_pen f_l_house f_l_part f_l_right f_l_in_place_right : Addr} {fd fd_l_pen fd_l_house fd_l_part fd_l_right fd_l_in_place_right : FuncData} {Ps : List Addr} (F : Fun K "law" "law" s_law f fd)
    (GP : PFn anyA P w K mg base CX0 (k + 15) f_l_pen fd_l_pen ["_law_script"] spPen) (gP : mg "_law_pen" = some (.ref f_l_pen)) (kP : PySem.W.keepIn K (.ref f_l_pen) = true) (bP : Binds K fd_l_pen ["_law_script"] [])
    (G_l_house : ∀ {am p}, PenIn K am p → VFn anyA P w K mg base CX0 (k + 15) f_l_house fd_l_house ["_law_pen_here"] am (spHouse p)) (g_l_house : mg "_law_house" = some (.ref f_l_house)) (k_l_house : PySem.W.keepIn K (.ref f_l_house) = true) (b_l_house : Binds K fd_l_house ["_law_pen_here"] [])
    (G_l_part : ∀ {am p}, PenIn K am p → VFn anyA P w K mg base CX0 (k + 15) f_l_part fd_l_part ["_law_pen_here", "_law_house_here"] am (spLPart p)) (g_l_part : mg "_law_part" = some (.ref f_l_part)) (k_l_part : PySem.W.keepIn K (.ref f_l_part) = true) (b_l_part : Binds K fd_l_part ["_law_pen_here", "_law_house_here"] [])
    (G_l_right : ∀ {am p}, PenIn K am p → VFn anyA P w K mg base CX0 (k + 15) f_l_right fd_l_right ["_law_pen_here", "_law_house_here", "_law_part_here"] am (spRight p)) (g_l_right : mg "_law_right" = some (.ref f_l_right)) (k_l_right : PySem.W.keepIn K (.ref f_l_right) = true) (b_l_right : Binds K fd_l_right ["_law_pen_here", "_law_house_here", "_law_part_here"] [])
    (G_l_in_place_right : ∀ {am p}, PenIn K am p → VFn anyA P w K mg base CX0 (k + 15) f_l_in_place_right fd_l_in_place_right ["_law_pen_here", "_law_houses"] am (spInPl p)) (g_l_in_place_right : mg "_law_in_place_right" = some (.ref f_l_in_place_right)) (k_l_in_place_right : PySem.W.keepIn K (.ref f_l_in_place_right) = true) (b_l_in_place_right : Binds K fd_l_in_place_right ["_law_pen_here", "_law_houses"] [])
    (mz : ∀ x ∈ bn, mg x = none) : PFn gd P w K mg base CX0 (k + 16) f fd ["_law_script"] (spLaw K) := by
  refine pfn_of F sc_law (fun vs H Q E h => ?_) (fun cdv A outer s H vs Q E hcd hgd hr h => ?_)
  · obtain ⟨a, ns, rfl, _⟩ := h
    rfl
  · obtain ⟨a, ns, rfl, hS, hlen, q⟩ := h
    refine ⟨_, pss_cons (ps_set (i := 1) sc_law.nd rfl (.inr rfl) (pe_callP GP trivial hr (by rfl) gP kP bP pass0 (pa_cons (pv 0) pa_nil))) (pss_pen (K := K) fun am p PI F0 H0 =>
      (vss_cons (vs_setN (i := 2) sc_law.nd rfl (.inl rfl) (vn_lst va_nil))
        (vss_cons (vs_for PassesOwn.never rfl (vi_range1 (by rfl) (mz "range" (by decide)) (vb_cons ve_int vb_nil)) (vg_name (pg_name (i := 3) sc_law.nd rfl (.inl rfl)))
          (vss_cons (vs_set (i := 4) sc_law.nd rfl (.inr rfl) (ve_call (G_l_house PI) trivial (hr.mono (by omega)) (by rfl) g_l_house k_l_house b_l_house pass0 (va_cons (ve_var (pv 1)) va_nil)))
          (vss_cons (vs_expr (ve_m (pe_bm PySem.F.plainAttrs_list PySem.F.slot_list_append PySem.F.type_list_append mt_append (pv 2) (va_cons (ve_var (pv 4)) va_nil)) lft_append))
          (vss_cons (vs_setLcF (i := 6) (own := [("_law_row", 5)]) rfl sc_law.nd rfl rfl (sw_true rfl rfl rfl (by decide +kernel)) (vi_list (ve_var (pv 4))) (blkOk_by (own := [("_law_row", 5)]) (N := ["_law_script", "_law_pen_here", "_law_houses", "_law_turn_here", "_law_house_here", "_law_row", "_law_kept", "_law_k", "_law_parts", "_law_part_here"]) (sc := defScope s_law) (by decide +kernel)) (tg_name (by simp)) (fun _ _ _ _ _ => (pg_name (i := 5) sc_law.nd rfl (.inl rfl))) (fun _ _ _ _ _ _ _ => vts_nil) (fun _ _ _ _ _ _ _ => (ve_new (vn_tyR call_list_of lft_listOf (by rfl) (mz "list" (by decide)) (by decide +kernel) (vb_rd (pv 5) vb_nil)))))
          (vss_cons (vs_set (i := 8) sc_law.nd rfl (.inl rfl) (ve_new (vn_op op_cat lft_cat (ve_new (vn_lc (own := [("_law_k", 7)]) rfl sc_law.nd (vi_range1 (by rfl) (mz "range" (by decide)) (vb_cons ve_int vb_nil)) (blkOk_by (own := [("_law_k", 7)]) (N := ["_law_script", "_law_pen_here", "_law_houses", "_law_turn_here", "_law_house_here", "_law_row", "_law_kept", "_law_k", "_law_parts", "_law_part_here"]) (sc := defScope s_law) (by decide +kernel)) (tg_name (by simp)) (fun _ _ _ _ _ => (pg_name (i := 7) sc_law.nd rfl (.inl rfl))) (fun _ _ _ _ _ _ _ => vts_nil) (fun _ _ _ _ _ _ _ => (ve_call (G_l_part PI) trivial (hr.mono (by omega)) (by rfl) g_l_part k_l_part b_l_part pass0 (va_cons (ve_var (pv 1)) (va_cons (ve_var (pv 4)) va_nil)))))) (ve_new (vn_lst (va_cons (ve_tupK (ka_cons ve_int ka_nil) (by decide)) (va_cons (ve_tupRg rfl (by rfl) (mz "tuple" (by decide)) (vrg_1 (by rfl) (mz "range" (by decide)) (ve_cbR call_len_seq lft_len (by rfl) (mz "len" (by decide)) PySem.boot_len (vb_rd (pv 4) vb_nil)))) va_nil)))))))
          (vss_one (vs_for PassesOwn.never rfl (vi_list (ve_var (pv 8))) (vg_name (pg_name (i := 9) sc_law.nd rfl (.inl rfl)))
            (vss_one (vs_if (vt_or (vt_not (vt_val (ve_call (G_l_right PI) trivial (hr.mono (by omega)) (by rfl) g_l_right k_l_right b_l_right pass0 (va_cons (ve_var (pv 1)) (va_cons (ve_var (pv 4)) (va_cons (ve_var (pv 9)) va_nil)))))) (vt_or1 (vt_cmpN (op_neD hr.units) lft_neD (pv 4) (vr_var (pv 6)) (nomark _)))).pt
              (vss_one (vs_ret ve_bl))
              vss_nil)))))))))
        (vss_one (vs_ret (ve_callR (G_l_in_place_right PI) trivial (hr.mono (by omega)) (by rfl) g_l_in_place_right k_l_in_place_right b_l_in_place_right pass0 (vb_cons (ve_var (pv 1)) (vb_rd (pv 2) vb_nil)))))))), ?_⟩
    refine ⟨_, rfl, a, rfl, fun p np => pen_start rfl hS hlen np q ?_⟩
    refine ⟨Nat.zero_le _, ?_⟩
    refine ⟨2, rfl, ⟨by decide, by decide⟩, fun i env t' => ∃ (hs : List Dt) (s3 s4 s6 s8 s9 : Sl), hs.length = i ∧ (∀ h ∈ hs, IsHou h) ∧ env = [.no, .fz (.obj p), .ow (.lst hs), s3, s4, .no, s6, .no, s8, s9], ⟨[], .no, .no, .no, .no, .no, rfl, (fun h hm => by cases hm), rfl⟩, fun i x env t hx hP => ?_, fun env t hP => ?_⟩
    · obtain ⟨hs, s3, s4, s6, s8, s9, hl2, hh, rfl⟩ := hP
      have hi2 : i < 2 := by
        have := (List.getElem?_eq_some_iff.mp hx).1
        rw [rngD_len] at this
        exact this
      refine vseq_set ⟨_, rfl, rfl, fun n m hH hn => ?_⟩
      have hp0 := hH.pos
      obtain ⟨hl, ehl⟩ : ∃ hl, hl = (List.range n).map fun a => rowD n (m a) := ⟨_, rfl⟩
      have ehou : houD n m = .lst hl := by rw [ehl]; rfl
      have hll : hl.length = n := by rw [ehl, List.length_map, List.length_range]
      rw [ehou]
      refine ⟨⟨_, rfl⟩, _, rfl, _, rfl, _, rfl, (by omega), ?_⟩
      refine ⟨_, rfl, _, rfl, lc_map (i := 5) (fun j => (hl[j]?).getD .non) (.head _) (noOw1 rfl (by intro k z; cases z)) (by rw [hll]; omega) (fun j x hx R hR => ?_) ?_⟩
      · have hx2 := hx
        rw [ehl, List.getElem?_map] at hx2
        obtain ⟨c, hc, rfl⟩ := Option.map_eq_some_iff.mp hx2
        refine ⟨⟨_, .inl rfl⟩, _, .inl rfl, _, .inl rfl, flats_ns _, _, rfl, ?_⟩
        show R (rowD n (m c)) _ _
        have : (hl[j]?).getD .non = rowD n (m c) := by rw [hx]; rfl
        rw [this] at hR
        exact hR
      rw [get_range hl]
      refine ⟨_, rfl, ?_⟩
      have hpl : pl (.lst hl) = true := by rw [← ehou]; exact pl_hou n m
      have hdp : dep (.lst hl) ≤ 64 := by rw [← ehou]; exact dep_hou n m
      refine ⟨3, rfl, ⟨by decide, by decide⟩, lc_any (i := 7) (fun j acc => ∃ ls : List (List Nat), acc = tnsD ls ∧ ls.length = j ∧ ∀ l ∈ ls, Sub n m l) (.head _) (noOw1 rfl (by intro k z; cases z)) (by rw [rngD_len]; decide) ⟨[], rfl, rfl, fun l h => by cases h⟩ (fun j x acc hx hP R hR => ?_) (fun acc hP => ?_)⟩
      · obtain ⟨ls, rfl, hlj, hls⟩ := hP
        exact ⟨_, rfl, _, rfl, n, m, by rw [ehou], hH, hn, fun l hl3 => hR _ ⟨ls ++ [l], tnsD_app ls l, by rw [List.length_append, hlj]; rfl, fun z hz => by
          rcases List.mem_append.mp hz with hz | hz
          · exact hls z hz
          · rw [List.mem_singleton.mp hz]; exact hl3⟩⟩
      · obtain ⟨ls, rfl, hlj, hls⟩ := hP
        rw [rngD_len] at hlj
        have hlj : ls.length = 3 := hlj
        refine ⟨_, rfl, ⟨_, .inl rfl⟩, _, .inl rfl, _, .inl rfl, rfl, _, rfl, ⟨by decide, by rw [hll]; omega, by decide, by omega⟩, (by decide : 2 ≤ 1000), _, rfl, _, _, rfl, rfl, by rw [tnsD_len]; show ls.length + 2 ≤ 1000; omega, _, rfl, ?_⟩
        have ew : Dt.tup (rngD 0 (((hl.length : Nat) : Int) - 0).toNat) = .tup (nsD (List.range n)) := by
          rw [hll, Int.sub_zero, rng_ns]
        have e3 : tnsD ls ++ [Dt.tup [.int 0], .tup (rngD 0 (((hl.length : Nat) : Int) - 0).toNat)] = tnsD (ls ++ [[0], List.range n]) := by
          rw [ew]
          unfold tnsD
          rw [List.map_append]
          rfl
        obtain ⟨ps, eps⟩ : ∃ ps, ps = ls ++ [[0], List.range n] := ⟨_, rfl⟩
        have hps : ∀ l ∈ ps, Sub n m l := fun l h => by
          rw [eps] at h
          rcases List.mem_append.mp h with h | h
          · exact hls l h
          · rcases List.mem_cons.mp h with rfl | h
            · exact sub_nought hH
            · rw [List.mem_singleton.mp h]; exact sub_whole hH
        refine vcut (fun env t2 => env = [.no, .fz (.obj p), .ow (.lst (hs ++ [.lst hl])), .fz x, .fz (.lst hl), .no, .fz (.lst hl), .no, .fz (.lst (tnsD ps)), s9]) (fun N hN => ?_) (fun env t2 hP => ?_)
        · refine hN _ _ ?_
          rw [eps, ← e3]
          rfl
        subst hP
        refine ⟨_, rfl, _, rfl, fun j env t' => ∃ s9, env = [.no, .fz (.obj p), .ow (.lst (hs ++ [.lst hl])), .fz x, .fz (.lst hl), .no, .fz (.lst hl), .no, .fz (.lst (tnsD ps)), s9], ⟨s9, rfl⟩, fun j z env t' hz hP => ?_, fun env t' hP => ?_⟩
        · obtain ⟨s9, rfl⟩ := hP
          unfold tnsD at hz
          rw [List.getElem?_map] at hz
          obtain ⟨L, hL1, rfl⟩ := Option.map_eq_some_iff.mp hz
          have hL := hps L (List.mem_of_getElem? hL1)
          refine ⟨_, rfl, _, rfl, _, rfl, n, m, L, by rw [ehou], hH, hn, hL, _, rfl, iteB (fun e => by cases e) (fun _ => ?_)⟩
          exact ⟨⟨_, .inl rfl⟩, _, .inl rfl, _, .inl rfl, dNeD_pl hpl hpl hdp hdp fun b hb => ⟨rfl, b, rfl, iteB (fun e => absurd rfl (hb.mp e)) (fun e => ⟨_, rfl⟩)⟩⟩
        · obtain ⟨s9, rfl⟩ := hP
          exact ⟨hs ++ [.lst hl], _, _, _, _, _, by rw [List.length_append, hl2]; rfl, fun h hm => by
            rcases List.mem_append.mp hm with hm | hm
            · exact hh h hm
            · rw [List.mem_singleton.mp hm]; exact ⟨n, m, ehou.symm, hH, hn⟩, rfl⟩
    · obtain ⟨hs, s3, s4, s6, s8, s9, hl2, hh, rfl⟩ := hP
      rw [rngD_len] at hl2
      exact ⟨_, rfl, ⟨_, .inr ⟨_, rfl, rfl⟩⟩, _, .inr ⟨_, rfl, rfl⟩, hs, rfl, by rw [hl2]; decide, hh, rfl, rfl⟩
end
end K15
namespace K15
open PySem PySem.Spec PyProof.Rows L2 HM VL
theorem all_mk {l : PySem.W.OpenLaw} {w : World} {K : PySem.W.Frag} {h : Heap} {mg : Str → Option Value} {fa f1 f3 f4 f5 f6 f7 f8 f9 f10 f11 f12 f13 f14 f15 f16 f17 f18 f19 f20 f21 f22 : Addr}
    {oc1 kV1 dc1 pm1 ct1 oc3 kV3 dc3 pm3 ct3 oc4 kV4 dc4 pm4 ct4 oc5 kV5 dc5 pm5 ct5 oc6 kV6 dc6 pm6 ct6 oc7 kV7 dc7 pm7 ct7 oc8 kV8 dc8 pm8 ct8 oc9 kV9 dc9 pm9 ct9 oc10 kV10 dc10 pm10 ct10 oc11 kV11 dc11 pm11 ct11 oc12 kV12 dc12 pm12 ct12 oc13 kV13 dc13 pm13 ct13 oc14 kV14 dc14 pm14 ct14 oc15 kV15 dc15 pm15 ct15 oc16 kV16 dc16 pm16 ct16 oc17 kV17 dc17 pm17 ct17 oc18 kV18 dc18 pm18 ct18 oc19 kV19 dc19 pm19 ct19 oc20 kV20 dc20 pm20 ct20 oc21 kV21 dc21 pm21 ct21 oc22 kV22 dc22 pm22 ct22 cd1 cd3 cd4 cd5 cd6 cd7 cd8 cd9 cd10 cd11 cd12 cd13 cd14 cd15 cd16 cd17 cd18 cd19 cd20 cd21 cd22  : Value}
    {od1 an1 od3 an3 od4 an4 od5 an5 od6 an6 od7 an7 od8 an8 od9 an9 od10 an10 od11 an11 od12 an12 od13 an13 od14 an14 od15 an15 od16 an16 od17 an17 od18 an18 od19 an19 od20 an20 od21 an21 od22 an22  : Option Addr} {sl1 sl3 sl4 sl5 sl6 sl7 sl8 sl9 sl10 sl11 sl12 sl13 sl14 sl15 sl16 sl17 sl18 sl19 sl20 sl21 sl22  : Array (Option Value)}
    (X : K.In h) (G : h.Ns mainGlobals mg) (hfa : mg "law" = some (.ref fa)) (tabs : ∀ g ∈ ([] : List Str), ∃ c Pt, TabOf mg h g c Pt)
    (D1 : DefAt K "shares" s_shares f1 oc1 od1 kV1 dc1 pm1 an1 cd1 ct1 sl1)
    (D3 : DefAt K "_law_pen" s_l_pen f3 oc3 od3 kV3 dc3 pm3 an3 cd3 ct3 sl3)
    (D4 : DefAt K "_law_take" s_l_take f4 oc4 od4 kV4 dc4 pm4 an4 cd4 ct4 sl4)
    (D5 : DefAt K "_law_same" s_l_same f5 oc5 od5 kV5 dc5 pm5 an5 cd5 ct5 sl5)
    (D6 : DefAt K "_law_known" s_l_known f6 oc6 od6 kV6 dc6 pm6 an6 cd6 ct6 sl6)
    (D7 : DefAt K "_law_turn" s_l_turn f7 oc7 od7 kV7 dc7 pm7 an7 cd7 ct7 sl7)
    (D8 : DefAt K "_law_named" s_l_named f8 oc8 od8 kV8 dc8 pm8 an8 cd8 ct8 sl8)
    (D9 : DefAt K "_law_group" s_l_group f9 oc9 od9 kV9 dc9 pm9 an9 cd9 ct9 sl9)
    (D10 : DefAt K "_law_table" s_l_table f10 oc10 od10 kV10 dc10 pm10 an10 cd10 ct10 sl10)
    (D11 : DefAt K "_law_of_turns" s_l_of_turns f11 oc11 od11 kV11 dc11 pm11 an11 cd11 ct11 sl11)
    (D12 : DefAt K "_law_of_pairs" s_l_of_pairs f12 oc12 od12 kV12 dc12 pm12 an12 cd12 ct12 sl12)
    (D13 : DefAt K "_law_crossed" s_l_crossed f13 oc13 od13 kV13 dc13 pm13 an13 cd13 ct13 sl13)
    (D14 : DefAt K "_law_doubled" s_l_doubled f14 oc14 od14 kV14 dc14 pm14 an14 cd14 ct14 sl14)
    (D15 : DefAt K "_law_renumbered" s_l_renumbered f15 oc15 od15 kV15 dc15 pm15 an15 cd15 ct15 sl15)
    (D16 : DefAt K "_law_house" s_l_house f16 oc16 od16 kV16 dc16 pm16 an16 cd16 ct16 sl16)
    (D17 : DefAt K "_law_closed" s_l_closed f17 oc17 od17 kV17 dc17 pm17 an17 cd17 ct17 sl17)
    (D18 : DefAt K "_law_part" s_l_part f18 oc18 od18 kV18 dc18 pm18 an18 cd18 ct18 sl18)
    (D19 : DefAt K "_law_due" s_l_due f19 oc19 od19 kV19 dc19 pm19 an19 cd19 ct19 sl19)
    (D20 : DefAt K "_law_right" s_l_right f20 oc20 od20 kV20 dc20 pm20 an20 cd20 ct20 sl20)
    (D21 : DefAt K "_law_in_place_right" s_l_in_place_right f21 oc21 od21 kV21 dc21 pm21 an21 cd21 ct21 sl21)
    (D22 : DefAt K "law" s_law f22 oc22 od22 kV22 dc22 pm22 an22 cd22 ct22 sl22)
    (mz : ∀ x ∈ bn, PySem.W.nsIn K mainGlobals x = some none) :
    ∃ (fd : FuncData) (cs : List (Addr × Addr)) (sp : Sp), (∀ p ∈ cs, h.get? p.2 = some tabObj) ∧ (∀ p ∈ cs, K.lookup p.2 = none) ∧ (∀ p ∈ cs, PySem.W.CodeHd h p.1 p.2) ∧ (∀ (s : Shared) (u : Value), BindsTo s fd ⟨[u], []⟩ [("_law_script", u)]) ∧
      (∀ (H : Hp) (a : Addr) (ns : List Int), ns.length ≤ 63 → (∀ z ∈ ns, Builtin.Int.intBits z ≤ 1048576) → (∀ p ∈ cs, H p.2 = some (.tbl #[])) → Scr K H a ns → sp [.ref a] H (fun v _ => v = .bl true) fun _ _ _ => False) ∧
      ∀ base : Heap, K.In base → base.Ns mainGlobals mg → (∀ p ∈ cs, GxR.TabB base mg p.1 p.2) → PFn noRepr l.prog w K mg base CX0 16 fa fd ["_law_script"] sp := by
  have e := hfa.symm.trans (PySem.W.mg_of X G D22.a)
  cases e
  have mn : ∀ x ∈ bn, mg x = none := fun x hx => PySem.W.mg_none_of X G (mz x hx)
  have g := fun {x : Str} {u : Value} (z : PySem.W.nsIn K mainGlobals x = some (some u)) => PySem.W.mg_of X G z
  have b1 := D1.fn.binds (ps := ["house", "part"]) fun _ _ _ _ _ _ us hl => match us, hl with | [_, _], _ => rfl
  have b3 := D3.fn.binds (ps := ["_law_script"]) fun _ _ _ _ _ _ us hl => match us, hl with | [_], _ => rfl
  have b4 := D4.fn.binds (ps := ["_law_pen_here", "_law_many"]) fun _ _ _ _ _ _ us hl => match us, hl with | [_, _], _ => rfl
  have b5 := D5.fn.binds (ps := ["_law_found", "_law_due_here"]) fun _ _ _ _ _ _ us hl => match us, hl with | [_, _], _ => rfl
  have b6 := D6.fn.binds (ps := ["_law_way"]) fun _ _ _ _ _ _ us hl => match us, hl with | [_], _ => rfl
  have b7 := D7.fn.binds (ps := ["_law_pen_here", "_law_many"]) fun _ _ _ _ _ _ us hl => match us, hl with | [_, _], _ => rfl
  have b8 := D8.fn.binds (ps := ["_law_turn_here", "_law_names"]) fun _ _ _ _ _ _ us hl => match us, hl with | [_, _], _ => rfl
  have b9 := D9.fn.binds (ps := ["_law_many", "_law_turns"]) fun _ _ _ _ _ _ us hl => match us, hl with | [_, _], _ => rfl
  have b10 := D10.fn.binds (ps := ["_law_turns"]) fun _ _ _ _ _ _ us hl => match us, hl with | [_], _ => rfl
  have b11 := D11.fn.binds (ps := ["_law_pen_here", "_law_way"]) fun _ _ _ _ _ _ us hl => match us, hl with | [_, _], _ => rfl
  have b12 := D12.fn.binds (ps := ["_law_pen_here", "_law_most"]) fun _ _ _ _ _ _ us hl => match us, hl with | [_, _], _ => rfl
  have b13 := D13.fn.binds (ps := ["_law_half"]) fun _ _ _ _ _ _ us hl => match us, hl with | [_], _ => rfl
  have b14 := D14.fn.binds (ps := ["_law_house_here"]) fun _ _ _ _ _ _ us hl => match us, hl with | [_], _ => rfl
  have b15 := D15.fn.binds (ps := ["_law_pen_here", "_law_house_here"]) fun _ _ _ _ _ _ us hl => match us, hl with | [_, _], _ => rfl
  have b16 := D16.fn.binds (ps := ["_law_pen_here"]) fun _ _ _ _ _ _ us hl => match us, hl with | [_], _ => rfl
  have b17 := D17.fn.binds (ps := ["_law_house_here", "_law_numbers"]) fun _ _ _ _ _ _ us hl => match us, hl with | [_, _], _ => rfl
  have b18 := D18.fn.binds (ps := ["_law_pen_here", "_law_house_here"]) fun _ _ _ _ _ _ us hl => match us, hl with | [_, _], _ => rfl
  have b19 := D19.fn.binds (ps := ["_law_house_here", "_law_part_here"]) fun _ _ _ _ _ _ us hl => match us, hl with | [_, _], _ => rfl
  have b20 := D20.fn.binds (ps := ["_law_pen_here", "_law_house_here", "_law_part_here"]) fun _ _ _ _ _ _ us hl => match us, hl with | [_, _, _], _ => rfl
  have b21 := D21.fn.binds (ps := ["_law_pen_here", "_law_houses"]) fun _ _ _ _ _ _ us hl => match us, hl with | [_, _], _ => rfl
  refine ⟨PySem.W.fnOf "law" "law" (defArgs s_law) (defBody s_law) (defScope s_law) .none kV22 dc22 pm22 an22 cd22 ct22, [], spLaw K, fun p hp => ?_, fun p hp => ?_, fun p hp => ?_, fun s u => .of_eq rfl, fun H a ns hl _ hH hS => ?_, fun base _ _ hB => ?_⟩
  · cases hp
  · cases hp
  · cases hp
  · exact ⟨a, ns, rfl, hS, hl, fun _ => rfl⟩
  · have GT : ∀ {k : Nat} {am : Am} {p : Addr}, PenIn K am p → VFn anyA l.prog w K mg base CX0 (k + 1) f4 _ ["_law_pen_here", "_law_many"] am (spTake p) := fun {k am p} PI => ok_take (k := k) PI D4.fn mn
    exact ok_law (k := 0) (Ps := []) D22.fn (ok_pen (k := 14) D3.fn) (g D3.a) D3.k b3
      (fun PI => ok_house (k := 10) D16.fn (GT (k := 13) PI) (g D4.a) D4.k b4
        (ok_of_turns (k := 10) PI D11.fn (GT (k := 12) PI) (g D4.a) D4.k b4 (ok_turn (k := 11) D7.fn (GT (k := 11) PI) (g D4.a) D4.k b4 mn) (g D7.a) D7.k b7 (ok_known (k := 12) D6.fn mn) (g D6.a) D6.k b6 (ok_named (k := 12) D8.fn mn) (g D8.a) D8.k b8 (ok_group (k := 10) D9.fn (g D9.a) D9.k b9 mn) (g D9.a) D9.k b9 (ok_table (k := 12) D10.fn mn) (g D10.a) D10.k b10 mn) (g D11.a) D11.k b11
        (ok_pairs (k := 12) D12.fn (GT (k := 12) PI) (g D4.a) D4.k b4 mn) (g D12.a) D12.k b12 (ok_cr (k := 13) D13.fn mn) (g D13.a) D13.k b13 (ok_dbl (k := 13) D14.fn mn) (g D14.a) D14.k b14
        (ok_ren (k := 12) D15.fn (GT (k := 12) PI) (g D4.a) D4.k b4 mn) (g D15.a) D15.k b15 mn) (g D16.a) D16.k b16
      (fun PI => (ok_lpart (k := 13) D18.fn (GT (k := 13) PI) (g D4.a) D4.k b4 (ok_closed (k := 13) D17.fn mn) (g D17.a) D17.k b17 mn)) (g D18.a) D18.k b18
      (fun PI => ok_right (k := 0) D20.fn (GT (k := 13) PI) (g D4.a) D4.k b4 (ok_ldue (k := 13) D19.fn mn) (g D19.a) D19.k b19 (ok_sharesP (k := 13) D1.fn mn) (g D1.a) D1.k b1 ((ok_same0 (k := 10) D5.fn (g D5.a) D5.k b5 mn 2).imp sameE_imp) (g D5.a) D5.k b5 mn) (g D20.a) D20.k b20
      (fun PI => ok_inpl (k := 0) D21.fn (ok_lpart (k := 12) D18.fn (GT (k := 12) PI) (g D4.a) D4.k b4 (ok_closed (k := 12) D17.fn mn) (g D17.a) D17.k b17 mn) (g D18.a) D18.k b18 (ok_ldue (k := 13) D19.fn mn) (g D19.a) D19.k b19 (ok_sharesP (k := 13) D1.fn mn) (g D1.a) D1.k b1 ((ok_same0 (k := 10) D5.fn (g D5.a) D5.k b5 mn 2).imp sameE_imp) (g D5.a) D5.k b5 mn) (g D21.a) D21.k b21 mn
end K15
open PySem PySem.W PyProof.Rows
set_option maxHeartbeats 0 in
theorem PySem.Challenge.cw_heldmarks_k15_shares_told_holds : PySem.Challenge.rw_heldmarks_k15_shares_told.Holds := by
  w_on; o_law; k_head; (case hw => w_witness2)
  k_fill
  refine HM.walk_G (l := PySem.Challenge.rw_heldmarks_k15_shares_told) (n := 63) (k := 16) (x := "_law_script") [] rfl (by decide) rfl ⟨rfl, by decide, by decide⟩ (by decide +kernel) (fun w h Y => PySem.W.kIn_of Y) ?F
  case F =>
    intro w mg fa h Y KX G hmg tabs
    refine' K15.all_mk KX G hmg tabs ⟨?a1, ?l1, ?c1, ?k1⟩ ⟨?a3, ?l3, ?c3, ?k3⟩ ⟨?a4, ?l4, ?c4, ?k4⟩ ⟨?a5, ?l5, ?c5, ?k5⟩ ⟨?a6, ?l6, ?c6, ?k6⟩ ⟨?a7, ?l7, ?c7, ?k7⟩ ⟨?a8, ?l8, ?c8, ?k8⟩ ⟨?a9, ?l9, ?c9, ?k9⟩ ⟨?a10, ?l10, ?c10, ?k10⟩ ⟨?a11, ?l11, ?c11, ?k11⟩ ⟨?a12, ?l12, ?c12, ?k12⟩ ⟨?a13, ?l13, ?c13, ?k13⟩ ⟨?a14, ?l14, ?c14, ?k14⟩ ⟨?a15, ?l15, ?c15, ?k15⟩ ⟨?a16, ?l16, ?c16, ?k16⟩ ⟨?a17, ?l17, ?c17, ?k17⟩ ⟨?a18, ?l18, ?c18, ?k18⟩ ⟨?a19, ?l19, ?c19, ?k19⟩ ⟨?a20, ?l20, ?c20, ?k20⟩ ⟨?a21, ?l21, ?c21, ?k21⟩ ⟨?a22, ?l22, ?c22, ?k22⟩ ?mz
    (case a1 => k_is); (case l1 => k_is); (case c1 => k_is); (case k1 => k_is)
    (case a3 => k_is); (case l3 => k_is); (case c3 => k_is); (case k3 => k_is)
    (case a4 => k_is); (case l4 => k_is); (case c4 => k_is); (case k4 => k_is)
    (case a5 => k_is); (case l5 => k_is); (case c5 => k_is); (case k5 => k_is)
    (case a6 => k_is); (case l6 => k_is); (case c6 => k_is); (case k6 => k_is)
    (case a7 => k_is); (case l7 => k_is); (case c7 => k_is); (case k7 => k_is)
    (case a8 => k_is); (case l8 => k_is); (case c8 => k_is); (case k8 => k_is)
    (case a9 => k_is); (case l9 => k_is); (case c9 => k_is); (case k9 => k_is)
    (case a10 => k_is); (case l10 => k_is); (case c10 => k_is); (case k10 => k_is)
    (case a11 => k_is); (case l11 => k_is); (case c11 => k_is); (case k11 => k_is)
    (case a12 => k_is); (case l12 => k_is); (case c12 => k_is); (case k12 => k_is)
    (case a13 => k_is); (case l13 => k_is); (case c13 => k_is); (case k13 => k_is)
    (case a14 => k_is); (case l14 => k_is); (case c14 => k_is); (case k14 => k_is)
    (case a15 => k_is); (case l15 => k_is); (case c15 => k_is); (case k15 => k_is)
    (case a16 => k_is); (case l16 => k_is); (case c16 => k_is); (case k16 => k_is)
    (case a17 => k_is); (case l17 => k_is); (case c17 => k_is); (case k17 => k_is)
    (case a18 => k_is); (case l18 => k_is); (case c18 => k_is); (case k18 => k_is)
    (case a19 => k_is); (case l19 => k_is); (case c19 => k_is); (case k19 => k_is)
    (case a20 => k_is); (case l20 => k_is); (case c20 => k_is); (case k20 => k_is)
    (case a21 => k_is); (case l21 => k_is); (case c21 => k_is); (case k21 => k_is)
    (case a22 => k_is); (case l22 => k_is); (case c22 => k_is); (case k22 => k_is)
    (case mz =>
      intro x hx
      repeat (rcases List.mem_cons.mp hx with rfl | hx; · k_is)
      cases hx)
