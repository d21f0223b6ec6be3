import PyProof.Rows.All
import Wide.All
import OpenK.AllK
import Wide.FinOn
import HandS.ForMost
import HandS.IsInst
import HandS.Wide
import HandS.Conv
import HandS.AnyAll
import HandS.EndTab
import HandS.Flow
import HandS.SetFor
import HandS.Zip
import PyProof.TupleOfGen
import HandS.ExcInit
import HandS.ExcIs
import HandS.ExcField
import HandS.ExcOwn
import HandS.ExcValue
import HandS.FStr
import KE.KExcSuper
import KE.KSuper
import KE.KExcIs
import HandS.TupAny
import HandS.Style
import KE.KDictZip
import KE.GoesEnum
import KE.GoesMore
import HandS.Walk
import HandS.More
import HandS.FStrTup
import PyProof.Rows.ReprOcc
import HandS.TupSets
import HandS.SetIn
import KE.GoesSet
import HandS.Small
import HandS.Strs
import HandS.Text
import PySem.Challenge.RW_heldmarks_k06_no_groups
set_option Elab.async false
set_option linter.all false
set_option maxRecDepth 100000
set_option maxHeartbeats 8000000
namespace HM
open PySem PySem.Spec PyProof.Rows L2

/-! ### plain calls: expressions that keep every object -/
abbrev Grows (h h' : Heap) : Prop := ∀ b o, h.get? b = some o → h'.get? b = some o
theorem kp_refl (s : Shared) : Keeps s s := ⟨s.heap, s.toks, rfl, fun _ _ e => e⟩
theorem kp_tok (s : Shared) (k : Nat) : Keeps s { s with toks := k } := ⟨s.heap, k, rfl, fun _ _ e => e⟩
theorem kp_trans {a b c : Shared} (x : Keeps a b) (y : Keeps b c) : Keeps a c := by
  obtain ⟨h1, t1, rfl, k1⟩ := x
  obtain ⟨h2, t2, rfl, k2⟩ := y
  exact ⟨h2, t2, rfl, fun q o e => k2 q o (k1 q o e)⟩
theorem kp_grows {a b : Shared} (x : Keeps a b) : Grows a.heap b.heap := by
  obtain ⟨h1, t1, rfl, k1⟩ := x
  exact k1
def Firm (S : Heap → Prop) : Prop := ∀ h h', S h → Grows h h' → S h'
theorem mod_up {K : PySem.W.Frag} {mg : Str → Option Value} {h h' : Heap} (m : L2.Mod K mg h) (k : Grows h h') : L2.Mod K mg h' :=
  ⟨m.kin.keeps k, m.glob.keeps k, let ⟨mb, h1, h2⟩ := m.blt; ⟨mb, h1.keeps k, h2⟩, m.nolimit.keeps k⟩

/-- e gives a value with R wherever S holds of the heap; all objects are kept -/
def RX (prog : Program) (w : World) (A : Around) (env : Env) (S : Heap → Prop) (e : Expr) (R : Value → Prop) : Prop :=
  ∀ (E : Value → Shared → Prop) (s : Shared), S s.heap → wpAny (model prog w) A (eval e env) (fun y s' => R y ∧ Keeps s s') E s
section
variable {prog : Program} {w : World} {A : Around} {env : Env} {S : Heap → Prop} {R R' : Value → Prop}
theorem rx_mono {e : Expr} (h : RX prog w A env S e R) (k : ∀ y, R y → R' y) : RX prog w A env S e R' := fun E s hs => thn (h E s hs) fun y s' q => ⟨k y q.1, q.2⟩
theorem rx_local {x : Str} {pos : Pos} {v : Value} (hk : env.scope.kind = .function) (hl : env.kindOf x = some .local) (hS : ∀ h, S h → ∃ m, h.Ns env.locals m ∧ m x = some v) (hd : (x == ("__debug__" : Str)) = false := by decide) :
    RX prog w A env S (.Name x pos) (fun y => y = v) := fun E s hs => by
  obtain ⟨m, hn, hv⟩ := hS _ hs
  exact wpAny_Name (wpAny_loadName_local hk hl hn hv ⟨rfl, kp_refl s⟩) hd
theorem rx_free {x : Str} {pos : Pos} {v : Value} {c : Addr} (hk : env.scope.kind = .function) (hl : env.kindOf x = some .free) (hc : env.cells.lookup x = some c) (hS : ∀ h, S h → h.IsCell c (some v))
    (hd : (x == ("__debug__" : Str)) = false := by decide) (hcd : (x == ("__classdict__" : Str)) = false := by decide) :
    RX prog w A env S (.Name x pos) (fun y => y = v) := fun E s hs =>
  wpAny_Name (wpAny_loadName_free hk hl hc (hS _ hs) ⟨rfl, kp_refl s⟩ hcd) hd
theorem rx_glob {K : PySem.W.Frag} {mg : Str → Option Value} {x : Str} {pos : Pos} {v : Value} (hk : env.scope.kind = .function) (hl : env.kindOf x = some .globalImplicit) (hgl : env.globals = mainGlobals) (hS : ∀ h, S h → L2.Mod K mg h)
    (hv : mg x = some v) (hd : (x == ("__debug__" : Str)) = false := by decide) : RX prog w A env S (.Name x pos) (fun y => y = v) := fun E s hs =>
  Calls.Name_function_global hk hl (Calls.loadGlobal_global (by rw [hgl]; exact (hS _ hs).glob) hv ⟨rfl, kp_refl s⟩) hd
theorem rx_blt {K : PySem.W.Frag} {mg : Str → Option Value} {x : Str} {pos : Pos} {v : Value} (hk : env.scope.kind = .function) (hl : env.kindOf x = some .globalImplicit) (hgl : env.globals = mainGlobals) (hbl : env.builtins = builtinsNs) (hS : ∀ h, S h → L2.Mod K mg h)
    (hm : mg x = none) (hv : bootBuiltins x = some v) (hn : x ≠ "__name__" := by decide) (hd : (x == ("__debug__" : Str)) = false := by decide) : RX prog w A env S (.Name x pos) (fun y => y = v) := fun E s hs => by
  obtain ⟨mb, h1, h2⟩ := (hS _ hs).blt
  exact Calls.Name_function_global hk hl (Calls.loadGlobal_builtin (by rw [hgl]; exact (hS _ hs).glob) hm (by rw [hbl]; exact h1) ((h2 x hn).trans hv) ⟨rfl, kp_refl s⟩) hd
theorem rx_int {i : Int} {j : Nat} {pos : Pos} : RX prog w A env S (.Constant (.int i) j pos) (fun y => ∃ t, y = .int i t) := fun E s hs => wpAny_Constant_int ⟨⟨_, rfl⟩, kp_tok s _⟩
theorem rx_one {op : BoolOp} {a : Expr} {pos : Pos} (h : RX prog w A env S a R) : RX prog w A env S (.BoolOp op [a] pos) R := fun E s hs => BoolOp_one (h E s hs)
theorem rx_and {a b : Expr} {rest : List Expr} {pos : Pos} {x y : Bool} (fm : Firm S) (ha : RX prog w A env S a (fun v => v = .bool x)) (hb : x = true → RX prog w A env S (.BoolOp .And (b :: rest) pos) (fun v => v = .bool y)) :
    RX prog w A env S (.BoolOp .And (a :: b :: rest) pos) (fun v => v = .bool (x && y)) := fun E s hs => by
  refine BoolOp_and (thn (ha E s hs) fun v s1 q => ?_)
  obtain ⟨rfl, k1⟩ := q
  refine wpAny_truthy_bool ?_
  cases x with
  | false => exact ⟨rfl, k1⟩
  | true => exact thn (hb rfl E s1 (fm _ _ hs (kp_grows k1))) fun v s2 q => ⟨q.1, kp_trans k1 q.2⟩
theorem rx_not {a : Expr} {pos : Pos} {x : Bool} (ha : RX prog w A env S a (fun v => v = .bool x)) : RX prog w A env S (.UnaryOp .Not a pos) (fun v => v = .bool (!x)) := fun E s hs => by
  refine UnaryOp_ (thn (ha E s hs) fun v s1 q => ?_)
  obtain ⟨rfl, k1⟩ := q
  exact not_of (wpAny_truthy_bool ⟨rfl, k1⟩)
/-- a <= b < c of ints -/
theorem rx_between {a b c : Expr} {pos : Pos} {i j k : Int} (fm : Firm S) (ha : RX prog w A env S a (fun v => ∃ t, v = .int i t)) (hb : RX prog w A env S b (fun v => ∃ t, v = .int j t)) (hc : RX prog w A env S c (fun v => ∃ t, v = .int k t))
    (hm : lastMarks [.LtE, .Lt] [b, c] = false := by with_unfolding_all rfl) : RX prog w A env S (.Compare a [.LtE, .Lt] [b, c] pos) (fun v => v = .bool (decide (i ≤ j) && decide (j < k))) := fun E s hs => by
  refine Compare_chain (thn (ha E s hs) fun v s1 q => chain_link (thn (hb E s1 (fm _ _ hs (kp_grows q.2))) fun u s2 q2 => ?_)) hm
  obtain ⟨⟨t, rfl⟩, k1⟩ := q
  obtain ⟨⟨t2, rfl⟩, k2⟩ := q2
  refine PyProof.Rows.le_int ?_
  refine wpAny_truthy_bool ?_
  by_cases hij : i ≤ j
  · rw [decide_eq_true hij]
    have hs2 := fm _ _ (fm _ _ hs (kp_grows k1)) (kp_grows k2)
    refine chain_last (thn (hc E s2 hs2) fun z s3 q3 => ?_)
    obtain ⟨⟨t3, rfl⟩, k3⟩ := q3
    exact PyProof.Rows.lt_int ⟨rfl, kp_trans k1 (kp_trans k2 k3)⟩
  · rw [decide_eq_false hij]
    exact ⟨rfl, kp_trans k1 k2⟩
/-- f(a, b), f a built-in -/
theorem rx_callB2 {x : Str} {p pos : Pos} {a b : Expr} {id : String} {Ra Rb : Value → Prop} (fm : Firm S) (hf : RX prog w A env S (.Name x p) (fun v => v = .builtin id)) (ha : RX prog w A env S a Ra) (hb : RX prog w A env S b Rb)
    (hc : ∀ (E : Value → Shared → Prop) (s : Shared) (u v : Value), S s.heap → Ra u → Rb v → wpAny (model prog w) A (call (.builtin id) [u, v]) (fun y s' => R y ∧ Keeps s s') E s)
    (he : starEach [a, b] env = (false, eval a env) :: starEach [b] env := by rfl) (he2 : starEach [b] env = (false, eval b env) :: starEach [] env := by rfl) (hpl : (backTo pos (starEach [b] env)).any (·.1) = false := by rfl) :
    RX prog w A env S (.Call (.Name x p) [a, b] [] pos) R := fun E s hs => by
  refine wpAny_Call_Name_kw (thn (hf E s hs) fun fv s0 q0 => ?_)
  obtain ⟨rfl, k0⟩ := q0
  refine PyProof.Rows.callWith_builtin1 ?_ he hpl
  rw [he]
  show wpAny _ _ (spliced ((false, eval a env) :: backTo pos (starEach [b] env))) _ _ s0
  have hs0 := fm _ _ hs (kp_grows k0)
  refine Calls.spliced_cons (thn (ha E s0 hs0) fun u s1 q1 => ?_)
  rw [he2]
  show wpAny _ _ (spliced ((false, eval b env) :: backTo pos (starEach [] env))) _ _ s1
  have hs1 := fm _ _ hs0 (kp_grows q1.2)
  refine Calls.spliced_cons (thn (hb E s1 hs1) fun v s2 q2 => ?_)
  refine Calls.spliced_nil ?_
  have hs2 := fm _ _ hs1 (kp_grows q2.2)
  exact thn (hc E s2 u v hs2 q1.1 q2.1) fun y s3 q3 => ⟨q3.1, kp_trans k0 (kp_trans q1.2 (kp_trans q2.2 q3.2))⟩
/-- f(a), f(a, b), f a def of the text -/
theorem rx_callD1 {K : PySem.W.Frag} {x : Str} {p pos : Pos} {a : Expr} {f : Addr} {Ra : Value → Prop} (fm : Firm S) (hK : ∀ h, S h → K.In h) (hkp : PySem.W.keepIn K (.ref f) = true) (hf : RX prog w A env S (.Name x p) (fun v => v = .ref f)) (ha : RX prog w A env S a Ra)
    (hc : ∀ (E : Value → Shared → Prop) (s : Shared) (u : Value), S s.heap → Ra u → wpAny (model prog w) A (call (.ref f) [u]) (fun y s' => R y ∧ Keeps s s') E s)
    (he : starEach [a] env = (false, eval a env) :: starEach [] env := by rfl) (hpl : (backTo pos (starEach [] env)).any (·.1) = false := by rfl) :
    RX prog w A env S (.Call (.Name x p) [a] [] pos) R := fun E s hs => by
  refine wpAny_Call_Name_kw (thn (hf E s hs) fun fv s0 q0 => ?_)
  obtain ⟨rfl, k0⟩ := q0
  have hs0 := fm _ _ hs (kp_grows k0)
  refine PySem.W.callWith_K (h₀ := s0.heap) (hK _ hs0) hkp ?_ he hpl
  rw [he]
  show wpAny _ _ (spliced ((false, eval a env) :: backTo pos (starEach [] env))) _ _ s0
  refine Calls.spliced_cons (thn (ha E s0 hs0) fun u s1 q1 => ?_)
  have hs1 := fm _ _ hs0 (kp_grows q1.2)
  refine Calls.spliced_nil ⟨hK _ hs1, ?_⟩
  exact thn (hc E s1 u hs1 q1.1) fun y s3 q3 => ⟨q3.1, kp_trans k0 (kp_trans q1.2 q3.2)⟩
theorem rx_callD2 {K : PySem.W.Frag} {x : Str} {p pos : Pos} {a b : Expr} {f : Addr} {Ra Rb : Value → Prop} (fm : Firm S) (hK : ∀ h, S h → K.In h) (hkp : PySem.W.keepIn K (.ref f) = true) (hf : RX prog w A env S (.Name x p) (fun v => v = .ref f)) (ha : RX prog w A env S a Ra) (hb : RX prog w A env S b Rb)
    (hc : ∀ (E : Value → Shared → Prop) (s : Shared) (u v : Value), S s.heap → Ra u → Rb v → wpAny (model prog w) A (call (.ref f) [u, v]) (fun y s' => R y ∧ Keeps s s') E s)
    (he : starEach [a, b] env = (false, eval a env) :: starEach [b] env := by rfl) (he2 : starEach [b] env = (false, eval b env) :: starEach [] env := by rfl) (hpl : (backTo pos (starEach [b] env)).any (·.1) = false := by rfl) :
    RX prog w A env S (.Call (.Name x p) [a, b] [] pos) R := fun E s hs => by
  refine wpAny_Call_Name_kw (thn (hf E s hs) fun fv s0 q0 => ?_)
  obtain ⟨rfl, k0⟩ := q0
  have hs0 := fm _ _ hs (kp_grows k0)
  refine PySem.W.callWith_K (h₀ := s0.heap) (hK _ hs0) hkp ?_ he hpl
  rw [he]
  show wpAny _ _ (spliced ((false, eval a env) :: backTo pos (starEach [b] env))) _ _ s0
  refine Calls.spliced_cons (thn (ha E s0 hs0) fun u s1 q1 => ?_)
  rw [he2]
  show wpAny _ _ (spliced ((false, eval b env) :: backTo pos (starEach [] env))) _ _ s1
  have hs1 := fm _ _ hs0 (kp_grows q1.2)
  refine Calls.spliced_cons (thn (hb E s1 hs1) fun v s2 q2 => ?_)
  have hs2 := fm _ _ hs1 (kp_grows q2.2)
  refine Calls.spliced_nil ⟨hK _ hs2, ?_⟩
  exact thn (hc E s2 u v hs2 q1.1 q2.1) fun y s3 q3 => ⟨q3.1, kp_trans k0 (kp_trans q1.2 (kp_trans q2.2 q3.2))⟩
end

/-! ### kinds of raw values -/
inductive RTy (h : Heap) : Value → String → Prop
  | non : RTy h .none "NoneType"
  | bl (b : Bool) : RTy h (.bool b) "bool"
  | int (i : Int) (t : Tok) : RTy h (.int i t) "int"
  | str (x : Str) (t : Tok) : RTy h (.str x t) "str"
  | lst {a : Addr} {o : Obj} (e : h.get? a = some o) (c : o.cls = .type "list") : RTy h (.ref a) "list"
  | tup {a : Addr} {o : Obj} (e : h.get? a = some o) (c : o.cls = .type "tuple") : RTy h (.ref a) "tuple"
  | dct {a : Addr} {o : Obj} (e : h.get? a = some o) (c : o.cls = .type "dict") : RTy h (.ref a) "dict"
theorem RTy.up {h h' : Heap} {u : Value} {T : String} (r : RTy h u T) (k : Grows h h') : RTy h' u T := by
  cases r with
  | non => exact .non
  | bl b => exact .bl b
  | int i t => exact .int i t
  | str x t => exact .str x t
  | lst e c => exact .lst (k _ _ e) c
  | tup e c => exact .tup (k _ _ e) c
  | dct e c => exact .dct (k _ _ e) c
theorem RTy.kit {K : PySem.W.Frag} {h : Heap} {u : Value} {T : String} (r : RTy h u T) : ∃ Pz : Heap → Prop, PySem.W.KitX K u (.type T) Pz ∧ Pz h ∧ u ≠ .builtin "__main__.__loader__#opaque" := by
  cases r with
  | non => exact ⟨_, PySem.W.kitx_none, True.intro, fun z => nomatch z⟩
  | bl b => exact ⟨_, PySem.W.kitx_bool, True.intro, fun z => nomatch z⟩
  | int i t => exact ⟨_, PySem.W.kitx_int, True.intro, fun z => nomatch z⟩
  | str x t => exact ⟨_, PySem.W.kitx_str, True.intro, fun z => nomatch z⟩
  | lst e c => exact ⟨_, PySem.W.kitx_list, ⟨_, e, c⟩, fun z => nomatch z⟩
  | tup e c => exact ⟨_, PySem.W.kitx_tuple, ⟨_, e, c⟩, fun z => nomatch z⟩
  | dct e c => exact ⟨_, PySem.W.kitx_dict, ⟨_, e, c⟩, fun z => nomatch z⟩
/-- isinstance(x, C) -/
theorem raw_isi {prog : Program} {w : World} {A : Around} {E : Value → Shared → Prop} {s : Shared} {K : PySem.W.Frag} {u : Value} {T C : String} {b : Bool} (hK : K.In s.heap) (r : RTy s.heap u T) (hb : kitB T C = some b) :
    wpAny (model prog w) A (call (.builtin "isinstance") [u, .type C]) (fun y s' => y = .bool b ∧ Keeps s s') E s := by
  obtain ⟨Pz, Z, p, hx⟩ := r.kit (K := K)
  exact PySem.W.kia_one Z hK p (kit_ty hb) hx fun tk => ⟨rfl, kp_tok s tk⟩
end HM
namespace HM
open PySem PySem.Spec PyProof.Rows L2
/-- an int that is no truth -/
def isW : Value → Bool
  | .int _ _ => true
  | _ => false
def isNum (n : Int) : Value → Bool
  | .int i _ => decide (0 ≤ i) && decide (i < n)
  | _ => false
/-- within a def that was called at h0, its names at L -/
def FrS (K : PySem.W.Frag) (mg : Str → Option Value) (h0 : Heap) (L : Addr) (bs : List (Str × Value)) : Heap → Prop := fun h => L2.Mod K mg h ∧ Grows h0 h ∧ h.Ns L (fun y => bs.reverse.lookup y)
theorem frs_firm {K : PySem.W.Frag} {mg : Str → Option Value} {h0 : Heap} {L : Addr} {bs : List (Str × Value)} : Firm (FrS K mg h0 L bs) := fun h h' hs k => ⟨mod_up hs.1 k, fun b o e => k _ _ (hs.2.1 b o e), hs.2.2.keeps k⟩
/-- what a def with one return does, at the level of the heap -/
theorem raw_def {P : Program} {w : World} {K : PySem.W.Frag} {mg : Str → Option Value} {x qual : Str} {st : Stmt} {f : Addr} {fd : FuncData} {A : Around} {E : Value → Shared → Prop} {s : Shared} {us : List Value} {ps : List Str} {e : Expr} {pos : Pos} {R : Value → Prop}
    (F : Fun K x qual st f fd) (M : L2.Mod K mg s.heap) (hroom : A.depth < recursionLimit) (hb : defBody st = [.Return (some e) pos])
    (hbind : ∀ (kV doc pm : Value) (an : Option Addr) (cdv ct : Value), bindArgs (PySem.W.fnOf x qual (defArgs st) (defBody st) (defScope st) .none kV doc pm an cdv ct) ⟨us, []⟩ = pure (ps.zip us))
    (hcell : ∀ y ∈ (defScope st).names, y.2 ≠ .cell) (hloc : ∀ y ∈ ps, (defScope st).names.lookup y = some .local) (hco : (defScope st).isCoroutine = false) (hgen : (defScope st).isGenerator = false) (hk : (defScope st).kind = .function)
    (h : ∀ (env : Env) (L : Addr), env.scope = defScope st → env.globals = mainGlobals → env.builtins = builtinsNs → env.locals = L → RX P w (A.deeper env) env (FrS K mg s.heap L (ps.zip us)) e R) :
    wpAny (model P w) A (call (.ref f) us) (fun y s' => R y ∧ Keeps s s') E s := by
  obtain ⟨oc, od, kV, doc, pm, an, cdv, ct, osl, rfl, lk, hcd⟩ := F.ex
  have hb2 : (PySem.W.fnOf x qual (defArgs st) (defBody st) (defScope st) .none kV doc pm an cdv ct).body = .stmts [.Return (some e) pos] := by rw [← hb]
  refine wpAny_call (codeAny_call_straight hroom (M.kin _ _ lk) rfl M.nolimit (PySem.W.codeRec_of M.kin hcd) hb2 (hbind _ _ _ _ _ _) hcell (fun y hy => hloc _ (List.of_mem_zip hy).1) (fun s1 I => ?_) hco hgen hk)
  obtain ⟨h1, tk, rfl, k1⟩ := I.done
  refine wpAny_execs_cons (wpAny_Return_some ?_)
  refine thn (h _ s.heap.objs.size rfl rfl rfl rfl _ _ ⟨mod_up M k1, k1, I.ns⟩) fun y s2 q => ?_
  exact ⟨q.1, kp_trans ⟨h1, tk, rfl, k1⟩ q.2⟩
/-- a parameter within such a def -/
theorem rx_par {P : Program} {w : World} {A : Around} {env : Env} {K : PySem.W.Frag} {mg : Str → Option Value} {h0 : Heap} {L : Addr} {bs : List (Str × Value)} {x : Str} {p : Pos} {v : Value} {st : Stmt} (e1 : env.scope = defScope st) (e4 : env.locals = L)
    (hk : (defScope st).kind = .function) (hl : (defScope st).names.lookup x = some .local) (hv : bs.reverse.lookup x = some v) (hd : (x == ("__debug__" : Str)) = false := by decide) : RX P w A env (FrS K mg h0 L bs) (.Name x p) (fun y => y = v) :=
  rx_local (by rw [e1]; exact hk) (by show env.scope.names.lookup _ = _; rw [e1]; exact hl) (fun h hs => ⟨_, by rw [e4]; exact hs.2.2, hv⟩) hd
theorem rx_bn {P : Program} {w : World} {A : Around} {env : Env} {K : PySem.W.Frag} {mg : Str → Option Value} {h0 : Heap} {L : Addr} {bs : List (Str × Value)} {x : Str} {p : Pos} {v : Value} {st : Stmt} (e1 : env.scope = defScope st) (e2 : env.globals = mainGlobals) (e3 : env.builtins = builtinsNs)
    (hk : (defScope st).kind = .function) (hl : (defScope st).names.lookup x = some .globalImplicit) (hm : mg x = none) (hv : bootBuiltins x = some v) (hn : x ≠ "__name__" := by decide) (hd : (x == ("__debug__" : Str)) = false := by decide) : RX P w A env (FrS K mg h0 L bs) (.Name x p) (fun y => y = v) :=
  rx_blt (by rw [e1]; exact hk) (by show env.scope.names.lookup _ = _; rw [e1]; exact hl) e2 e3 (fun h hs => hs.1) hm hv hn hd
theorem rx_gn {P : Program} {w : World} {A : Around} {env : Env} {K : PySem.W.Frag} {mg : Str → Option Value} {h0 : Heap} {L : Addr} {bs : List (Str × Value)} {x : Str} {p : Pos} {v : Value} {st : Stmt} (e1 : env.scope = defScope st) (e2 : env.globals = mainGlobals)
    (hk : (defScope st).kind = .function) (hl : (defScope st).names.lookup x = some .globalImplicit) (hm : mg x = some v) (hd : (x == ("__debug__" : Str)) = false := by decide) : RX P w A env (FrS K mg h0 L bs) (.Name x p) (fun y => y = v) :=
  rx_glob (by rw [e1]; exact hk) (by show env.scope.names.lookup _ = _; rw [e1]; exact hl) e2 (fun h hs => hs.1) hm hd
end HM
namespace HM
open PySem PySem.Spec PyProof.Rows L2
/-- kept but for what stands at P -/
def GrowsBut (P : Addr) (h h' : Heap) : Prop := ∀ b o, b ≠ P → h.get? b = some o → h'.get? b = some o
section
variable {X : Cx} {pins : List (Addr × Obj)} {σ : L2.St} {H : Hp} {s : Shared}
/-- the walk of xv begins in s1: a new object o -/
structure Beg (X : Cx) (P : Addr) (s1 : Shared) (xv : Value) (its : List Value) (o : Obj) (fp : List Addr) (St : Nat → Heap → Prop) : Prop where
  beg : ∀ (E : Value → Shared → Prop) (Q : Value → Shared → Prop), Q (.ref s1.heap.objs.size) { s1 with heap := s1.heap.push o } → wpAny (model X.prog X.w) X.A (pyIter xv) Q E s1
  walk : ∀ A' : Around, A'.handled = none → Walks X.prog X.w A' s1.heap.objs.size fp [s1.heap.objs.size] its.length (fun i v => its[i]? = some v) St
  st0 : ∀ h3 : Heap, GrowsBut P (s1.heap.push o) h3 → St 0 h3
  fpl : ∀ b ∈ fp, b ≤ s1.heap.objs.size
/-- the generator g, n items with F, ready to be walked -/
def ReadyG (X : Cx) (pins : List (Addr × Obj)) (σ : L2.St) (H1 : Hp) (P : Addr) (n : Nat) (F : Nat → Value → Prop) (g : Addr) (s5 : Shared) : Prop :=
  ∃ (fp wr : List Addr) (G : Array GenState → Array GenState → Prop) (Fv : Nat → Value → Prop) (St : Nat → Shared → Prop),
    WalksS X.prog X.w X.A.in4 g fp wr G n Fv St ∧ St 0 s5 ∧ (∀ b ∈ fp, b < s5.heap.objs.size) ∧ g ∈ fp ∧ (∀ i s9, St i s9 → s9.TypeIs (.ref g) "generator") ∧ (∀ j v, Fv j v → j < n ∧ F j v) ∧
    ∀ s', Moved wr G s5 s' → ∃ H2, GxR.Tabbed P H1 H2 ∧ Inv X pins σ H2 s'
/-- what the element is to do -/
def EltG (X : Cx) (P : Addr) (s1 : Shared) (scope : Scope) (x : Str) (elt : Expr) (its : List Value) (F : Nat → Value → Prop) : Prop :=
  ∀ (A' : Around) (cenv : Env) (i : Nat) (v : Value), A'.handled = none → A'.depth ≤ X.A.depth + 1 → A'.units ≤ X.A.units + 8 → cenv.scope = scope → cenv.globals = mainGlobals → cenv.builtins = builtinsNs →
    cenv.cells = cloFrom X.env.cells scope.names [] → its[i]? = some v → RX X.prog X.w A' cenv (fun h => GrowsBut P s1.heap h ∧ ∃ m, h.Ns cenv.locals m ∧ m x = some v) elt (F i)
theorem gen_any {c P : Addr} {elt iter : Expr} {x : Str} {px gpos : Pos} {scope : Scope} {te : TE} {k : Nat} {Q' : Value → Shared → Prop} {Rr : V → Hp → Prop}
    (hr : Room k X.A) (TB : GxR.TabB X.base X.mg c P) (hcode : X.env.code = .ref c) (Sc : GxR.GenS X.env scope x) (hi : PE X iter te) (hs : ∀ v, genFold iter X.env v = pure v) (I : Inv X pins σ H s)
    (h : te σ H fun v H1 => GxR.TabG H1 P ∧ Rr v H1)
    (hu : ∀ (v : V) (H1 : Hp) (s1 : Shared) (xv : Value), Inv X pins σ H1 s1 → RelV v xv → GxR.TabG H1 P → Rr v H1 → ∃ (its : List Value) (o : Obj) (fp : List Addr) (St : Nat → Heap → Prop) (F : Nat → Value → Prop),
      Beg X P s1 xv its o fp St ∧ EltG X P s1 scope x elt its F ∧ ∀ g s5, ReadyG X pins σ H1 P its.length F g s5 → Q' (.ref g) s5) :
    wpAny (model X.prog X.w) X.A (eval (.GeneratorExp elt [⟨.Name x px, iter, [], 0⟩] scope gpos) X.env) Q' X.xe s := by
  refine wpAny_GeneratorExp_walksQD hr.hd Sc.co (closure_ok Sc.free) Sc.cell Sc.dot Sc.loc Sc.kind (by have := hr.dp; omega) ?_ hs
  refine thn (hi.run pins s σ H _ I h) fun xv s1 hx1 => ?_
  obtain ⟨v, H1, I1, r1, tg, q1⟩ := hx1
  obtain ⟨its, o, fp, St, F, B, hel, hQ⟩ := hu v H1 s1 xv I1 r1 tg q1
  obtain ⟨ps, hP, ht⟩ := tg
  refine B.beg _ _ ?_
  have hPs : s1.heap.get? P = some { cls := .none, data := .fields ps } := I1.hok P _ hP
  have hPlt : P < s1.heap.objs.size := Heap.lt_size hPs
  have up : Grows s1.heap (s1.heap.push o) := fun b u e => Heap.get?_push_of_some _ e
  have hP2 := up _ _ hPs
  have cd : PySem.W.CodeHd (s1.heap.push o) c P := TB.code.keeps fun b u e => up _ _ (I1.bk b u e)
  have lim2 : (s1.heap.push o).NoLimit := I1.nolimit.push o
  have sz2 : (s1.heap.push o).objs.size = s1.heap.objs.size + 1 := Heap.size_push ..
  have hclt : cStatics < s1.heap.objs.size := let ⟨_, hns, _⟩ := I1.nolimit; hns.lt
  have hcP : cStatics ≠ P := fun e => by
    obtain ⟨_, ⟨o', es, ep, ho, hd, _⟩, _⟩ := I1.nolimit
    rw [e, hPs] at ho
    cases ho
    cases hd
  refine ⟨lim2, ?_⟩
  -- whatever code object the generator gets
  have key : ∀ (code : Value) (h3 : Heap) (tk : Nat) (more : Array Value), Heap.ExtBut P (s1.heap.push o) h3 → (s1.heap.push o).objs.size ≤ h3.objs.size → h3.get? P = some { cls := .none, data := .fields (ps ++ more) } → TriplesOk (ps ++ more).toList →
      wpAny (model X.prog X.w) X.A (builtinsFor X.env.globals X.env.builtins) (fun bi s₄ =>
        ∃ Ia fp wr n₀ Pf St₀ pz F, Value.ref s1.heap.objs.size = .ref Ia ∧ (∀ A' : Around, A'.handled = none → Walks X.prog X.w A' Ia fp wr n₀ Pf St₀) ∧ St₀ 0 s₄.heap ∧ (∀ b ∈ fp, b < s₄.heap.objs.size) ∧ s₄.heap.NoLimit ∧ cStatics ∉ wr ∧
          (∀ href : Heap, (∀ b o, s₄.heap.get? b = some o → href.get? b = some o) →
            QuietGenD X.prog X.w (genEnv scope (cloFrom X.env.cells scope.names []) s₄.heap.objs.size code bi X.env) x [] elt (List.range s₄.heap.objs.size) wr Pf pz F href (X.A.depth + 1) (X.A.units + 8)) ∧
          (∀ a h₅ tk gs, gs.bare = true → s₄.heap.objs.size < a → h₅.objs.size = a + 1 → (∀ b o, s₄.heap.get? b = some o → h₅.get? b = some o) →
            WalksS X.prog X.w X.A.in4 a (a :: s₄.heap.objs.size :: List.range s₄.heap.objs.size) (s₄.heap.objs.size :: wr) (GenOnlyQ s₄.gens.size) (passing pz n₀ 0).length
              (fun j y => ∃ i, (passing pz n₀ 0)[j]? = some i ∧ F i y) (GenAt X.prog X.w X.A.in4 a s₄.gens.size s₄.heap.objs.size (List.range s₄.heap.objs.size) wr pz n₀ F) →
            GenAt X.prog X.w X.A.in4 a s₄.gens.size s₄.heap.objs.size (List.range s₄.heap.objs.size) wr pz n₀ F 0 { s₄ with gens := s₄.gens.push gs, toks := tk, heap := h₅ } →
            Q' (.ref a) { s₄ with gens := s₄.gens.push gs, toks := tk, heap := h₅ })) X.xe { s1 with heap := h3, toks := tk } := by
    intro code h3 tk more hx hsz hP3 ht3
    obtain ⟨bm, ob, e1, e2, e3, e4, e5, e6, e7, e8⟩ := TB.bm
    have keep3 : GrowsBut P s1.heap h3 := fun b u hb e => hx b u hb (up _ _ e)
    refine wpAny_builtinsFor (m := X.mg) (by rw [I1.ok.glob]; exact ((I1.mod.glob.keeps I1.bk).push o).extBut hx TB.gP) e1 e2 (keep3 _ _ e4 (I1.bk _ _ e5)) e6 e7 e8 ?_
    refine ⟨s1.heap.objs.size, fp, [s1.heap.objs.size], its.length, fun i v => its[i]? = some v, St, fun _ => true, F, rfl, B.walk, B.st0 h3 fun b u hb e => hx b u hb e, fun b hb => ?_, lim2.extBut hx hcP, fun z => ?_, fun href hhref => ?_, fun g h5 tk5 gs hgb hag hsz5 hk5 W5 hgat => ?_⟩
    · exact Nat.lt_of_le_of_lt (B.fpl b hb) (by show s1.heap.objs.size < h3.objs.size; omega)
    · exact Nat.ne_of_lt hclt (List.mem_singleton.mp z)
    · refine ⟨fun A' E' i v s₂ m₂ hA _ _ hPv hn hm hk => ?_, fun A' E' i v s₂ m₂ hA hdp hun hPv _ hn hm hk => ?_⟩
      · simp only [List.forIn_nil]
        exact wpAny_pure ⟨rfl, kp_refl _⟩
      · refine hel A' (genEnv scope (cloFrom X.env.cells scope.names []) h3.objs.size code builtinsNs X.env) i v hA hdp hun rfl I1.ok.glob rfl rfl hPv E' s₂ ⟨fun b u hb e => ?_, m₂, hn, hm⟩
        have hl := Heap.lt_size e
        exact hk b (List.mem_range.mpr (Nat.lt_of_lt_of_le hl (by show s1.heap.objs.size ≤ h3.objs.size; omega))) (fun z => Nat.ne_of_lt hl (List.mem_singleton.mp z)) u (hhref b u (keep3 b u hb e))
    · simp only [GxR.passing_true, List.length_range] at W5
      refine hQ g _ ⟨_, _, _, _, _, W5, hgat, fun b hb => ?_, List.mem_cons_self, fun i s9 h9 => h9.1.typeIs, fun j y hy => ?_, fun s' hm => ?_⟩
      · have f1 : h5.objs.size = g + 1 := hsz5
        have f2 : h3.objs.size < g := hag
        show b < h5.objs.size
        rw [f1]
        rcases List.mem_cons.mp hb with z | z
        · rw [z]
          exact Nat.lt_succ_self g
        · rcases List.mem_cons.mp z with z | z
          · rw [z]
            exact Nat.lt_succ_of_lt f2
          · exact Nat.lt_succ_of_lt (Nat.lt_trans (List.mem_range.mp z) f2)
      · obtain ⟨i, hij, hy⟩ := hy
        obtain ⟨hj, ej⟩ := List.getElem?_eq_some_iff.mp hij
        rw [List.getElem_range] at ej
        subst ej
        rw [List.length_range] at hj
        exact ⟨hj, hy⟩
      · have nwr : ∀ b u, s1.heap.get? b = some u → b ∉ h3.objs.size :: [s1.heap.objs.size] := fun b u e hb => by
          have hl := Heap.lt_size e
          rcases List.mem_cons.mp hb with z | z
          · rw [z] at hl
            exact Nat.lt_irrefl _ (Nat.lt_of_lt_of_le hl (by show s1.heap.objs.size ≤ h3.objs.size; omega))
          · rw [List.mem_singleton.mp z] at hl
            exact Nat.lt_irrefl _ hl
        have J := GxR.inv_tab (more := more) (h' := s'.heap) (g' := s'.gens) (d' := s'.drawn) (t' := s'.toks) I1 hP (fun b u hb e => hm.heap b u (nwr b u e) (hk5 b u (keep3 b u hb e)))
          (hm.heap P _ (nwr P _ hPs) (hk5 P _ hP3)) (AllBare.movedS (I1.bare.push hgb) hm)
        rw [GxR.sh_eta s1 s' hm.os] at J
        exact ⟨upd H1 P (.tbl (ps ++ more)), ⟨⟨ps ++ more, upd_same, ht3⟩, fun b hb => upd_ne hb⟩, J⟩
  cases hf : codeAmong gpos ps.toList with
  | some cv =>
    refine wpAny_genexprCode_hit hcode (cd.code hP2 ht) hf ?_
    have e0 : ps ++ (#[] : Array Value) = ps := by simp
    exact key cv (s1.heap.push o) s1.toks #[] (Heap.ExtBut.refl _ _) (Nat.le_refl _) (by rw [e0]; exact hP2) (by rw [e0]; exact ht)
  | none =>
    refine wpAny_genexprCodeX hcode (cd.code hP2 ht) (cd.tab hP2) hf fun c' h' tk hx hge hlt hco' _ htab' _ => ?_
    obtain ⟨o1, vs, f1, tf, fl, tgv, inF, tx, tt, op, _, _, _, _, _, _, _, _, _, htr, _⟩ := hco'
    exact key _ h' tk _ hx (Nat.le_trans hge (Nat.le_of_lt hlt)) htab'.2 htr
/-- a list or a tuple begins to be walked -/
theorem beg_list {P a : Addr} {xs : List V} {H1 : Hp} {s1 : Shared} (I1 : Inv X pins σ H1 s1) (tg : GxR.TabG H1 P) (h : SqL X.K H1 a xs) : ∃ (its : List Value) (o : Obj) (fp : List Addr) (St : Nat → Heap → Prop), Vals xs its ∧ Beg X P s1 (.ref a) its o fp St := by
  obtain ⟨its, rv, hl, hz⟩ := I1.list h
  have hIL := hl.isList
  obtain ⟨ps, hP, _⟩ := tg
  have hPs : s1.heap.get? P = some { cls := .none, data := .fields ps } := I1.hok P _ hP
  have hlt : a < s1.heap.objs.size := by
    obtain ⟨_, e, _⟩ := _root_.id hIL
    exact Heap.lt_size e
  have haP : a ≠ P := fun z => by
    obtain ⟨_, e, _, _, hd⟩ := _root_.id hIL
    rw [z, hPs] at e
    cases e
    cases hd
  have hPlt := Heap.lt_size hPs
  refine ⟨its, { cls := .type "list_iterator", data := .fields #[.ref a, .int 0 0] }, [s1.heap.objs.size, a], (fun i h => h.IsListIter s1.heap.objs.size a i ∧ h.IsList a its.toArray), rv, ⟨fun E Q q => wpAny_pyIter_list hIL q, fun A' hA => ?_, fun h3 g => ⟨?_, ?_⟩, fun b hb => ?_⟩⟩
  · have W := Walks.list (prog := X.prog) (w := X.w) hA s1.heap.objs.size a (Nat.ne_of_lt hlt) its.toArray
    have e : its.toArray.size = its.length := by simp
    have e2 : (fun (i : Nat) (v : Value) => its.toArray[i]? = some v) = fun i v => its[i]? = some v := by
      funext i v
      simp
    rw [e, e2] at W
    exact W
  · exact ⟨_, g _ _ (Nat.ne_of_gt hPlt) (Heap.get?_push_size _ rfl), rfl, rfl⟩
  · obtain ⟨ob, e, r⟩ := _root_.id hIL
    exact ⟨ob, g _ _ haP (Heap.get?_push_of_some _ e), r⟩
  · rcases List.mem_cons.mp hb with z | z
    · exact Nat.le_of_eq z
    · rw [List.mem_singleton.mp z]
      exact Nat.le_of_lt hlt
theorem beg_tup {P a : Addr} {xs : List V} {H1 : Hp} {s1 : Shared} (I1 : Inv X pins σ H1 s1) (tg : GxR.TabG H1 P) (h : SqT X.K H1 a xs) : ∃ (its : List Value) (o : Obj) (fp : List Addr) (St : Nat → Heap → Prop), Vals xs its ∧ Beg X P s1 (.ref a) its o fp St := by
  obtain ⟨its, rv, hIL, hz⟩ := I1.tuple h
  obtain ⟨ps, hP, _⟩ := tg
  have hPs : s1.heap.get? P = some { cls := .none, data := .fields ps } := I1.hok P _ hP
  have hlt : a < s1.heap.objs.size := by
    obtain ⟨_, e, _⟩ := _root_.id hIL
    exact Heap.lt_size e
  have haP : a ≠ P := fun z => by
    obtain ⟨_, e, _, _, hd⟩ := _root_.id hIL
    rw [z, hPs] at e
    cases e
    cases hd
  have hPlt := Heap.lt_size hPs
  refine ⟨its, { cls := .type "tuple_iterator", data := .fields #[.ref a, .int 0 0] }, [s1.heap.objs.size, a], (fun i h => h.IsTupleIter s1.heap.objs.size a i ∧ h.IsTuple a its.toArray), rv, ⟨fun E Q q => wpAny_pyIter_tuple hIL q, fun A' hA => ?_, fun h3 g => ⟨?_, ?_⟩, fun b hb => ?_⟩⟩
  · have W := Walks.tuple (prog := X.prog) (w := X.w) hA s1.heap.objs.size a (Nat.ne_of_lt hlt) its.toArray
    have e : its.toArray.size = its.length := by simp
    have e2 : (fun (i : Nat) (v : Value) => its.toArray[i]? = some v) = fun i v => its[i]? = some v := by
      funext i v
      simp
    rw [e, e2] at W
    exact W
  · exact ⟨_, g _ _ (Nat.ne_of_gt hPlt) (Heap.get?_push_size _ rfl), rfl, rfl⟩
  · obtain ⟨ob, e, r⟩ := _root_.id hIL
    exact ⟨ob, g _ _ haP (Heap.get?_push_of_some _ e), r⟩
  · rcases List.mem_cons.mp hb with z | z
    · exact Nat.le_of_eq z
    · rw [List.mem_singleton.mp z]
      exact Nat.le_of_lt hlt
end
end HM
namespace HM
open PySem PySem.Spec PyProof.Rows L2
/-! ### kinds of tracked values -/
inductive VTy (K : PySem.W.Frag) (H : Hp) : V → String → Prop
  | non : VTy K H .non "NoneType"
  | bl (b : Bool) : VTy K H (.bl b) "bool"
  | int (i : Int) : VTy K H (.int i) "int"
  | str (x : Str) : VTy K H (.str x) "str"
  | lst {a : Addr} {xs : List V} (e : SqL K H a xs) : VTy K H (.ref a) "list"
  | tup {a : Addr} {xs : List V} (e : SqT K H a xs) : VTy K H (.ref a) "tuple"
  | dct {a : Addr} {kvs : List (Key × V)} (e : H a = some (.dK kvs)) : VTy K H (.ref a) "dict"
section
variable {X : Cx} {pins : List (Addr × Obj)} {σ : L2.St} {H : Hp} {s : Shared}
theorem VTy.raw {x : V} {u : Value} {T : String} (t : VTy X.K H x T) (I : Inv X pins σ H s) (r : RelV x u) : RTy s.heap u T := by
  cases t with
  | non => cases (show u = Value.none from r); exact .non
  | bl b => cases (show u = Value.bool b from r); exact .bl b
  | int i => obtain ⟨t, rfl⟩ := (show ∃ t, u = Value.int i t from r); exact .int i t
  | str y => obtain ⟨t, rfl⟩ := (show ∃ t, u = Value.str y t from r); exact .str y t
  | @lst a xs e =>
    cases (show u = Value.ref a from r)
    obtain ⟨its, _, ⟨o, n, h1, h2, _⟩, _⟩ := I.list e
    exact .lst h1 h2
  | @tup a xs e =>
    cases (show u = Value.ref a from r)
    obtain ⟨its, _, ⟨o, h1, h2, _⟩, _⟩ := I.tuple e
    exact .tup h1 h2
  | @dct a kvs e =>
    cases (show u = Value.ref a from r)
    obtain ⟨_, _, vs, _, o, es, ep, h1, h2, _⟩ := (show ObjOk X.prog X.w H s.heap a (.dK kvs) from I.hok a _ e)
    exact .dct h1 h2.1
theorem RTy.but {h h' : Heap} {u : Value} {T : String} {P : Addr} {ps : Array Value} (r : RTy h u T) (hP : h.get? P = some { cls := .none, data := .fields ps }) (k : GrowsBut P h h') : RTy h' u T := by
  have ne : ∀ {a : Addr} {o : Obj} {C : String}, h.get? a = some o → o.cls = .type C → a ≠ P := fun {a o C} e c z => by
    rw [z, hP] at e
    cases e
    cases c
  cases r with
  | non => exact .non
  | bl b => exact .bl b
  | int i t => exact .int i t
  | str x t => exact .str x t
  | lst e c => exact .lst (k _ _ (ne e c) e) c
  | tup e c => exact .tup (k _ _ (ne e c) e) c
  | dct e c => exact .dct (k _ _ (ne e c) e) c
/-- the module's ground is kept, for P is none of it -/
theorem mod_but {H1 : Hp} {s1 : Shared} {P : Addr} {h : Heap} (I1 : Inv X pins σ H1 s1) (tg : GxR.TabG H1 P) (k : GrowsBut P s1.heap h) : L2.Mod X.K X.mg h := by
  obtain ⟨ps, hP, _⟩ := tg
  refine mod_up I1.mod fun b o e => k b o (fun z => ?_) (I1.bk b o e)
  have q := (I1.bs b o e).2
  rw [z, hP] at q
  cases q
/-- a name of the def that the generator reads -/
theorem free_cell {H1 : Hp} {s1 : Shared} {P : Addr} {h : Heap} {i : Nat} {y : Str} {v : V} {scope : Scope} (I1 : Inv X pins σ H1 s1) (tg : GxR.TabG H1 P) (k : GrowsBut P s1.heap h) (hN : X.N[i]? = some y) (hσ : σ[i]? = some (some v)) (hk : X.env.kindOf y = some .cell)
    (hcl : ∀ c, X.env.cells.lookup y = some c → (cloFrom X.env.cells scope.names []).lookup y = some c) : ∃ c u, (cloFrom X.env.cells scope.names []).lookup y = some c ∧ RelV v u ∧ h.IsCell c (some u) := by
  obtain ⟨m, _, hl⟩ := I1.loc
  obtain ⟨u, r, l⟩ := hl i y v hN hσ (.inr (.inl hk))
  rcases l with ⟨hk2, _⟩ | ⟨_, c, hc, hcell⟩
  · rw [hk] at hk2
    cases hk2
  · refine ⟨c, u, hcl c hc, r, ?_⟩
    obtain ⟨ps, hP, _⟩ := tg
    have hn := I1.freeC y c hc
    have hne : c ≠ P := fun z => by
      rw [z, hP] at hn
      cases hn
    obtain ⟨o, e, q⟩ := hcell
    exact ⟨o, k c o hne e, q⟩
/-! ### all(..) and tuple(..) of a generator expression -/
def tAllG (P : Addr) (Rr : L2.St → V → Hp → Nat → (Nat → Bool) → Prop) (te : TE) : TE := fun σ H Q => te σ H fun v H1 => GxR.TabG H1 P ∧ ∃ n pb, Rr σ v H1 n pb ∧ ∀ H2, GxR.Tabbed P H1 H2 → Q (.bl ((List.range n).all pb)) H2
theorem pe_allG {c P : Addr} {elt iter : Expr} {x : Str} {px p pos gpos : Pos} {scope : Scope} {te : TE} {k : Nat} {Rr : L2.St → V → Hp → Nat → (Nat → Bool) → Prop}
    (hr : Room k X.A) (hg : Gl X "all") (hm : X.mg "all" = none) (TB : GxR.TabB X.base X.mg c P) (hcode : X.env.code = .ref c) (Sc : GxR.GenS X.env scope x) (hi : PE X iter te) (hs : ∀ v, genFold iter X.env v = pure v)
    (hu : ∀ (pins : List (Addr × Obj)) (σ : L2.St) (v : V) (H1 : Hp) (s1 : Shared) (xv : Value) (n : Nat) (pb : Nat → Bool), Inv X pins σ H1 s1 → RelV v xv → GxR.TabG H1 P → Rr σ v H1 n pb →
      ∃ (its : List Value) (o : Obj) (fp : List Addr) (St : Nat → Heap → Prop), its.length = n ∧ Beg X P s1 xv its o fp St ∧ EltG X P s1 scope x elt its (fun i y => y = .bool (pb i)))
    (he : starEach [.GeneratorExp elt [⟨.Name x px, iter, [], 0⟩] scope gpos] X.env = (false, eval (.GeneratorExp elt [⟨.Name x px, iter, [], 0⟩] scope gpos) X.env) :: starEach [] X.env := by rfl) :
    PE X (.Call (.Name "all" p) [.GeneratorExp elt [⟨.Name x px, iter, [], 0⟩] scope gpos] [] pos) (tAllG P Rr te) := by
  refine ⟨fun pins s σ H Q I h => ?_⟩
  refine wpAny_Call_Name_kw (ld_blt I hg hm (u := .builtin "all") (by decide +kernel) ?_)
  refine PyProof.Rows.callWith_builtin1 ?_ he (by rfl)
  rw [he]
  show wpAny _ _ (spliced ((false, eval (.GeneratorExp elt [⟨.Name x px, iter, [], 0⟩] scope gpos) X.env) :: backTo pos (starEach [] X.env))) _ _ s
  refine Calls.spliced_cons (gen_any (Rr := fun v H1 => ∃ n pb, Rr σ v H1 n pb ∧ ∀ H2, GxR.Tabbed P H1 H2 → Q (.bl ((List.range n).all pb)) H2) hr TB hcode Sc hi hs I h fun v H1 s1 xv I1 r1 tg q1 => ?_)
  obtain ⟨n, pb, q1, q2⟩ := q1
  obtain ⟨its, o, fp, St, hn, B, hel⟩ := hu pins σ v H1 s1 xv n pb I1 r1 tg q1
  refine ⟨its, o, fp, St, _, B, hel, fun g s5 hG => ?_⟩
  obtain ⟨fp5, wr, G, Fv, St5, W, hst, _, _, _, hF, hI⟩ := hG
  refine Calls.spliced_nil ?_
  refine call_all_walkS ((W.in4_1).self 0 _ _ _ hst ⟨g, fp5, wr, G, _, Fv, St5, pb, rfl, W.in4_1, hst, fun j y sj Qj Ej hy hQj => ?_, fun s' hmv => ?_⟩)
  · rw [(hF j y hy).2]
    exact wpAny_truthy_bool hQj
  · obtain ⟨H2, hT, J⟩ := hI s' hmv
    refine ⟨.bl _, H2, J, rfl, ?_⟩
    rw [hn]
    exact q2 H2 hT
/-! ### len(set(t)), t a tuple of ints -/
def Dist (ns : List Int) (c : Nat) : Prop := ∃ L : List Int, L.Nodup ∧ (∀ k, k ∈ L ↔ k ∈ ns) ∧ L.length = c
def tLenSetT (K : PySem.W.Frag) (ta : TE) : TE := fun σ H Q => ta σ H fun x H1 => ∃ (l : Addr) (ns : List Int), x = .ref l ∧ SqT K H1 l (ns.map V.int) ∧ ns.length ≤ 4000 ∧ ∀ c, Dist ns c → Q (.int (c : Nat)) H1
theorem pe_lenSetT {a : Expr} {ta : TE} {p p2 q pos : Pos} (hg : Gl X "len") (hm : X.mg "len" = none) (hg2 : Gl X "set") (hm2 : X.mg "set" = none) (ha : PE X a ta) (hc : X.calm = true := by rfl)
    (na : starEach [a] X.env = (false, eval a X.env) :: starEach [] X.env := by rfl) : PE X (.Call (.Name "len" p) [.Call (.Name "set" p2) [a] [] q] [] pos) (tLenSetT X.K ta) := by
  refine ⟨fun pins s σ H Q I h => ?_⟩
  refine Call_ (ld_blt I hg hm boot_len ?_)
  refine PyProof.Rows.callWith_builtin1 (PyProof.Rows.args_cons ?_ rfl) rfl rfl
  refine Call_ (ld_blt I hg2 hm2 boot_set ?_)
  refine PyProof.Rows.callWith_type1 (PyProof.Rows.args_cons (thn (ha.run pins s σ H _ I h) fun v s1 hx => PyProof.Rows.args_nil ?_) na) na rfl
  obtain ⟨x, H1, I1, r1, l, ns, rfl, hq, hl, q1⟩ := hx
  cases r1
  obtain ⟨its, r, pl, hz⟩ := I1.tuple hq
  refine call_set_tupI (w := X.w) ns (I1.ok.hd hc) pl (by simpa using RZ.intsAre_vals r) (by unfold scanBound; omega) fun h' tk c hS hcn hk => ?_
  have I2 := I1.kept (h' := h') (t' := tk) hk
  refine PyProof.Rows.args_nil ?_
  obtain ⟨o, es, ep, t, ho, hex, hd, _, hnd, hmem, hsb, hf, hn, _⟩ := hS
  have hsz : (es.size : Int) < 2 ^ 63 := by
    have h9 : scanBound ≤ 2 ^ 62 := by decide
    omega
  refine call_len_set ho hex hd hf hsz ⟨.int es.size, H1, I2.tok _, ⟨_, rfl⟩, ?_⟩
  refine q1 es.size ⟨es.toList.map keyOf, hnd, fun k => ?_, by simp⟩
  rw [← hmem k]
  exact decide_eq_true_iff
end
end HM
namespace HM
open PySem PySem.Spec PyProof.Rows L2
/-! ### a def's promise under a condition gd on what runs around it -/
def noRepr (A : Around) : Prop := A.guards = some []
def anyA (_ : Around) : Prop := True
structure PFn (gd : Around → Prop) (P : Program) (w : World) (K : PySem.W.Frag) (mg : Str → Option Value) (base : Heap) (CX : CXT) (k : Nat) (f : Addr) (fd : FuncData) (ps : List Str) (sp : Sp) : Prop where
  len : ∀ vs H Q E, sp vs H Q E → vs.length = ps.length
  go : ∀ (A : Around) (out : List Env) (s : Shared) (H : Hp) (args : Args) (us : List Value) (vs : List V) (Q : VK) (E : XK), gd A → Room k A → Env0 P w K mg base A out s H → BindsTo s fd args (ps.zip us) → Vals vs us → sp vs H Q E →
    codeAny (model P w) A (.call (.ref f) args) (CR CX out P w H s Q E) s
section
variable {P : Program} {w : World} {K : PySem.W.Frag} {mg : Str → Option Value} {base : Heap}
theorem PFn.ok {CX : CXT} {k : Nat} {f : Addr} {fd : FuncData} {ps : List Str} {sp : Sp} (G : PFn anyA P w K mg base CX k f fd ps sp) : FnOk P w K mg base CX k f fd ps sp := ⟨G.len, fun A out s H args us vs Q E => G.go A out s H args us vs Q E trivial⟩
theorem PFn.of_ok {gd : Around → Prop} {CX : CXT} {k : Nat} {f : Addr} {fd : FuncData} {ps : List Str} {sp : Sp} (G : FnOk P w K mg base CX k f fd ps sp) : PFn gd P w K mg base CX k f fd ps sp := ⟨G.len, fun A out s H args us vs Q E _ => G.run A out s H args us vs Q E⟩
/-- by the body; fd.code is the running code object -/
theorem pfn_of {gd : Around → Prop} {x qual : Str} {st : Stmt} {f : Addr} {fd : FuncData} {N ps : List Str} {k : Nat} {sp : Sp} (F : Fun K x qual st f fd) (S : FnScope N ps (defScope st)) (len : ∀ vs H Q E, sp vs H Q E → vs.length = ps.length)
    (body : ∀ (cdv : Value) (A : Around) (out : List Env) (s : Shared) (H : Hp) (vs : List V) (Q : VK) (E : XK), fd.code = cdv → gd A → Room k (A.deeper (envOfC qual (defScope st) s.heap.objs.size f cdv)) → sp vs H Q E →
      ∃ t, PSs (cxOf CX0 P w K mg base N qual (defScope st) f cdv A out s H E).nox (defBody st) t ∧ t { nx := fun _ H' => Q .non H', rt := Q } (start N vs) H) : PFn gd P w K mg base CX0 (k + 1) f fd ps sp := by
  obtain ⟨oc, od, kV, doc, pm, an, cdv, ct, osl, rfl, lk, hcd⟩ := F.ex
  refine ⟨len, fun A out s H args us vs Q E hgd hr e0 hb r hsp => ?_⟩
  have M := mod_up e0.mod (fun b o e => (e0.bs b o e).1 : Grows base s.heap)
  have kinds : ∀ y ∈ ps.zip us, (defScope st).names.lookup y.1 = some .local ∨ ((defScope st).names.lookup y.1 = some .cell ∧ ((cellsFrom (s.heap.objs.size + 1) (defScope st).names []).lookup y.1).isSome = true) := by
    intro y hy
    rcases S.par y.1 (List.of_mem_zip (show (y.1, y.2) ∈ ps.zip us from hy)).1 with q | q
    · exact .inl q
    · exact .inr ⟨q, PySem.W.cellsFrom_some _ _ _ (.inl q)⟩
  refine codeAny_call_function hr.depth (M.kin _ _ lk) rfl S.co S.gen rfl (PySem.W.codeRec_of M.kin hcd) (hb _ _ _ _ ?_)
  refine wpAny_newFunctionEnv_cells S.kind kinds fun env he s1 x => ?_
  subst he
  obtain ⟨t, ht, hq⟩ := body cdv A out s H vs Q E rfl hgd (hr.deeper _) hsp
  refine ⟨M.nolimit.keeps x.toInCall.keep, codeAny_func (wpAny_mono (ht.nox.run [] s1 (start N vs) H _ (inv_start S hr.hd e0 (len _ _ _ _ hsp) r x) hq) (fun fl s' hs => ?_) fun e s' hs => hs)⟩
  cases fl with
  | ret u =>
    obtain ⟨v, σ', H', J, rv, q⟩ := hs
    exact ⟨v, H', J.os, J.bare, J.base, J.hok, rv, q⟩
  | next =>
    obtain ⟨σ', H', J, q⟩ := hs
    exact ⟨.non, H', J.os, J.bare, J.base, J.hok, rfl, q⟩
  | brk =>
    obtain ⟨_, _, _, q⟩ := hs
    exact q.elim
  | cont =>
    obtain ⟨_, _, _, q⟩ := hs
    exact q.elim
end
/-- f(e, ..) by such a promise -/
theorem pe_callP {X : Cx} {gd : Around → Prop} {CX : CXT} {k : Nat} {f : Addr} {fd : FuncData} {ps : List Str} {sp : Sp} {E : XK} {x : Str} {p pos : Pos} {e : Expr} {es : List Expr} {t : TA} (G : PFn gd X.prog X.w X.K X.mg X.base CX k f fd ps sp) (hgd : gd X.A) (hr : Room k X.A) (hg : Gl X x) (hm : X.mg x = some (.ref f))
    (hk : PySem.W.keepIn X.K (.ref f) = true) (hb : Binds X.K fd ps []) (hx : Passes CX X E) (ha : PA X (e :: es) t) (hdb : (x == ("__debug__" : Str)) = false := by decide)
    (he : starEach (e :: es) X.env = (false, eval e X.env) :: starEach es X.env := by rfl) (hpl : (backTo pos (starEach es X.env)).any (·.1) = false := by rfl) : PE X (.Call (.Name x p) (e :: es) [] pos) (tCall sp [] E t) := by
  refine ⟨fun pins s σ H Q I h => ?_⟩
  refine wpAny_Call_Name_kw (ld_glob I hg hm ?_ hdb)
  refine PySem.W.callWith_K (h₀ := X.base) I.ok.mod.kin hk (thn (ha.run pos pins s σ H _ I h) fun us s1 hus => ?_) he hpl
  obtain ⟨vs, H1, I1, r, q⟩ := hus
  refine ⟨I1.kIn, ?_⟩
  rw [List.append_nil] at q
  have hl : us.length = ps.length := by rw [← r.length]; exact G.len _ _ _ _ q
  have hbs := hb s1 us I1.kIn (by rw [List.append_nil]; exact hl)
  rw [List.append_nil] at hbs
  refine wpAny_call (codeAny_mono (G.go X.A X.stack s1 H1 ⟨us, []⟩ us vs Q E hgd hr I1.env0 hbs r q) fun r s' hq => ?_)
  match r, hq with
  | .error e, hq => exact hx pins σ H1 s1 e s' I1 hq
  | .ok (.ret u), hq => exact I1.after hq
  | .ok .next, hq => exact hq.elim
  | .ok .brk, hq => exact hq.elim
  | .ok .cont, hq => exact hq.elim
/-! ### repr -/
theorem reads_ints {P : Program} {w : World} {h : Heap} : ∀ (ps : List (Int × Int)) (vs : List (Key × Value)) (es : List DictEntry), KV (ps.map fun p => ((Sum.inl p.1 : Key), V.int p.2)) vs → Pairs (mixKind P w) es vs →
    ReadsAll h (es.map (·.key)) (ps.map fun p => .int p.1) [] ∧ ReadsAll h (es.map (·.val)) (ps.map fun p => .int p.2) []
  | [], _, _, .nil, .nil => ⟨.nil, .nil⟩
  | p :: ps, _, _, .cons a r, .cons k v t => by
    obtain ⟨h1, h2⟩ := reads_ints ps _ _ r t
    obtain ⟨e1, e2⟩ := a
    obtain ⟨t2, e3⟩ := (show ∃ t, _ = Value.int p.2 t from e2)
    rw [← e1] at k
    obtain ⟨t1, e4⟩ := Value.isInt_shape (show Value.isInt p.1 _ = true from k)
    rw [List.map_cons, List.map_cons, List.map_cons, List.map_cons, e4, v, e3]
    exact ⟨.cons (as := []) (bs := []) (.int _ _) h1, .cons (as := []) (bs := []) (.int _ _) h2⟩
/-- what repr may be asked of -/
inductive RP (K : PySem.W.Frag) (H : Hp) : V → PyData → Prop
  | flat {x : V} {d : PyData} (h : Dp K H x d) (n : d.hasDict = false) : RP K H x d
  | dict {a : Addr} (ps : List (Int × Int)) (h : H a = some (.dK (ps.map fun p => ((Sum.inl p.1 : Key), V.int p.2)))) : RP K H (.ref a) (.dict (ps.map fun p => (.int p.1, .int p.2)))
section
variable {X : Cx} {pins : List (Addr × Obj)} {σ : L2.St} {H : Hp} {s : Shared}
theorem RP.reads {x : V} {u : Value} {d : PyData} (h : RP X.K H x d) (I : Inv X pins σ H s) (r : RelV x u) : ∃ as, Reads s.heap u d as ∧ (d.hasDict = true → sysModules ∉ as) := by
  cases h with
  | flat h n =>
    obtain ⟨as, q⟩ := Dp.reads I d x u h r
    exact ⟨as, q, PyData.noDict_hsm n⟩
  | @dict a ps h =>
    cases (show u = Value.ref a from r)
    obtain ⟨_, hne, vs, hkv, o, es, ep, h1, h2, h3, _, hp, _⟩ := (show ObjOk X.prog X.w H s.heap a (.dK _) from I.hok a _ h)
    obtain ⟨q1, q2⟩ := reads_ints (h := s.heap) ps vs es.toList hkv hp
    refine ⟨_, Reads.dict h1 h2.1 h3 (kvs := ps.map fun p => (.int p.1, .int p.2)) (by rw [List.map_map]; exact q1) (by rw [List.map_map]; exact q2), fun _ hm => ?_⟩
    have z : sysModules = a := by simpa using hm
    rw [z] at hne
    simp at hne
def rRepr (K : PySem.W.Frag) : List V → Hp → VK → Prop := fun xs H Q => ∃ (x : V) (d : PyData), xs = [x] ∧ RP K H x d ∧ d.showable = true ∧ d.depth ≤ 40 ∧ d.shown.length ≤ sizeLine ∧ Q (.str d.shown) H
theorem call_reprD {k : Nat} (hg : X.A.guards = some []) (hr : Room k X.A) : CallR X (.builtin "repr") (rRepr X.K) := by
  intro pins s σ H xs us Q I r h
  obtain ⟨x, d, rfl, hp, hs, hd, hz, q⟩ := h
  cases r with
  | cons r1 r2 =>
    cases r2
    rename_i u
    obtain ⟨as, hrd, hsm⟩ := hp.reads I r1
    have hu := hr.units
    cases hrd with
    | none => exact PySem.P.repr_of_none ⟨.str _, H, I.tok _, ⟨_, rfl⟩, q⟩
    | bool b => exact PySem.P.repr_of_bool ⟨.str _, H, I.tok _, ⟨_, rfl⟩, q⟩
    | int i t => exact PySem.P.repr_of_int (by simpa [PyData.showable] using hs) ⟨.str _, H, I.tok _, ⟨_, rfl⟩, q⟩
    | str y t => exact PySem.P.repr_of_str ⟨.str _, H, I.tok _, ⟨_, rfl⟩, q⟩ hz
    | list h1 h2 h3 h4 => exact repr_of_reads' (Reads.list h1 h2 h3 h4) hs hsm hg (by omega) (fun _ _ e => e) (fun h' u tk hk => ⟨.str _, H, I.kept hk, ⟨_, rfl⟩, q⟩) hz
    | tuple h1 h2 h3 h4 => exact repr_of_reads' (Reads.tuple h1 h2 h3 h4) hs hsm hg (by omega) (fun _ _ e => e) (fun h' u tk hk => ⟨.str _, H, I.kept hk, ⟨_, rfl⟩, q⟩) hz
    | dict h1 h2 h3 h4 h5 => exact repr_of_reads' (Reads.dict h1 h2 h3 h4 h5) hs hsm hg (by omega) (fun _ _ e => e) (fun h' u tk hk => ⟨.str _, H, I.kept hk, ⟨_, rfl⟩, q⟩) hz
/-- str(x), x a list, a tuple -/
theorem call_strD {k : Nat} (hg : X.A.guards = some []) (hr : Room k X.A) : CallR X (.type "str") (fun xs H Q => ∃ (a : Addr) (d : PyData), xs = [.ref a] ∧ RP X.K H (.ref a) d ∧ d.showable = true ∧ d.depth ≤ 40 ∧ d.shown.length ≤ sizeLine ∧ Q (.str d.shown) H) := by
  intro pins s σ H xs us Q I r h
  obtain ⟨a, d, rfl, hp, hs, hd, hz, q⟩ := h
  cases r with
  | cons r1 r2 =>
    cases r2
    cases (show _ = Value.ref a from r1)
    obtain ⟨as, hrd, hsm⟩ := hp.reads I r1
    have hu := hr.units
    exact str_of_reads hrd hs hsm hg (by omega) (fun _ _ e => e) (fun h' u tk hk => ⟨.str _, H, I.kept hk, ⟨_, rfl⟩, q⟩) hz
end
end HM
namespace HM
open PySem PySem.Spec PyProof.Rows L2
/-! ### the end of a law whose defs hold generator expressions and ask repr -/
abbrev tabObj : Obj := { cls := .none, data := .fields #[] }
abbrev scrObj (vs : List Value) : Obj := { cls := .type "list", data := .seq vs.toArray }
/-- the tables ts; the script, where it is none of the written part -/
def H0 (K : PySem.W.Frag) (ts : List Addr) (a : Addr) (vs : List Value) (ns : List Int) : Hp := fun b =>
  if b ∈ ts then some (.tbl #[]) else if b = a ∧ K.lookup a = none then some (.frz (scrObj vs) (.lst (ns.map V.int))) else none
theorem H0_tab {K : PySem.W.Frag} {ts : List Addr} {a b : Addr} {vs : List Value} {ns : List Int} (h : b ∈ ts) : H0 K ts a vs ns b = some (.tbl #[]) := if_pos h
theorem H0_scr {K : PySem.W.Frag} {ts : List Addr} {a : Addr} {vs : List Value} {ns : List Int} (h : a ∉ ts) (k : K.lookup a = none) : H0 K ts a vs ns a = some (.frz (scrObj vs) (.lst (ns.map V.int))) := (if_neg h).trans (if_pos ⟨rfl, k⟩)
theorem H0_cases {K : PySem.W.Frag} {ts : List Addr} {a b : Addr} {vs : List Value} {ns : List Int} {u : HO} (h : H0 K ts a vs ns b = some u) : (b ∈ ts ∧ u = .tbl #[]) ∨ (b = a ∧ K.lookup a = none ∧ u = .frz (scrObj vs) (.lst (ns.map V.int))) := by
  unfold H0 at h
  by_cases h1 : b ∈ ts
  · rw [if_pos h1] at h
    exact .inl ⟨h1, (Option.some.inj h).symm⟩
  · rw [if_neg h1] at h
    by_cases h2 : b = a ∧ K.lookup a = none
    · rw [if_pos h2] at h
      exact .inr ⟨h2.1, h2.2, (Option.some.inj h).symm⟩
    · rw [if_neg h2] at h
      cases h
theorem H0_none {K : PySem.W.Frag} {ts : List Addr} {a b : Addr} {vs : List Value} {ns : List Int} (h1 : b ∉ ts) (h2 : b = a → K.lookup a ≠ none) : H0 K ts a vs ns b = none := by
  unfold H0
  rw [if_neg h1, if_neg fun z => h2 z.1 z.2]
/-- the script: locked, or of the written part -/
def Scr (K : PySem.W.Frag) (H : Hp) (a : Addr) (ns : List Int) : Prop := (∃ ob, H a = some (.frz ob (.lst (ns.map V.int)))) ∨
  ∃ (o : Obj) (its : Array Value) (n : Nat), K.lookup a = some o ∧ o.cls = .type "list" ∧ o.dict = none ∧ o.data = .seq its n ∧ its.size ≤ sizeLine ∧ Vals (ns.map V.int) its.toList
theorem Scr.sq {K : PySem.W.Frag} {H : Hp} {a : Addr} {ns : List Int} (h : Scr K H a ns) : SqL K H a (ns.map V.int) := by
  rcases h with h | h
  · exact .inl (.inr h)
  · exact .inr h
/-- it stays while nothing locked is lost -/
theorem Scr.up {K : PySem.W.Frag} {H H' : Hp} {a : Addr} {ns : List Int} (h : Scr K H a ns) (k : ∀ b ob u, H b = some (.frz ob u) → H' b = some (.frz ob u)) : Scr K H' a ns := by
  rcases h with ⟨ob, h⟩ | h
  · exact .inl ⟨ob, k _ _ _ h⟩
  · exact .inr h
theorem end_go {P : Program} {w : World} {K : PySem.W.Frag} {mg mb : Str → Option Value} {k : Nat} {fa a : Addr} {cs : List (Addr × Addr)} {fd : FuncData} {x : Str} {sp : Sp} {s₁ : Shared} {vs : List Value} {ns : List Int}
    (KX : K.In s₁.heap) (hns : s₁.heap.Ns mainGlobals mg) (hb : s₁.heap.Ns builtinsNs mb) (hbb : ∀ y : Str, y ≠ "__name__" → mb y = bootBuiltins y) (hlim : s₁.heap.NoLimit) (hg : s₁.gens = #[])
    (hT : ∀ p ∈ cs, s₁.heap.get? p.2 = some tabObj) (nT : ∀ p ∈ cs, K.lookup p.2 = none) (hC : ∀ p ∈ cs, PySem.W.CodeHd s₁.heap p.1 p.2)
    (hbm : ∃ (bm : Addr) (ob : Obj), mg "__builtins__" = some (.ref bm) ∧ bm ≠ builtinsNs ∧ s₁.heap.get? bm = some ob ∧ ob.cls = .type "module" ∧ ob.dict = some builtinsNs ∧ ob.data = .plain)
    (ha : s₁.heap.get? a = some (scrObj vs)) (hi : IntsAre vs ns) (hl : ns.length ≤ sizeLine) (hr : Room k callerA)
    (F : ∀ base : Heap, K.In base → base.Ns mainGlobals mg → (∀ p ∈ cs, GxR.TabB base mg p.1 p.2) → PFn noRepr P w K mg base CX0 k fa fd [x] sp) (hbind : ∀ (s : Shared) (u : Value), BindsTo s fd ⟨[u], []⟩ [(x, u)])
    (hsp : ∀ H : Hp, (∀ p ∈ cs, H p.2 = some (.tbl #[])) → Scr K H a ns → sp [.ref a] H (fun v _ => v = .bl true) fun _ _ _ => False) :
    codeAny (model P w) callerA (.call (.ref fa) ⟨[.ref a], []⟩) (fun r s' => r = .ok (.ret (.bool true)) ∧ OldK s₁.heap s'.heap ∧ s'.os = s₁.os ∧ AllBare s'.gens) s₁ := by
  have isT : ∀ b ∈ cs.map (·.2), s₁.heap.get? b = some tabObj := fun b hb => by
    obtain ⟨p, hp, e⟩ := List.mem_map.mp hb
    exact e ▸ hT p hp
  have kT : ∀ b ∈ cs.map (·.2), K.lookup b = none := fun b hb => by
    obtain ⟨p, hp, e⟩ := List.mem_map.mp hb
    exact e ▸ nT p hp
  have inT : ∀ p ∈ cs, p.2 ∈ cs.map (·.2) := fun p hp => List.mem_map.mpr ⟨p, hp, rfl⟩
  have aT : a ∉ cs.map (·.2) := fun z => by
    have q := (isT a z).symm.trans ha
    cases q
  obtain ⟨H, eH⟩ : ∃ H : Hp, H = H0 K (cs.map (·.2)) a vs ns := ⟨_, rfl⟩
  -- what is neither a table nor the script is not tracked
  have free : ∀ (b : Addr) (o : Obj), s₁.heap.get? b = some o → o ≠ tabObj → o ≠ scrObj vs → H b = none := fun b o e n1 n2 => by
    rw [eH]
    refine H0_none (fun z => n1 ?_) fun z => absurd ?_ n2
    · exact Option.some.inj (e.symm.trans (isT b z))
    · rw [z] at e
      exact Option.some.inj (e.symm.trans ha)
  have freeK : ∀ (b : Addr) (o : Obj), K.lookup b = some o → H b = none := fun b o e => by
    rw [eH]
    refine H0_none (fun z => ?_) fun z h => ?_
    · rw [kT b z] at e
      cases e
    · rw [z, h] at e
      cases e
  have hok : HOk P w H s₁.heap := fun b u e => by
    rw [eH] at e
    rcases H0_cases e with ⟨h1, rfl⟩ | ⟨rfl, h2, rfl⟩
    · exact isT b h1
    · exact ⟨ha, by rw [List.length_map]; exact hl, vs, _, vals_ints hi, ha⟩
  have hS : Scr K H a ns := by
    cases hk : K.lookup a with
    | none =>
      rw [eH]
      exact .inl ⟨_, H0_scr aT hk⟩
    | some o =>
      have e := (KX a o hk).symm.trans ha
      cases e
      exact .inr ⟨_, vs.toArray, _, hk, rfl, rfl, rfl, by rw [List.size_toArray, hi.length]; exact hl, by simpa using vals_ints hi⟩
  have nsB : ∀ {b : Addr} {m : Str → Option Value}, s₁.heap.Ns b m → (hidT s₁.heap H).Ns b m := fun {b m} h => by
    obtain ⟨o, es, ep, e, d, r⟩ := h
    refine ⟨o, es, ep, hidT_get e (free b o e (fun z => ?_) fun z => ?_), d, r⟩
    · rw [z] at d
      cases d
    · rw [z] at d
      cases d
  have kB : K.In (hidT s₁.heap H) := fun b o e => hidT_get (KX b o e) (freeK b o e)
  have modB : L2.Mod K mg (hidT s₁.heap H) := ⟨kB, nsB hns, ⟨mb, nsB hb, hbb⟩, let ⟨mc, h1, h2⟩ := hlim; ⟨mc, nsB h1, h2⟩⟩
  have tabB : ∀ p ∈ cs, GxR.TabB (hidT s₁.heap H) mg p.1 p.2 := fun p hp => by
    refine ⟨?_, ?_, fun z => ?_⟩
    · obtain ⟨o, us, file, tf, flags, tg, inF, text, tt, e1, c1, d1, r3, r⟩ := hC p hp
      refine ⟨o, us, file, tf, flags, tg, inF, text, tt, hidT_get e1 (free _ o e1 (fun z => ?_) fun z => ?_), c1, d1, r3, r⟩
      · rw [z] at c1
        cases c1
      · rw [z] at c1
        injection (show Value.type "list" = Value.type "code" from c1) with c2
        exact absurd c2 (by decide)
    · obtain ⟨bm, ob, b1, b2, b3, b4, b5, b6⟩ := hbm
      refine ⟨bm, ob, b1, b2, fun q => ?_, fun q => ?_, hidT_get b3 (free bm ob b3 (fun z => ?_) fun z => ?_), b4, b5, b6⟩
      · obtain ⟨o, es, ep, e, d, _⟩ := hns
        rw [q, e] at b3
        cases b3
        rw [d] at b6
        cases b6
      · rw [q, hT p hp] at b3
        cases b3
        cases b6
      · rw [z] at b6
        cases b6
      · rw [z] at b6
        cases b6
    · obtain ⟨o, es, ep, e, d, _⟩ := hns
      rw [z, hT p hp] at e
      cases e
      cases d
  have e0 : Env0 P w K mg (hidT s₁.heap H) callerA [] s₁ H := ⟨rfl, modB, fun b o e => of_hidT e, Nat.le_of_eq (hidT_size _ _), trivial, fun b hb => absurd (show b ∈ ([] : List Addr) from hb) (by simp), hok, .of_eq hg⟩
  have tH : ∀ p ∈ cs, H p.2 = some (.tbl #[]) := fun p hp => by
    rw [eH]
    exact H0_tab (inT p hp)
  refine codeAny_mono ((F _ kB (nsB hns) tabB).go callerA [] s₁ H ⟨[.ref a], []⟩ [.ref a] [.ref a] _ _ rfl hr e0 (hbind s₁ (.ref a)) (.cons rfl .nil) (hsp H tH hS)) fun r s' h => ?_
  match r, h with
  | .error e, h => exact False.elim h
  | .ok .next, h => exact False.elim h
  | .ok .brk, h => exact False.elim h
  | .ok .cont, h => exact False.elim h
  | .ok (.ret u), h =>
    obtain ⟨v, H', os, bare, un, hok', r', q⟩ := h
    obtain rfl : v = .bl true := q
    obtain rfl : u = Value.bool true := r'
    have same : ∀ b o, b ∉ cs.map (·.2) → s₁.heap.get? b = some o → s'.heap.get? b = some o := fun b o nb e => by
      cases q : H b with
      | none => exact un.keep b o e q (fun z => absurd (show b ∈ ([] : List Addr) from z) (by simp)) (by simp)
      | some u =>
        have q2 := q
        rw [eH] at q2
        rcases H0_cases q2 with ⟨h1, _⟩ | ⟨_, _, rfl⟩
        · exact absurd h1 nb
        · have e1 := (hok b _ q).1
          have e2 := (hok' b _ (un.frzs b _ _ q)).1
          exact e2.trans (e1.symm.trans e)
    have grew : ∀ p ∈ cs, ∃ more : Array Value, s'.heap.get? p.2 = some { cls := .none, data := .fields more } := fun p hp => by
      obtain ⟨more, z⟩ := un.tbls p.2 #[] (tH p hp)
      exact ⟨_, hok' p.2 _ z⟩
    refine ⟨rfl, ⟨fun b o e => ?_, fun b o e => ?_⟩, os, bare⟩
    · by_cases hb : b ∈ cs.map (·.2)
      · obtain ⟨p, hp, rfl⟩ := List.mem_map.mp hb
        obtain ⟨more, hm⟩ := grew p hp
        obtain rfl : o = tabObj := Option.some.inj (e.symm.trans (hT p hp))
        exact .inr (.inl ⟨((hC p hp).tab (hT p hp)).isCodeTable, rfl, #[], more, rfl, by rw [Array.empty_append]; exact hm⟩)
      · exact .inl (same b o hb e)
    · by_cases hb : b ∈ cs.map (·.2)
      · obtain ⟨p, hp, rfl⟩ := List.mem_map.mp hb
        obtain ⟨more, hm⟩ := grew p hp
        exact ⟨_, hm⟩
      · exact ⟨o, same b o hb e⟩
/-- the table of the def called n: its code object's, empty as yet -/
def TabOf (mg : Str → Option Value) (h : Heap) (n : Str) (c Pt : Addr) : Prop := ∃ (f : Addr) (o : Obj) (fd : FuncData), mg n = some (.ref f) ∧ h.get? f = some o ∧ o.data = .func fd ∧ fd.code = .ref c ∧ PySem.W.CodeHd h c Pt ∧ h.get? Pt = some tabObj
theorem walk_G {l : PySem.W.OpenLaw} {n k : Nat} {q : Program} {loose : List Str} {XP : (Str → Option Value) → Heap → Prop} {YP : World → Heap → Prop} {d : DefRec} {K : Params → PySem.W.Frag} {x : Str} (gs : List Str)
    (hn : l.most = some n) (hn2 : n ≤ sizeLine) (hdf : d.params.defaults = []) (hr : Room k callerA) (hrec : ∀ g ∈ gs, ((recsOf q).any fun e => e.name == g) = true) (hY : ∀ (w : World) (h : Heap), YP w h → (K w.params).In h)
    (F : ∀ (w : World) (mg : Str → Option Value) (fa : Addr) (h : Heap), YP w h → (K w.params).In h → h.Ns mainGlobals mg → mg d.name = some (.ref fa) → (∀ g ∈ gs, ∃ c Pt, TabOf mg h g c Pt) →
      ∃ (fd : FuncData) (cs : List (Addr × Addr)) (sp : Sp), (∀ p ∈ cs, h.get? p.2 = some tabObj) ∧ (∀ p ∈ cs, (K w.params).lookup p.2 = none) ∧ (∀ p ∈ cs, PySem.W.CodeHd h p.1 p.2) ∧ (∀ (s : Shared) (u : Value), BindsTo s fd ⟨[u], []⟩ [(x, u)]) ∧
        (∀ (H : Hp) (a : Addr) (ns : List Int), ns.length ≤ n → (∀ z ∈ ns, Builtin.Int.intBits z ≤ 1048576) → (∀ p ∈ cs, H p.2 = some (.tbl #[])) → Scr (K w.params) H a ns → sp [.ref a] H (fun v _ => v = .bl true) fun _ _ _ => False) ∧
        ∀ base : Heap, (K w.params).In base → base.Ns mainGlobals mg → (∀ p ∈ cs, GxR.TabB base mg p.1 p.2) → PFn noRepr l.prog w (K w.params) mg base CX0 k fa fd [x] sp) :
    PySem.W.WalkO q loose XP YP l.row.toRowW d [] (fun f vs => PySem.call f vs) := by
  refine Att.attach_callB hn hdf fun w s₀ s₁ mg mb fa o pm cd doc a vs ns G Y ho hd hcd hmg hobj hints hlen hbits hg => ?_
  have KX := hY w _ Y
  have tabs : ∀ g ∈ gs, ∃ c Pt, TabOf mg s₁.heap g c Pt := fun g hgm => by
    obtain ⟨dL, hm, hn1⟩ := List.any_eq_true.mp (hrec g hgm)
    obtain ⟨f, o', fd', c, Pt, h1, h2, h3, h4, h5, h6⟩ := G.T.tab dL hm
    rw [beq_iff_eq.mp hn1] at h1
    exact ⟨c, Pt, f, o', fd', h1, h2, h3, h4, PySem.W.CodeHd.of h5 h6, h6.2⟩
  obtain ⟨fd, cs, sp, hT, nT, hC, hb, hsp, hF⟩ := F w mg fa _ Y KX G.T.g hmg tabs
  exact end_go KX G.T.g G.T.b G.T.builtins G.T.nolimit hg hT nT hC G.T.bmain hobj hints (Nat.le_trans hlen hn2) hr hF hb fun H hH hS => hsp H a ns hlen hbits hH hS
end HM
namespace HM
open PySem PySem.Spec PyProof.Rows L2
/-- what the written part says of an own refusal with one field -/
structure NoT (P : Program) (st : Stmt) (qual : Str) (K : PySem.W.Frag) (C fI : Addr) : Prop where
  T : OexC K C
  iC : PySem.W.findIn K (.ref C) "__init__" = some (some (.ref fI))
  tI : PySem.W.typeIn K (.ref fI) = some (.type "function")
  fn : ∃ (oc : Value) (od : Option Addr) (kV doc pm : Value) (an : Option Addr) (cda : Addr) (ct : Value) (cc : Addr) (osl : Array (Option Value)) (ccl : Value) (cdd : Option Addr) (vs : Array Value) (ccs : Array (Option Value)) (file : Str) (tf : Tok) (cl : Value) (cld : Option Addr) (csl : Array (Option Value)),
    K.lookup fI = some ⟨oc, od, .func (PySem.W.ksFn "__init__" qual (defArgs st) (defBody st) (defScope st) .none kV doc pm an (.ref cda) ct cc), osl⟩ ∧ PySem.W.codeIn K (.ref cda) qual = true ∧ K.lookup cda = some ⟨ccl, cdd, .fields vs, ccs⟩ ∧ vs[2]? = some (.str file tf) ∧ ((P.main.file : Str) == file) = true ∧
      K.lookup cc = some ⟨cl, cld, .cell (some (.ref C)), csl⟩
  veC : PySem.W.subIn K (.ref C) (.type "ValueError") = some true
  su : PySem.W.nsIn K mainGlobals "super" = some none
  tp : PySem.W.nsIn K cStatics "thirdparty.any" = some none
  si : PySem.W.ks_superIn K C C "__init__" = some (some (.builtin "ValueError.__init__"))
  mr : PySem.W.mroIn K C (.ref C) = some true
  no : PySem.W.findIn K (.ref C) "at" = some none
  tn : (P.main.scope.names.lookup ("super" : Str)).isSome = false
/-- how such an __init__ reads -/
structure InitS (st : Stmt) : Prop where
  bd : ∃ (pre : Str) (j : Nat) (p1 p2 p3 p4 p5 p6 p7 p8 p9 p10 p11 p12 p13 : Pos), pre.length ≤ 100 ∧ defBody st = [.Expr (.Call (.Attribute (.Call (.Name "super" p1) [] [] p2) "__init__" p3) [.JoinedStr [.Constant (.str pre) j p4, .FormattedValue (.Name "at" p5) (-1) none p6] p7] [] p8) p9,
    .Assign [.Attribute (.Name "self" p10) "at" p11] (.Name "at" p12) p13] ∧
    ∀ env : Env, ∃ pl : Sem Bool, eval (.Call (.Attribute (.Call (.Name "super" p1) [] [] p2) "__init__" p3) [.JoinedStr [.Constant (.str pre) j p4, .FormattedValue (.Name "at" p5) (-1) none p6] p7] [] p8) env = (do
      let ov ← attributeBase (.Call (.Name "super" p1) [] [] p2) "__init__" env (eval (.Call (.Name "super" p1) [] [] p2) env)
      standAt p3.atName
      let (f, first) ← holding [ov] (getMethod ov "__init__" pl)
      callWith p8 f first (backTo p8 (starEach [.JoinedStr [.Constant (.str pre) j p4, .FormattedValue (.Name "at" p5) (-1) none p6] p7] env)) [])
  hp : ∃ ar : Arg, ar.arg = "self" ∧ ((defArgs st).posonlyargs ++ (defArgs st).args).head? = some ar
  bi : ∀ (q : Str) (bd : List Stmt) (kV doc pm : Value) (an : Option Addr) (cdv ct : Value) (cc : Addr) (u v : Value), bindArgs (PySem.W.ksFn "__init__" q (defArgs st) bd (defScope st) .none kV doc pm an cdv ct cc) ⟨[u, v], []⟩ = pure [((("self" : Str), u) : Str × Value), ("at", v)]
  k : (defScope st).kind = .function
  co : (defScope st).isCoroutine = false
  ge : (defScope st).isGenerator = false
  ce : ∀ x ∈ (defScope st).names, x.2 ≠ .cell
  ks : (defScope st).names.lookup ("super" : Str) = some .globalImplicit
  kc : (defScope st).names.lookup ("__class__" : Str) = some .free
  kf : (defScope st).names.lookup ("self" : Str) = some .local
  ka : (defScope st).names.lookup ("at" : Str) = some .local
theorem raw_init {P : Program} {w : World} {st : Stmt} {qual : Str} {K : PySem.W.Frag} {mg : Str → Option Value} {C fI e t0 : Addr} {A : Around} {R : Result → Shared → Prop} {h : Heap} {g : Array GenState} {d : Drawn} {t : Nat} {os : OsState} {n : Int} {tk : Tok}
    (N : NoT P st qual K C fI) (S : InitS st) (M : L2.Mod K mg h) (hroom : A.depth < recursionLimit) (he : h.get? e = some (HandSPX.excO C t0)) (hK : K.lookup e = none) (hn : n.natAbs.log2 < 1920) (hz : (toString n : Str).length ≤ 1000)
    (hq : ∀ h' tk' dx t1, (∀ b o, b ≠ e → h.get? b = some o → h'.get? b = some o) → h.get? dx = none → dx ≠ e → h'.get? e = some ({ cls := .ref C, dict := some dx, data := .fields #[.ref t1, .none, .none, .none, .bool false, .none] } : Obj) →
      h'.Ns1 dx (fun y => if y = "at" then some (.int n tk) else none) → R (.ok (.ret .none)) ⟨h', g, d, tk', os⟩) :
    codeAny (model P w) A (.call (.ref fI) ⟨[.ref e, .int n tk], []⟩) R ⟨h, g, d, t, os⟩ := by
  obtain ⟨oc, od, kV, doc, pm, an, cda, ct, cc, osl, ccl, cdd, vs, ccs, file, tf, cl, cld, csl, lI, hcd, lC, hvs, hfl, lc⟩ := N.fn
  obtain ⟨pre, j, p1, p2, p3, p4, p5, p6, p7, p8, p9, p10, p11, p12, p13, hpl, hbd, hev⟩ := S.bd
  obtain ⟨ar, har, hp⟩ := S.hp
  obtain ⟨cnm, cq, cN, cbs, cbm, csn, csub, cab, ccol, cdc, k0, k1, k2, k3, k5, lCC, hbm⟩ := N.T.cls
  have hcl : PySem.W.clsIn K C = some { name := cnm, bases := cbs, mro := .ref C :: cbm, ns := cN, qualname := cq, hasDict := true, slotNames := csn, subclasses := csub, abstract := cab, collection := ccol, hasDel := false } := by unfold PySem.W.clsIn; rw [lCC] <;> rfl
  refine ks_codeAny_call_defAt (binds := [("self", .ref e), ("at", .int n tk)]) hroom (M.kin _ _ lI) rfl M.nolimit (PySem.W.codeRec_of M.kin hcd) rfl (.of_eq (S.bi _ _ _ _ _ _ _ _ _ _ _)) S.ce (fun x hx => ?_) (fun h0 hns k0 => ?_) S.co S.ge S.k
  · rcases List.mem_cons.mp hx with z | hx
    · rw [z]; exact S.kf
    · rw [List.mem_singleton.mp hx]; exact S.ka
  have henv : callEnv (PySem.W.ksFn "__init__" qual (defArgs st) (defBody st) (defScope st) .none kV doc pm an (.ref cda) ct cc) h.objs.size fI = PySem.W.ksEnv qual (defScope st) h.objs.size fI (.ref cda) cc := rfl
  rw [henv, hbd]
  obtain ⟨env, eenv⟩ : ∃ env, env = PySem.W.ksEnv qual (defScope st) h.objs.size fI (.ref cda) cc := ⟨_, rfl⟩
  have g1 : env.scope = defScope st := by rw [eenv]
  have g2 : env.globals = mainGlobals := by rw [eenv]
  have g3 : env.builtins = builtinsNs := by rw [eenv]
  have g4 : env.locals = h.objs.size := by rw [eenv]
  have g5 : env.func = some fI := by rw [eenv]
  have g6 : env.code = .ref cda := by rw [eenv]
  have g7 : env.cells.lookup ("__class__" : Str) = some cc := by rw [eenv]; rfl
  have gk : env.scope.kind = .function := by rw [g1]; exact S.k
  have gL : ∀ {x : Str} {k : NameKind}, (defScope st).names.lookup x = some k → env.kindOf x = some k := fun {x k} q => by show env.scope.names.lookup x = _; rw [g1]; exact q
  rw [← eenv]
  have M0 := mod_up M k0
  have he0 := k0 _ _ he
  have neL : h.objs.size ≠ e := Nat.ne_of_gt (Heap.lt_size he)
  obtain ⟨mb, hmb, hbb⟩ := M0.blt
  obtain ⟨pl, hpv⟩ := hev env
  have hi : interactive env = false := by unfold interactive; rw [gk]; rfl
  refine ks_wpAt_execs_cons (ks_wpAt_Expr_any (ks_wpAt_MethodCall (ks_wpAt_super_base (f := fI) (gL S.ks) (gL S.kc) (by decide) g5 (M0.kin _ _ lI) rfl hp g6 (M0.kin _ _ lC) rfl hvs hfl N.tn ?_) hpv) hi)
  refine PySem.W.ks_loadName_global gk (gL S.ks) (Calls.loadGlobal_builtin (by rw [g2]; exact M0.glob) (PySem.W.mg_none_of M0.kin M0.glob N.su) (by rw [g3]; exact hmb) ((hbb "super" (by decide)).trans (by decide +kernel)) ⟨rfl, ?_⟩)
  refine wpAny_loadName_free gk (gL S.kc) g7 ⟨_, M0.kin _ _ lc, rfl⟩ ?_
  rw [har]
  refine wpAny_loadName_local gk (gL S.kf) (by rw [g4]; exact hns) rfl ?_
  refine ks_wpAny_isType_cls (M0.kin _ _ lCC) rfl ⟨rfl, ?_⟩
  refine ks_wpAny_call_super (M0.kin _ _ lCC) rfl he0 rfl (fun c z => by cases z) (PySem.W.looks_mroIn M0.kin N.mr) fun h1 e1 k1 => ?_
  have M1 := mod_up M0 k1
  have he1 := k1 _ _ he0
  have I1 : PySem.W.InstAt h1 e (HandSPX.excO C t0) C none := ⟨he1, rfl, rfl, trivial⟩
  have hsi := N.si
  unfold PySem.W.ks_superIn at hsi
  rw [hcl] at hsi
  refine PySem.W.kxs_getMethod PySem.W.kxs_ValueError e1 (PySem.W.looks_opaque M1.kin N.tp) (l₀ := .ref C :: cbm) (fun A Q E s k q => wpAny_bind ((PySem.W.looks_clsIn M1.kin hcl) A _ E s k (wpAny_pure q))) rfl M1.kin hsi (I1.type.andThen (PySem.W.looks_subIn M1.kin N.veC)) (PySem.W.ks_ne M1.kin I1 hcl) (by decide) ?_
  -- the text, then the call of the built-in __init__
  refine PySem.W.kxs_callWith (i := "ValueError.__init__") (x := e) rfl (Calls.evalArgs_plain ?_)
  refine Calls.spliced_cons (wpAny_JoinedStr (pos := p7) ?_)
  have k2 : Grows h1 (h1.push (PySem.W.kxs_mw "ValueError.__init__" e)) := fun b o e => Heap.get?_push_of_some _ e
  have hns2 := (hns.keeps k1).keeps k2
  have M2 := mod_up M1 k2
  have he2 := k2 _ _ he1
  have z0 : (Str.empty ++ pre).length ≤ 100 := by rw [strLen_append]; show 0 + pre.length ≤ 100; omega
  have z1 : (Str.empty ++ pre ++ Str.ofString (toString n)).length ≤ sizeLine := by rw [strLen_append, sizeLine_eq]; omega
  refine wpAny_Constant_str ⟨pre, _, rfl, Nat.le_trans z0 (by rw [sizeLine_eq]; decide), ?_⟩
  refine wpAny_FormattedValue_plain (wpAny_Name (wpAny_loadName_local gk (gL S.ka) (by rw [g4]; exact hns2) rfl ?_) (by decide))
  refine wpAny_formatField_int hn ⟨_, _, rfl, z1, z1, ?_⟩
  have hu : (h1.push (PySem.W.kxs_mw "ValueError.__init__" e)).get? h1.objs.size = some (PySem.W.kxs_mw "ValueError.__init__" e) := Heap.get?_push_size _ rfl
  refine Calls.spliced_nil ⟨hu, ?_⟩
  refine wpAny_call (codeAny_of_tree ?_)
  show wpAny _ (A.deeper env).in1 (callAny (.ref h1.objs.size) ⟨[_], []⟩) _ _ _
  simp only [callAny]
  refine wpAny_bind (wpAny_load hu ?_)
  simp only [PySem.W.kxs_mw, show (Value.type "method-wrapper" == Value.type "method" || Value.type "method-wrapper" == Value.type "builtin_function_or_method" || Value.type "method-wrapper" == Value.type "method-wrapper") = true by decide, if_true]
  refine PySem.W.KFB.if_so (by decide) ?_
  refine wpAny_bind (PySem.W.check_bound_init F.excBase_ValueError.toExcCallFacts (M2.kin _ _ lCC) he2 rfl ?_)
  refine wpAny_bind (wpAny_pure (wpAny_pure ?_))
  refine ⟨plainId_quiet F.excBase_ValueError.init.plain _, codeAny_builtin F.excBase_ValueError.initEntry ?_⟩
  refine PySem.W.exc_init_tree (cls := .ref C) (t0 := t0) (dv := none) (c2 := .none) (c3 := .none) (b4 := .bool false) he2 (by show 1 ≤ sizeLine; rw [sizeLine_eq]; decide) fun h3 k3 he3 _ => ?_
  -- self.at = at
  have up : ∀ b o, b ≠ e → h0.get? b = some o → h3.get? b = some o := fun b o hb z => k3 b o hb (k2 _ _ (k1 _ _ z))
  have hns3 : h3.Ns h.objs.size (fun x => [(("self" : Str), Value.ref e), ("at", .int n tk)].reverse.lookup x) := by
    obtain ⟨oL, es, ep, hL, r⟩ := hns
    exact ⟨oL, es, ep, up _ _ neL hL, r⟩
  have K3 : K.In h3 := fun b o z => by
    refine up b o (fun q => ?_) (M0.kin b o z)
    rw [q, hK] at z
    cases z
  refine wpAt_of_wpAny (wpAny_execs_cons (plainObj_wpAny_Assign_Attribute ?_))
  refine wpAny_Name (wpAny_loadName_local gk (gL S.ka) (by rw [g4]; exact hns3) rfl ?_) (by decide)
  refine wpAny_Name (wpAny_loadName_local gk (gL S.kf) (by rw [g4]; exact hns3) rfl ?_) (by decide)
  refine PySem.W.set_plain K3 (ox := { cls := .ref C, dict := none, data := .fields #[.ref _, .none, .none, .none, .bool false, .none] }) (od := none) ⟨he3, rfl, rfl, trivial⟩ N.T.sa ?_
  refine HandSPX.exc_osa K3 he3 hcl (show HandSPX.refsVE (.ref C :: cbm) = true from hbm) rfl N.no (fun h4 tk4 dx k4 dn dne hx hn4 => ?_)
  refine wpAny_execs_nil ?_
  refine hq h4 tk4 dx _ (fun b o hb z => k4 b o hb (up b o hb (k0 _ _ z))) ?_ dne hx hn4
  cases z : h.get? dx with
  | none => rfl
  | some o => exact absurd (Heap.lt_size (up dx o dne (k0 _ _ z))) (Nat.not_lt.mpr dn)
end HM
namespace HM
open PySem PySem.Spec PyProof.Rows L2
/-- what C(n) leaves at a: the refusal, its dict at dx -/
abbrev excD (C dx t1 : Addr) : Obj := { cls := .ref C, dict := some dx, data := .fields #[.ref t1, .none, .none, .none, .bool false, .none] }
section
variable {X : Cx} {pins : List (Addr × Obj)} {σ : L2.St} {H : Hp} {s : Shared} {st : Stmt} {qual : Str} {C fI : Addr} {n : Int} {tk : Tok}
theorem call_mk {k : Nat} {E : Value → Shared → Prop} {Q : Value → Shared → Prop} (N : NoT X.prog st qual X.K C fI) (S : InitS st) (hr : Room (k + 2) X.A) (I : Inv X pins σ H s) (hn : n.natAbs.log2 < 1920) (hz : (toString n : Str).length ≤ 1000)
    (h : ∀ h' tk' a dx t1, Grows s.heap h' → s.heap.get? a = none → s.heap.get? dx = none → dx ≠ a → h'.get? a = some (excD C dx t1) → h'.Ns1 dx (fun y => if y = "at" then some (.int n tk) else none) → Q (.ref a) { s with heap := h', toks := tk' }) :
    wpAny (model X.prog X.w) X.A (call (.ref C) [.int n tk]) Q E s := by
  obtain ⟨nm, q, Na, bs, bm, sn, sub, ab, col, dd, k0, k1, k2, k3, k5, hC, hbm⟩ := N.T.cls
  obtain ⟨hp, g, dr, t, os⟩ := s
  have kk : Grows hp ((hp.push (PySem.W.kdv_tup [.int n tk])).push (HandSPX.excO C hp.objs.size)) := fun b o e => Heap.get?_push_of_some _ (Heap.get?_push_of_some _ e)
  have hget : ((hp.push (PySem.W.kdv_tup [.int n tk])).push (HandSPX.excO C hp.objs.size)).get? (hp.objs.size + 1) = some (HandSPX.excO C hp.objs.size) := by heap_get
  have ha : hp.get? (hp.objs.size + 1) = none := by
    cases e : hp.get? (hp.objs.size + 1) with
    | none => rfl
    | some o => exact absurd (Heap.lt_size e) (Nat.not_lt.mpr (Nat.le_succ _))
  have M := mod_up (mod_up I.mod I.bk) kk
  refine wpAny_call (HandSPX.call_own F.excBase_ValueError (fun Y => HandSPX.refsVE_contains Y bm hbm) (I.kIn _ _ hC) (PySem.W.looks_findIn I.kIn N.iC) (fun self => PySem.W.bind_fn I.kIn self N.tI) (by show 1 ≤ sizeLine; rw [sizeLine_eq]; decide) ?_)
  refine raw_init N S M (hr.make C [.int n tk] []).depth hget ?_ hn hz fun h' tk' dx t1 kh dn dne hx hns => ⟨rfl, ?_⟩
  · cases e : X.K.lookup (hp.objs.size + 1) with
    | none => rfl
    | some o =>
      have z := I.kIn _ _ e
      rw [ha] at z
      cases z
  · refine h h' tk' (hp.objs.size + 1) dx t1 (fun b o e => kh b o (fun z => ?_) (kk b o e)) ha ?_ dne hx hns
    · rw [z] at e
      have e2 : hp.get? (hp.objs.size + 1) = some o := e
      rw [ha] at e2
      cases e2
    · cases e : hp.get? dx with
      | none => rfl
      | some o =>
        have z := kk _ _ e
        rw [dn] at z
        cases z
/-- a refusal that is kept as a value: its class, its dict -/
def ExV (C d a : Addr) : HO := .ext fun h => ∃ (oe : Obj) (vs : Array Value), h.get? a = some oe ∧ Zc (.ref C) (some d) oe ∧ oe.data = .fields vs
theorem exV_ok {P : Program} {w : World} {H : Hp} {h : Heap} {C d a : Addr} {oe : Obj} {vs : Array Value} (e : h.get? a = some oe) (z : Zc (.ref C) (some d) oe) (hd : oe.data = .fields vs) : ObjOk P w H h a (ExV C d a) :=
  ⟨⟨oe, vs, e, z, hd⟩, ⟨oe, e⟩, fun _ _ ⟨o, v, q, r⟩ k => ⟨o, v, k o q, r⟩⟩
theorem exV_at {P : Program} {w : World} {H : Hp} {h : Heap} {C d a : Addr} (hok : HOk P w H h) (e : H a = some (ExV C d a)) : ∃ (oe : Obj) (vs : Array Value), h.get? a = some oe ∧ Zc (.ref C) (some d) oe ∧ oe.data = .fields vs := by
  have x : ObjOk P w H h a (.ext fun h => ∃ (oe : Obj) (vs : Array Value), h.get? a = some oe ∧ Zc (.ref C) (some d) oe ∧ oe.data = .fields vs) := hok a _ e
  exact x.1
theorem xd_ok {P : Program} {w : World} {H : Hp} {h : Heap} {dx : Addr} (hns : h.Ns1 dx (fun y => if y = "at" then some (.int n tk) else none)) : ObjOk P w H h dx (.xd [("at", .int n)]) :=
  ⟨_, hns, fun f => relO_put (f := "at") (y := .int n) (u := .int n tk) (fs := []) (mA := fun _ => none) ⟨tk, rfl⟩ (fun _ => True.intro) f⟩
/-- raise C(n) -/
def tMkN (C : Addr) (te : TE) : L2.St → Hp → XK → Prop := fun σ H Q => te σ H fun v H1 => ∃ n : Int, v = .int n ∧ n.natAbs.log2 < 1920 ∧ (toString n : Str).length ≤ 1000 ∧ ∀ d, H1 d = none → Q (.ref C) (some d) (upd H1 d (.xd [("at", .int n)]))
theorem pmk_n {k : Nat} {x : Str} {e : Expr} {te : TE} {p pos : Pos} (N : NoT X.prog st qual X.K C fI) (S : InitS st) (hr : Room (k + 2) X.A) (hg : Gl X x) (hm : X.mg x = some (.ref C)) (he : PE X e te)
    (hdb : (x == ("__debug__" : Str)) = false := by decide) (hs : starEach [e] X.env = (false, eval e X.env) :: starEach [] X.env := by rfl) : PMk X (.Call (.Name x p) [e] [] pos) (tMkN C te) := by
  intro pins s σ H Q I h
  refine wpAny_Call_Name_kw (ld_glob I hg hm ?_ hdb)
  refine PySem.W.callWith_K (h₀ := X.base) I.ok.mod.kin N.T.kC ?_ hs (by rfl)
  rw [hs]
  show wpAny _ _ (spliced ((false, eval e X.env) :: backTo pos (starEach [] X.env))) _ _ s
  refine Calls.spliced_cons (thn (he.run pins s σ H _ I h) fun u s1 hx => ?_)
  obtain ⟨v, H1, I1, r1, n, rfl, hn, hz, q1⟩ := hx
  obtain ⟨tk, rfl⟩ := r1
  refine Calls.spliced_nil ⟨I1.kIn, ?_⟩
  refine call_mk N S hr I1 hn hz fun h' tk' a dx t1 kh ha hdx hne hx hns => ?_
  obtain ⟨G, g1, g2⟩ := restrict h' fun b => decide (b ≠ a)
  have gk : ∀ b, b ≠ a → G.get? b = h'.get? b := fun b hb => g1 b (decide_eq_true hb)
  have ga : G.get? a = none := g2 a (decide_eq_false fun z => z rfl)
  have hH : H1 dx = none := I1.hok.gone hdx
  have kG : Grows s1.heap G := fun b o e => by
    rw [gk b fun z => ?_]
    · exact kh b o e
    · rw [z, ha] at e
      cases e
  have hnsG : G.Ns1 dx (fun y => if y = "at" then some (.int n tk) else none) := hns.at fun o z => (gk dx hne).trans z
  have J : Inv X pins σ (upd H1 dx (.xd [("at", .int n)])) { s1 with heap := G, toks := tk' } := I1.laidN kG hdx hH (xd_ok hnsG)
  refine ⟨a, _, _, { s1 with heap := G, toks := tk' }, _, .ref C, some dx, rfl, J, fun b o e => ?_, ga, hx, ⟨rfl, rfl⟩, rfl, rfl, ?_, rfl, I1.bare, raises_own N.T.exC N.T.tyC, q1 dx hH⟩
  · have hb : b ≠ a := fun z => by
      have e2 : G.get? b = some o := e
      rw [z, ga] at e2
      cases e2
    exact (gk b hb).symm.trans e
  · rw [upd_ne (Ne.symm hne)]
    exact I1.hok.gone ha
/-- C(n) as a value -/
def tMkV (C : Addr) (te : TE) : TE := fun σ H Q => te σ H fun v H1 => ∃ n : Int, v = .int n ∧ n.natAbs.log2 < 1920 ∧ (toString n : Str).length ≤ 1000 ∧ ∀ d a, H1 d = none → H1 a = none → a ≠ d → Q (.ref a) (upd (upd H1 d (.xd [("at", .int n)])) a (ExV C d a))
theorem pe_mkV {k : Nat} {x : Str} {e : Expr} {te : TE} {p pos : Pos} (N : NoT X.prog st qual X.K C fI) (S : InitS st) (hr : Room (k + 2) X.A) (hg : Gl X x) (hm : X.mg x = some (.ref C)) (he : PE X e te)
    (hdb : (x == ("__debug__" : Str)) = false := by decide) (hs : starEach [e] X.env = (false, eval e X.env) :: starEach [] X.env := by rfl) : PE X (.Call (.Name x p) [e] [] pos) (tMkV C te) := by
  refine ⟨fun pins s σ H Q I h => ?_⟩
  refine wpAny_Call_Name_kw (ld_glob I hg hm ?_ hdb)
  refine PySem.W.callWith_K (h₀ := X.base) I.ok.mod.kin N.T.kC ?_ hs (by rfl)
  rw [hs]
  show wpAny _ _ (spliced ((false, eval e X.env) :: backTo pos (starEach [] X.env))) _ _ s
  refine Calls.spliced_cons (thn (he.run pins s σ H _ I h) fun u s1 hx => ?_)
  obtain ⟨v, H1, I1, r1, n, rfl, hn, hz, q1⟩ := hx
  obtain ⟨tk, rfl⟩ := r1
  refine Calls.spliced_nil ⟨I1.kIn, ?_⟩
  refine call_mk N S hr I1 hn hz fun h' tk' a dx t1 kh ha hdx hne hx hns => ?_
  have hH : H1 dx = none := I1.hok.gone hdx
  have hA : H1 a = none := I1.hok.gone ha
  obtain ⟨G, g1, g2⟩ := restrict h' fun b => decide (b ≠ a)
  have gk : ∀ b, b ≠ a → G.get? b = h'.get? b := fun b hb => g1 b (decide_eq_true hb)
  have ga : G.get? a = none := g2 a (decide_eq_false fun z => z rfl)
  have kG : Grows s1.heap G := fun b o e => by
    rw [gk b fun z => ?_]
    · exact kh b o e
    · rw [z, ha] at e
      cases e
  have J : Inv X pins σ (upd H1 dx (.xd [("at", .int n)])) { s1 with heap := G, toks := tk' } := I1.laidN kG hdx hH (xd_ok (hns.at fun o z => (gk dx hne).trans z))
  have hA2 : upd H1 dx (.xd [("at", .int n)]) a = none := by rw [upd_ne (Ne.symm hne)]; exact hA
  have J2 : Inv X pins σ (upd (upd H1 dx (.xd [("at", .int n)])) a (ExV C dx a)) { s1 with heap := h', toks := tk' } := J.laidN (h' := h') (t' := tk') (fun b o e => by
    have hb : b ≠ a := fun z => by
      have e2 : G.get? b = some o := e
      rw [z, ga] at e2
      cases e2
    exact (gk b hb).symm.trans e) ga hA2 (exV_ok hx ⟨rfl, rfl⟩ rfl)
  exact ⟨.ref a, _, J2, rfl, q1 dx a hH hA (Ne.symm hne)⟩
/-- e.at of a refusal that is kept -/
def tXfV (C : Addr) (f : Str) (te : TE) : TE := fun σ H Q => te σ H fun x H1 => ∃ (a d : Addr) (fs : List (Str × V)) (v : V), x = .ref a ∧ H1 a = some (ExV C d a) ∧ H1 d = some (.xd fs) ∧ fs.lookup f = some v ∧ Q v H1
theorem pe_xfV {e : Expr} {te : TE} {pos : Pos} {f : Str} (T : XfC X.K C) (hno : PySem.W.findIn X.K (.ref C) f = some none) (he : PE X e te) (hb : attributeBase e f X.env (eval e X.env) = eval e X.env := by rfl) : PE X (.Attribute e f pos) (tXfV C f te) := by
  refine ⟨fun pins s σ H Q I h => ?_⟩
  refine attr_of hb (thn (he.run pins s σ H _ I h) fun u s1 hh => ?_)
  obtain ⟨x, H1, I1, rx, a, dd, fs, v, rfl, ea, ed, l, q⟩ := hh
  obtain rfl : u = Value.ref a := rx
  obtain ⟨oe, vs, ha, hz, hd⟩ := exV_at I1.hok ea
  have hx : ObjOk X.prog X.w H1 s1.heap dd (.xd fs) := I1.hok dd _ ed
  obtain ⟨mA, hns, hr⟩ := hx
  obtain ⟨od, ho, hl⟩ := lookIn_ns hns
  obtain ⟨u, hu, ru⟩ := RelO.some_of (v := v) (o := mA f) (by rw [← l]; exact hr f)
  have J : PySem.W.InstAt s1.heap a oe C (some od) := ⟨ha, hz.1, by unfold PySem.W.notCls; rw [hd] <;> rfl, by rw [hz.2]; exact ho⟩
  exact HandSPX.exc_get I1.kIn J T.ga T.gg T.exC (PySem.W.findObj_own T.hdC hno rfl (by rw [hl, hu])) (handed_of ru) ⟨v, H1, I1.tok _, ru, q⟩
theorem instV {a d : Addr} {fs : List (Str × V)} (I : Inv X pins σ H s) (ea : H a = some (ExV C d a)) (ed : H d = some (.xd fs)) : ∃ oe od, PySem.W.InstAt s.heap a oe C (some od) := by
  obtain ⟨oe, vs, ha, hz, hd⟩ := exV_at I.hok ea
  have hx : ObjOk X.prog X.w H s.heap d (.xd fs) := I.hok d _ ed
  obtain ⟨mA, hns, hr⟩ := hx
  obtain ⟨od, ho, hl⟩ := lookIn_ns hns
  exact ⟨oe, od, ha, hz.1, by unfold PySem.W.notCls; rw [hd] <;> rfl, by rw [hz.2]; exact ho⟩
/-- isinstance(e, c) and isinstance(e, (c, ..)) -/
def rIsV (K : PySem.W.Frag) (C : Addr) : List V → Hp → VK → Prop := fun xs H Q => ∃ (a d : Addr) (fs : List (Str × V)) (c : V) (u : Value) (b : Bool), xs = [.ref a, c] ∧ ClsV c u ∧ H a = some (ExV C d a) ∧ H d = some (.xd fs) ∧ PySem.W.kitOne K (.ref C) u = some b ∧ Q (.bl b) H
theorem call_isV (T : ExcC X.K C) : CallR X (.builtin "isinstance") (rIsV X.K C) := by
  intro pins s σ H xs us Q I r h
  obtain ⟨a, d, fs, c, u, b, rfl, k, ea, ed, e, q⟩ := h
  obtain ⟨u1, u2, rfl, r1, r2⟩ := vals2 r
  have e2 := k.eq r2
  subst e2
  obtain rfl : u1 = Value.ref a := r1
  obtain ⟨oe, od, J⟩ := instV I ea ed
  have hcl : (PySem.W.clsIn X.K C).isSome = true := by obtain ⟨cd, hc, _⟩ := PySem.W.any_some T.hd; rw [hc]; rfl
  exact PySem.W.kia_one (PySem.W.kitx_exc hcl T.hg T.hk T.hs T.ha T.hn T.ht T.hm) I.kIn J e (fun z => nomatch z) fun tk => ⟨.bl b, H, I.tok tk, rfl, q⟩
def rIsVT (K : PySem.W.Frag) (C : Addr) : List V → Hp → VK → Prop := fun xs H Q => ∃ (a d : Addr) (fs : List (Str × V)) (tp : Addr) (cs : List V) (us : List Value) (b : Bool), xs = [.ref a, .ref tp] ∧ H tp = some (.tup cs) ∧ Paired ClsV cs us ∧ H a = some (ExV C d a) ∧ H d = some (.xd fs) ∧ PySem.W.kitAny K (.ref C) us = some b ∧ Q (.bl b) H
theorem call_isVT (T : ExcC X.K C) : CallR X (.builtin "isinstance") (rIsVT X.K C) := by
  intro pins s σ H xs us Q I r h
  obtain ⟨a, d, fs, tp, cs, ws, b, rfl, hT, k, ea, ed, e, q⟩ := h
  obtain ⟨u1, u2, rfl, r1, r2⟩ := vals2 r
  cases (show u2 = Value.ref tp from r2)
  obtain rfl : u1 = Value.ref a := r1
  obtain ⟨oe, od, J⟩ := instV I ea ed
  obtain ⟨_, its, rv, o, h1, h2, n, h3⟩ := (show ObjOk X.prog X.w H s.heap tp (.tup cs) from I.hok tp _ hT)
  have e3 := ClsV.all k rv
  subst e3
  obtain ⟨oc, od', dt, sl⟩ := o
  simp only at h2 h3
  subst h2 h3
  have hcl : (PySem.W.clsIn X.K C).isSome = true := by obtain ⟨cd, hc, _⟩ := PySem.W.any_some T.hd; rw [hc]; rfl
  exact PySem.W.kia_tup (PySem.W.kitx_exc hcl T.hg T.hk T.hs T.ha T.hn T.ht T.hm) I.kIn J h1 e (fun z => nomatch z) fun tk => ⟨.bl b, H, I.tok tk, rfl, q⟩
end
end HM
namespace HM
open PySem PySem.Spec PyProof.Rows L2
section
variable {X : Cx} {pins : List (Addr × Obj)} {σ : L2.St} {H : Hp} {s : Shared}
/-- a record that nobody tracks and that was not there at the entry may be tracked -/
theorem track {a C d : Addr} {oe : Obj} {vs : Array Value} (I : Inv X pins σ H s) (ha : s.heap.get? a = some oe) (hz : Zc (.ref C) (some d) oe) (hd : oe.data = .fields vs) (na : H a = none) (n0 : X.s_0.heap.get? a = none) (np : ∀ p ∈ X.pn ++ pins, p.1 ≠ a) (nL : a ≠ X.env.locals) :
    Inv X pins σ (upd H a (ExV C d a)) s := by
  have ne0 : ∀ {b : Addr} {o : Obj}, X.s_0.heap.get? b = some o → b ≠ a := fun {b o} e z => by
    rw [z, n0] at e
    cases e
  refine ⟨I.ok, I.os, I.bare, ⟨I.base.keep, I.base.slot, fun b o e n hx => ?_, I.base.there, fun b xs e => ?_, fun b o u e => ?_, fun b ps e => ?_⟩, I.loc, I.cell, ?_, fun x c e => ?_, fun p hp => ?_, fun b u e => ?_, I.len⟩
  · rw [upd_ne (ne0 e)]
    exact I.base.free b o e n hx
  · have q := I.base.tups b xs e
    rw [upd_ne (ne_of_none q na)]
    exact q
  · have q := I.base.frzs b o u e
    rw [upd_ne (ne_of_none q na)]
    exact q
  · obtain ⟨more, q⟩ := I.base.tbls b ps e
    exact ⟨more, by rw [upd_ne (ne_of_none q na)]; exact q⟩
  · rw [upd_ne nL.symm]
    exact I.free
  · rw [upd_ne fun z => ?_]
    · exact I.freeC x c e
    · obtain ⟨v, o, ho, hv⟩ := I.cell x c e
      rw [z, ha] at ho
      cases ho
      rw [hd] at hv
      cases hv
  · obtain ⟨h1, h2, h3⟩ := I.pin p hp
    exact ⟨h1, by rw [upd_ne (np p hp)]; exact h2, h3⟩
  · by_cases hb : b = a
    · subst hb
      rw [upd_same] at e
      cases e
      exact exV_ok ha hz hd
    · rw [upd_ne hb] at e
      exact (I.hok b u e).stay (fun c v _ q => q) (fun c q => by rw [upd_ne (ne_of_none q na)]; exact q) fun c xs q => by rw [upd_ne (ne_of_none q na)]; exact q
end
/-- what 'except x as n' wishes: the refusal is kept behind its suite -/
def wKeep (K : PySem.W.Frag) (c : Value) (i : Nat) (ts : Addr → TS) (Wout : WX) (D : Ends) : WX := fun cls d σ H =>
  ∃ b, PySem.W.exmOne K cls c = some b ∧ (b = true → ∃ C dd : Addr, cls = .ref C ∧ d = some dd ∧ ∀ a, H a = none →
    ts a { nx := fun σ' H' => D.nx (σ'.set i none) (upd H' a (ExV C dd a)), rt := fun _ _ => False, bk := fun _ _ => False, ct := fun _ _ => False } (σ.set i (some (.ref a))) H) ∧ (b = false → Wout cls d σ H)
section
variable {X : Cx} {x n : Str} {c : Value} {i : Nat} {body suite : List Stmt} {b₀ : Stmt} {np pos pos' : Pos} {tb : WX → TS} {ts : Addr → TS} {Wout : WX}
theorem ps_tryK (hs : X.stack = X.env :: X.outer) (hf : X.env.frame = some X.env.locals) (hN : X.N.Nodup) (hi : X.N[i]? = some n) (hln : X.env.kindOf n = some .local) (hc : Names X x c) (tk : Takes X Wout) (hex : X.ex = [])
    (hb : ∀ (W : WX) (pn : List (Addr × Obj)) (xe : Value → Shared → Prop), Takes (X.tr pn xe) W → PassesOwn (model X.prog X.w) X.A X.env xe → PSs (X.tr pn xe) body (tb W))
    (hsu : ∀ (a : Addr) (oe : Obj) (pn : List (Addr × Obj)), PSs (X.suite a ((a, oe) :: pn)) (b₀ :: suite) (ts a)) :
    PS X (.Try body [.ExceptHandler (some (.Name x np)) (some n) (b₀ :: suite) pos'] [] [] pos) (fun D σ H => tb (wKeep X.K c i ts Wout D) D σ H) := by
  refine ⟨fun pins s σ H D I h => ?_⟩
  have ok := I.ok
  have hfr : X.A.frames = some (X.env :: X.outer) := ok.frames.trans (congrArg some hs)
  obtain ⟨hd, ehd⟩ : ∃ hd : ExceptHandler, hd = .ExceptHandler (some (.Name x np)) (some n) (b₀ :: suite) pos' := ⟨_, rfl⟩
  have catch_ : ∀ u s', XE (X.tr (X.pn ++ pins) fun _ _ => True) (wKeep X.K c i ts Wout D) u s' → wpAny (model X.prog X.w) X.A (noteFrame u X.env) (fun _ s₂ => wpAny (model X.prog X.w) X.A (setFlight u none) (fun _ s₃ =>
      wpAny (model X.prog X.w) X.A (handleBy u X.env [hd]) (SP X pins D) X.xe s₃) X.xe s₂) X.xe s' := fun u s' xx => by
    obtain ⟨a, B, sI, pins', σ', H', cls, d, rfl, J', nb, up, sky, na, os, ag, b, hb1, hyes, hno⟩ := xx
    have J : Inv X pins σ' H' sI := J'.ofTry ok
    have sky2 : Sky B (X.env :: X.outer) a (Zc cls d) X.env.locals s'.heap := hs ▸ sky
    refine Sky.land Zc.steady hfr hf sky2 fun h3 fl3 up3 => ?_
    have J3 : Inv X pins σ' H' { s' with heap := h3 } := J.landed nb fl3.1 (up.trans up3) os ag
    obtain ⟨oe3, vs3, he3, hz3, hd3⟩ := fl3.there
    have nfr : a ∉ frs (X.env :: X.outer) := fun hm => by
      obtain ⟨_, o', e', hnf⟩ := fl3.2.2.1.mem hm
      cases he3.symm.trans e'
      exact hnf _ hd3
    have hBa : B.get? a = none := fl3.2.1
    have nL : a ≠ X.env.locals := fun z => nfr (List.mem_filterMap.mpr ⟨X.env, List.mem_cons_self, by rw [z]; exact hf⟩)
    have nF : a ∉ X.fs := fun hm => by
      obtain ⟨e, he, q⟩ := List.mem_filterMap.mp hm
      exact nfr (List.mem_filterMap.mpr ⟨e, List.mem_cons_of_mem _ he, q⟩)
    have S3 := J3.suite he3 hd3 na nL nF
    rw [ehd]
    refine wpAny_handleBy_cons (codeAny_handlers_test ?_) (by intro q; cases q)
    have LM := PySem.W.exm_one (M := model X.prog X.w) J3.kIn (show PySem.W.Looks (model X.prog X.w) h3 (typeOf (.ref a)) cls from fun A Q E s k q => wpAny_typeOf_ref (k _ _ he3) (hz3.1 ▸ q)) hb1
    have test : ∀ {Q : Value → Shared → Prop} {E : Value → Shared → Prop}, Q c { s' with heap := h3 } → wpAny (model X.prog X.w) (X.A.mark (some (.ref a))) (eval (.Name x np) X.env) Q E { s' with heap := h3 } := fun {Q E} q => by
      obtain ⟨hg, hdbg, hm | ⟨hm, hv, hnn⟩⟩ := hc
      · exact ld_glob (X := X.suite a ((a, oe3) :: (X.pn ++ pins))) S3 hg hm q hdbg
      · exact ld_blt (X := X.suite a ((a, oe3) :: (X.pn ++ pins))) S3 hg hm hv q hnn hdbg
    refine test (LM.here ?_)
    cases b with
    | true =>
      obtain ⟨C, dd, rfl, rfl, hye2⟩ := hyes rfl
      refine codeAny_handlers_suite_as (HandSPX.lands_againZ fl3 fun h4 fl4 up4 => ?_)
      have J4 : Inv X pins σ' H' { s' with heap := h4 } := J.landed nb fl4.1 ((up.trans up3).trans up4) os ag
      obtain ⟨oe4, vs4, he4, hz4, hd4⟩ := fl4.there
      have S4 := J4.suite he4 hd4 na nL nF
      refine store_ok (X := X.suite a ((a, oe4) :: (X.pn ++ pins))) (v := .ref a) S4 hN hi (.inl hln) rfl (fun s5 S5 => ?_) (.inr hln)
      refine wpAny_mono ((hsu a oe4 (X.pn ++ pins)).run [] s5 _ H' _ S5 (hye2 a na)) (fun f s6 hsp => ?_) (fun _ _ z => z.elim)
      cases f with
      | next =>
        obtain ⟨σ6, H6, S6, q6⟩ := hsp
        obtain ⟨p1, p2, _⟩ := S6.pin (a, oe4) (List.mem_append_left _ List.mem_cons_self)
        have n0 : X.s_0.heap.get? a = none := by
          cases e : X.s_0.heap.get? a with
          | none => rfl
          | some o =>
            obtain ⟨o', e'⟩ := J.base.there a o e (by rw [hex]; exact fun z => nomatch z)
            have z := nb a o' e' (by show a ∉ frs X.stack; rw [hs]; exact nfr)
            rw [hBa] at z
            cases z
        have npin : ∀ p ∈ X.pn ++ pins, p.1 ≠ a := fun p hp z => by
          obtain ⟨e1, e2, e3, e4, _⟩ := J.pin p hp
          rw [z] at e1
          have q := nb a _ e1 (by show a ∉ frs X.stack; rw [hs]; exact nfr)
          rw [hBa] at q
          cases q
        have J6 : Inv X pins σ6 (upd H6 a (ExV C dd a)) s6 := track (S6.unsuite ok) p1 hz4 hd4 p2 n0 npin nL
        exact gone_ok J6 hN hi hln fun s7 J7 => ⟨_, _, J7, q6⟩
      | brk =>
        obtain ⟨σ6, H6, S6, q6⟩ := hsp
        exact q6.elim
      | cont =>
        obtain ⟨σ6, H6, S6, q6⟩ := hsp
        exact q6.elim
      | ret u =>
        obtain ⟨v6, σ6, H6, S6, r6, q6⟩ := hsp
        exact q6.elim
    | false =>
      refine wpAny_handleBy_nil ?_
      obtain ⟨k1, k2, k3, oe, vs, T, oT, ts', he, hz, hd, h1, hr⟩ := id fl3
      unfold PySem.passOn
      refine wpAny_bind (wpAny_field he hd h1 ?_)
      rw [if_neg (show ¬ ((Value.ref T == Value.none) = true) from by simp)]
      have fin : wpAny (model X.prog X.w) X.A (setFlight (.ref a) X.env.frame) (fun _ s4 => wpAny (model X.prog X.w) X.A (throw (.ref a) : Sem Flow) (SP X pins D) X.xe s4) X.xe { s' with heap := h3 } := by
        rw [hf]
        refine HandSPX.setFlight_upZ fl3 fun h4 hh4 up4 => wpAny_throw (tk _ _ ⟨a, B, sI, pins, σ', H', cls, d, rfl, J, nb, (up.trans up3).trans up4, .inr (.inr (hs ▸ hh4)), na, os, ag, hno rfl⟩)
      first
        | exact wpAny_bind (wpAny_pure (wpAny_bind fin))
        | exact wpAny_bind fin
  rw [← ehd]
  refine wpAny_Try_except ?_
  refine wpAny_mono ((hb (wKeep X.K c i ts Wout D) (X.pn ++ pins) _ (fun u s' xx => catch_ u s' ?_) PassesOwn.looking).run [] s σ H D (I.toTry _) h) (fun f s1 hsp => ?_) (fun e s1 he => he)
  · obtain ⟨a, B, sI, pins', σ', H', cls, d, e, J', r⟩ := xx
    exact ⟨a, B, sI, pins', σ', H', cls, d, e, ⟨J'.ok.ofTry.toTry _ _, J'.os, J'.bare, J'.base, J'.loc, J'.cell, J'.free, J'.freeC, J'.pin, J'.hok, J'.len⟩, r⟩
  · cases f with
    | next =>
      obtain ⟨σ', H', J', q⟩ := hsp
      exact wpAny_execs_nil ⟨σ', H', J'.ofTry ok, q⟩
    | brk =>
      obtain ⟨σ', H', J', q⟩ := hsp
      exact ⟨σ', H', J'.ofTry ok, q⟩
    | cont =>
      obtain ⟨σ', H', J', q⟩ := hsp
      exact ⟨σ', H', J'.ofTry ok, q⟩
    | ret u =>
      obtain ⟨v, σ', H', J', r, q⟩ := hsp
      exact ⟨v, σ', H', J'.ofTry ok, r, q⟩
end
end HM
namespace HM
open PySem PySem.Spec PyProof.Rows L2
/-! ### tuples whose object is known: they have no dict of their own, so that their methods can be asked for -/
def TF (H : Hp) (a : Addr) (xs : List V) : Prop := ∃ o : Obj, o.dict = none ∧ H a = some (.frz o (.tup xs))
theorem TF.sq {K : PySem.W.Frag} {H : Hp} {a : Addr} {xs : List V} (h : TF H a xs) : SqT K H a xs := let ⟨o, _, e⟩ := h; .inl (.inr ⟨o, e⟩)
/-- a new tuple of xs -/
def newT (xs : List V) (H : Hp) (Q : VK) : Prop := ∀ (p : Addr) (o : Obj), H p = none → o.dict = none → Q (.ref p) (upd H p (.frz o (.tup xs)))
section
variable {X : Cx} {pins : List (Addr × Obj)} {σ : L2.St} {H : Hp} {s : Shared}
theorem laidF {h' : Heap} {a : Addr} {its : List Value} {xs : List V} {t' : Nat} {Q : VK} (I : Inv X pins σ H s) (k : Grows s.heap h') (hp : s.heap.objs.size ≤ a) (hz : xs.length ≤ sizeLine) (r : Vals xs its) (e : h'.get? a = some { cls := .type "tuple", data := .seq its.toArray }) (q : newT xs H Q) :
    EP X pins σ Q (.ref a) { s with heap := h', toks := t' } :=
  ⟨.ref a, upd H a (.frz { cls := .type "tuple", data := .seq its.toArray } (.tup xs)), I.laid k hp ⟨e, hz, its, r, ⟨_, e, rfl, _, rfl⟩⟩, rfl, q a _ (I.hok.fresh hp) rfl⟩
/-- (a, b, ..) -/
def tTupF (t : TA) : TE := fun σ H Q => t σ H fun xs H1 => xs.length ≤ sizeLine ∧ newT xs H1 Q
theorem pe_tupF {x1 : Nat} {es : List Expr} {t : TA} {pos : Pos} (h : PA X es t) : PE X (.Tuple es x1 pos) (tTupF t) := by
  refine ⟨fun pins s σ H Q I hq => ?_⟩
  refine wpAny_Tuple_spliced (thn (h.run pos pins s σ H _ I hq) fun us s1 hx => ?_)
  obtain ⟨xs, H1, I1, r, z, q⟩ := hx
  exact ⟨by rw [← r.length]; exact z, laidF (t' := s1.toks) I1 (fun b u e => Heap.get?_push_of_some _ e) (Nat.le_refl _) z r (Heap.get?_push_size _ rfl) q⟩
/-- tuple(list) -/
def tTupOfF (K : PySem.W.Frag) (ta : TE) : TE := fun σ H Q => ta σ H fun x H1 => ∃ p xs, x = .ref p ∧ SqL K H1 p xs ∧ newT xs H1 Q
theorem pe_tupOfF {p pos : Pos} {a : Expr} {ta : TE} (hg : Gl X "tuple") (hm : X.mg "tuple" = none) (ha : PE X a ta) (na : starEach [a] X.env = (false, eval a X.env) :: starEach [] X.env := by rfl) : PE X (.Call (.Name "tuple" p) [a] [] pos) (tTupOfF X.K ta) := by
  refine ⟨fun pins s σ H Q I h => ?_⟩
  refine Call_ (ld_blt I hg hm boot_tuple (PyProof.Rows.callWith_type1 (one_arg ha I h (fun v s2 x H2 I2 r q => ?_) na) na))
  obtain ⟨b, xs, rfl, hs, q⟩ := q
  obtain rfl : v = .ref b := r
  obtain ⟨its, rv, pl, hz⟩ := I2.list hs
  refine call_tuple_list pl.isList (fun h' hk => ?_) (by rw [List.size_toArray, ← rv.length]; exact hz)
  have I3 : Inv X pins σ H2 { s2 with heap := h' } := I2.kept (t' := s2.toks) hk
  exact laidF (s := { s2 with heap := h' }) (t' := s2.toks) I3 (fun b u e => Heap.get?_push_of_some _ e) (Nat.le_refl _) hz rv (Heap.get?_push_size _ rfl) q
/-- tuple(range(..)) -/
def tTupRgF (te : L2.St → Hp → (Int → Int → Hp → Prop) → Prop) : TE := fun σ H Q => te σ H fun a b H1 => RgOk a b ∧ newT (rgV a b) H1 Q
theorem pe_tupRgF {p pos : Pos} {e : Expr} {te : L2.St → Hp → (Int → Int → Hp → Prop) → Prop} (hc : X.calm = true) (hg : Gl X "tuple") (hm : X.mg "tuple" = none) (he : PRg X e te) (na : starEach [e] X.env = (false, eval e X.env) :: starEach [] X.env := by rfl) :
    PE X (.Call (.Name "tuple" p) [e] [] pos) (tTupRgF te) := by
  refine ⟨fun pins s σ H Q I h => ?_⟩
  refine Call_ (ld_blt I hg hm boot_tuple (PyProof.Rows.callWith_type1 (PyProof.Rows.args_cons (thn (he pins s σ H _ I h) fun x s1 hx => PyProof.Rows.args_nil ?_) na) na))
  obtain ⟨r, a, b, t, u, v, H1, ex, hr, I1, ok, q⟩ := hx
  subst ex
  obtain ⟨b1, b2, b3, b4, b5⟩ := ok
  refine call_tuple_range (n := (b - a).toNat) (I1.ok.hd hc) hr (small_one b1 b2 b3 b4) (rangeSize_nat a b) b5 fun h' tk acc hk hi => ?_
  have I2 : Inv X pins σ H1 { s1 with heap := h', toks := tk } := I1.kept hk
  exact laidF (s := { s1 with heap := h', toks := tk }) (t' := tk) (its := acc.toList) I2 (fun b u e => Heap.get?_push_of_some _ e) (Nat.le_refl _) (by rw [rgV_length, sizeLine_eq]; omega) (vals_rg hi) (by rw [Array.toArray_toList]; exact Heap.get?_push_size _ rfl) q
/-- t + u -/
def rCatF (K : PySem.W.Frag) : R2 := fun x y H Q => ∃ a b xs ys, x = .ref a ∧ y = .ref b ∧ SqT K H a xs ∧ SqT K H b ys ∧ xs.length + ys.length ≤ sizeLine ∧ (xs = [] → Q (.ref b) H) ∧ (xs ≠ [] → ys = [] → Q (.ref a) H) ∧ (xs ≠ [] → ys ≠ [] → newT (xs ++ ys) H Q)
theorem op_catF : OpR X (binaryOp .Add) (rCatF X.K) := by
  intro pins s σ H x y v u Q I rx ry h
  obtain ⟨a, b, xs, ys, rfl, rfl, ha, hb, hz, q0, q1, q2⟩ := h
  cases rx
  cases ry
  obtain ⟨its, r1, p1, _⟩ := I.tuple ha
  obtain ⟨its2, r2, p2, _⟩ := I.tuple hb
  by_cases hx : xs = []
  · subst hx
    cases r1
    exact cat_tup0 p1 p2 ⟨.ref b, H, I, rfl, q0 rfl⟩
  · refine HT.cat_tup p1 p2 (fun z => hx (r1.nil_iff.mp z)) (fun z => ⟨.ref a, H, I, rfl, q1 hx (r2.nil_iff.mp z)⟩) (fun z => ?_) (by rw [← r1.length, ← r2.length]; exact hz)
    exact laidF (t' := s.toks) I (fun b u e => Heap.get?_push_of_some _ e) (Nat.le_refl _) (by rw [List.length_append]; exact hz) (r1.append r2) (Heap.get?_push_size _ rfl) (q2 hx fun w => z (r2.nil_iff.mpr w))
/-- t[lo:hi] -/
def rSlF (K : PySem.W.Frag) : V → Option Int → Option Int → Hp → VK → Prop := fun x lo hi H Q => ∃ a xs, x = .ref a ∧ SqT K H a xs ∧
  (HT.sIx xs.length 0 lo = 0 ∧ HT.sIx xs.length xs.length hi = xs.length → Q (.ref a) H) ∧ (¬ (HT.sIx xs.length 0 lo = 0 ∧ HT.sIx xs.length xs.length hi = xs.length) → newT (cutV xs lo hi) H Q)
theorem sl_tupF : SlR X (rSlF X.K) := by
  intro pins s σ H x v vl vu lo hi sl Q I rx hs pl pu h
  obtain ⟨a, xs, rfl, hx, q1, q2⟩ := h
  cases rx
  obtain ⟨its, r, ht, hz⟩ := I.tuple hx
  have hlen : its.toArray.size = xs.length := by rw [List.size_toArray]; exact r.length.symm
  refine ⟨"tuple", _, PyProof.Rows.slot_tuple_getitem.lookup, ht.typeIs, ?_⟩
  by_cases hw : HT.sIx xs.length 0 lo = 0 ∧ HT.sIx xs.length xs.length hi = xs.length
  · exact getItem_tuple_whole ht hs pl pu (by rw [hlen]; exact hw) ⟨.ref a, H, I, rfl, q1 hw⟩
  · refine HT.getItem_tuple_cut ht hs pl pu (by rw [hlen]; exact hw) ?_ (by rw [hlen]; exact hz)
    rw [hlen]
    exact laidF (t' := s.toks) I (fun b u e => Heap.get?_push_of_some _ e) (Nat.le_refl _) (Nat.le_trans (cutV_length xs lo hi) hz) ((r.drop (HT.sIx xs.length 0 lo)).take (HT.sIx xs.length xs.length hi - HT.sIx xs.length 0 lo)) (Heap.get?_push_size _ rfl) (q2 hw)
/-- t.m(e, ..) -/
def tTM (r : V → List V → Hp → VK → Prop) (to : TE) (t : TA) : TE := fun σ H Q => to σ H fun x H1 => (∃ a xs, x = .ref a ∧ TF H1 a xs) ∧ t σ H1 fun ys H2 => r x ys H2 Q
theorem pe_tm {o e : Expr} {es : List Expr} {to : TE} {t : TA} {name : Str} {apos cpos : Pos} {id : String} {r : V → List V → Hp → VK → Prop} (slot : Slot "tuple" name id) (hty : typeOf (.builtin id) = pure (.type "method_descriptor")) (hm : MtR X id r) (ho : PE X o to) (ha : PA X (e :: es) t)
    (hbase : attributeBase o name X.env (eval o X.env) = eval o X.env := by rfl)
    (hfew : ((backTo cpos (starEach (e :: es) X.env)).all (fun x => !x.1) && (backToKw cpos (keywordEach [] X.env)).all (fun x => x.1.isSome) && decide ((e :: es).length + ([] : List Keyword).length + (if ([] : List Keyword).isEmpty then 0 else 1) < 30)) = true := by rfl)
    (hline : (apos.endLine == cpos.line) = true := by rfl) (hs : starEach (e :: es) X.env = (false, eval e X.env) :: starEach es X.env := by rfl) (hplain : (backTo cpos (starEach es X.env)).any (·.1) = false := by rfl) : PE X (.Call (.Attribute o name apos) (e :: es) [] cpos) (tTM r to t) := by
  refine ⟨fun pins s σ H Q I h => ?_⟩
  refine wpAny_Call_method_late hbase hfew hline rfl (thn (ho.run pins s σ H _ I h) fun v s1 hx => ?_)
  obtain ⟨x, H1, I1, r1, ⟨a, xs, rfl, ob, hd, hA⟩, q1⟩ := hx
  cases r1
  obtain ⟨g1, _, its, _, o2, g2, hc, _⟩ := (show ObjOk X.prog X.w H1 s1.heap a (.frz ob (.tup xs)) from I1.hok a _ hA)
  refine ⟨"tuple", id, PySem.F.plainAttrs_tuple, slot, hty, ⟨o2, g2, hc⟩, fun b z => ?_, ?_⟩
  · cases z
    exact ⟨ob, g1, hd⟩
  · have hp := ha.run cpos pins s1 σ H1 _ I1 q1
    rw [hs] at hp ⊢
    refine Calls.callWith_builtin (by show (false || (backTo cpos (starEach es X.env)).any (·.1)) = false; rw [hplain] <;> rfl) (Calls.evalArgs_plain (thn hp fun us s2 hy => ?_))
    obtain ⟨vs, H2, I2, r2, q2⟩ := hy
    exact hm pins s2 σ H2 (.ref a) vs (.ref a) us Q I2 rfl r2 q2
end
/-! ### t[::-1] -/
section
variable {prog : Program} {w : World} {A : Around} {E : Value → Shared → Prop} {s : Shared}
theorem pick_back (xs : Array Value) : ((List.range xs.size).filterMap fun (k : Nat) => xs[(((xs.size : Int) - 1) + (k : Int) * (-1)).toNat]?).toArray = xs.toList.reverse.toArray := by
  have e : (fun (k : Nat) => xs[(((xs.size : Int) - 1) + (k : Int) * (-1)).toNat]?) = fun k => xs[xs.size - 1 - k]? := by
    funext k
    have : (((xs.size : Int) - 1) + (k : Int) * (-1)).toNat = xs.size - 1 - k := by omega
    rw [this]
  have h := PySem.W.krv_range xs.size
  have h2 := congrArg (List.filterMap (xs[·]?)) h
  rw [List.filterMap_map, List.filterMap_reverse, PySem.W.krv_all] at h2
  rw [e]
  exact congrArg List.toArray h2
theorem getItem_tuple_back {t sl : Addr} {items : Array Value} {vl vu vk : Value} {Q : Value → Shared → Prop} (ht : IsTup s.heap t items) (hs : s.heap.IsSliceOf sl vl vu vk) (pl : IsPart vl none) (pu : IsPart vu none) (pk : IsPart vk (some (-1)))
    (h : Q (.ref s.heap.objs.size) { s with heap := s.heap.push { cls := .type "tuple", data := .seq items.toList.reverse.toArray } }) (hsz : items.size ≤ sizeLine) : wpAny (model prog w) A (getItem (.ref t) (.ref sl)) Q E s := by
  obtain ⟨os, hos, hcs, hds⟩ := _root_.id hs
  have hTs : s.TypeIs (.ref sl) "slice" := ⟨os, hos, hcs⟩
  have hfit : sizeOk (.seq items.toList.reverse.toArray) := by
    show items.toList.reverse.toArray.size ≤ sizeLine
    rw [List.size_toArray, List.length_reverse, Array.length_toList]
    exact hsz
  unfold getItem
  try with_reducible refine wpAny_holding ?_
  first | refine wpAny_bind (wpAny_pure ?_) | skip
  refine wpAny_bind (wpAny_sequenceKey ht.typeIs (by decide) ?_)
  refine wpAny_bind (wpAny_callSpecial?_slot (name := Str.ofString "__getitem__") ht.typeIs PyProof.Rows.slot_tuple_getitem (wpAny_call_entry PyProof.Rows.slot_tuple_getitem ht.typeIs entry_tuple_getitem ?_ (args_tuple_getitem _ _)))
  show wpAny _ _ (Builtin.Tuple.tupleItemsOf (.ref t) >>= _) _ _ s
  refine wpAny_bind (tupleItemsOf_ ht (wpAny_bind (wpAny_typeOf hTs ?_)))
  rw [if_pos (by decide)]
  have ap : ∀ {Q2 : Int × Int × Nat → Shared → Prop} {E2 : Value → Shared → Prop} {A2 : Around}, Q2 ((items.size : Int) - 1, -1, items.size) s → wpAny (model prog w) A2 (Builtin.Slice.sliceApplied (.ref sl) (pure (items.size : Int))) Q2 E2 s := fun {Q2 E2 A2} hq => by
    unfold Builtin.Slice.sliceApplied Builtin.Slice.sliceFields
    refine wpAny_bind (wpAny_bind (wpAny_field hos hds (x := vl) rfl (wpAny_bind (wpAny_field hos hds (x := vu) rfl (wpAny_bind (wpAny_field hos hds (x := vk) rfl (wpAny_pure ?_)))))))
    refine wpAny_bind (HT.slicePart_ pk ?_)
    show wpAny _ _ (if ((-1 : Int) == 0) = true then _ else _) _ _ s
    rw [if_neg (by decide)]
    refine wpAny_bind (HT.slicePart_ pl (wpAny_bind (HT.slicePart_ pu (wpAny_bind (wpAny_pure ?_)))))
    have ea : Builtin.Slice.sliceAdjust none none (-1) (items.size : Int) = ((items.size : Int) - 1, -1) := rfl
    have ep : Builtin.Slice.slicePlaces ((items.size : Int) - 1) (-1) (-1) = items.size := by
      unfold Builtin.Slice.slicePlaces
      have h1 : ¬ ((-1 : Int) > 0) := by decide
      rw [if_neg h1]
      by_cases h2 : (items.size : Int) - 1 > -1
      · rw [if_pos h2, show (- (-1 : Int)) = 1 by decide, Int.ediv_one]
        omega
      · rw [if_neg h2]
        omega
    show wpAny _ _ (match Builtin.Slice.sliceAdjust none none (-1) (items.size : Int) with | (lo, hi) => pure (lo, (-1 : Int), Builtin.Slice.slicePlaces lo hi (-1))) _ _ s
    rw [ea]
    show wpAny _ _ (pure ((items.size : Int) - 1, (-1 : Int), Builtin.Slice.slicePlaces ((items.size : Int) - 1) (-1) (-1))) _ _ s
    rw [ep]
    exact wpAny_pure hq
  refine wpAny_bind (ap ?_)
  have hno : ¬ ((((items.size : Int) - 1) == 0 && (-1 : Int) == 1 && items.size == items.size) = true) := by
    rw [show ((-1 : Int) == 1) = false by decide, Bool.and_false, Bool.false_and]
    exact Bool.false_ne_true
  show wpAny _ _ (if (((items.size : Int) - 1) == 0 && (-1 : Int) == 1 && items.size == items.size) = true then _ else _) _ _ s
  rw [if_neg hno, pick_back]
  first
    | exact wpAny_bind (m := Builtin.Tuple.tupleExact _) (wpAny_newObj_type (wpAny_pure ⟨_, rfl, wpAny_pure h⟩) hfit)
    | exact wpAny_bind (m := Builtin.Tuple.tupleExact _) (wpAny_newObj_type (wpAny_bind (wpAny_pure (wpAny_pure ⟨_, rfl, wpAny_pure h⟩))) hfit)
    | exact wpAny_bind (wpAny_bind (m := Builtin.Tuple.tupleExact _) (wpAny_newObj_type (wpAny_pure (wpAny_pure ⟨_, rfl, wpAny_pure h⟩)) hfit))
    | exact wpAny_bind (wpAny_bind (m := Builtin.Tuple.tupleExact _) (wpAny_newObj_type (wpAny_pure ⟨_, rfl, wpAny_pure h⟩) hfit))
end
section
variable {X : Cx}
def tBackT (K : PySem.W.Frag) (te : TE) : TE := fun σ H Q => te σ H fun x H1 => ∃ a xs, x = .ref a ∧ SqT K H1 a xs ∧ newT xs.reverse H1 Q
theorem pe_backT {e : Expr} {te : TE} {k : Nat} {p1 p2 p3 pos : Pos} (he : PE X e te) : PE X (.Subscript e (.Slice none none (some (.UnaryOp .USub (.Constant (.int 1) k p1) p2)) p3) pos) (tBackT X.K te) := by
  refine ⟨fun pins s σ H Q I h => ?_⟩
  refine Subscript_ (thn (he.run pins s σ H _ I h) fun v s1 hx => ?_)
  obtain ⟨x, H1, I1, r1, a, xs, rfl, hq, q⟩ := hx
  cases r1
  have hst : PO X (some (.UnaryOp .USub (.Constant (.int 1) k p1) p2)) (tPart (tUn (rU fun i => .int (-i)) (tC (.int 1)))) := po_some (pe_un un_neg pe_int)
  refine wpAny_Slice (thn (po_none.run pins s1 σ H1 (fun o H2 => o = none ∧ H2 = H1) I1 ⟨rfl, rfl⟩) fun vl s2 h2 => ?_)
  obtain ⟨_, _, I2, pl, rfl, rfl⟩ := h2
  refine thn (po_none.run pins s2 σ _ (fun o H3 => o = none ∧ H3 = _) I2 ⟨rfl, rfl⟩) fun vu s3 h3 => ?_
  obtain ⟨_, _, I3, pu, rfl, rfl⟩ := h3
  refine thn (hst.run pins s3 σ _ (fun o H4 => o = some (-1) ∧ H4 = _) I3 ⟨1, rfl, -1, rfl, rfl, rfl⟩) fun vs s4 h4 => ?_
  obtain ⟨_, H4, I4, ps, rfl, rfl⟩ := h4
  have I5 : Inv X pins σ H4 { s4 with heap := s4.heap.push { cls := .type "slice", data := .fields #[vl, vu, vs] } } := I4.kept (t' := s4.toks) fun b ob q => Heap.get?_push_of_some _ q
  obtain ⟨its, r, ht, hz⟩ := I5.tuple hq
  have hlen := r.length
  show wpAny (model X.prog X.w) X.A (subscriptTail e (.Slice none none (some (.UnaryOp .USub (.Constant (.int 1) k p1) p2)) p3) (.ref a) (.ref s4.heap.objs.size)) (EP X pins σ Q) X.xe _
  refine tail_any (ops := [.ref a, .ref s4.heap.objs.size]) ht.typeIs PyProof.Rows.slot_tuple_getitem.lookup ?_ (by with_unfolding_all rfl)
  refine getItem_tuple_back ht (Heap.IsSliceOf.new _ vl vu vs) pl pu ps ?_ (by rw [List.size_toArray]; omega)
  exact laidF (t' := s4.toks) (its := its.reverse) I5 (fun b u e => Heap.get?_push_of_some _ e) (Nat.le_refl _) (by rw [List.length_reverse]; exact hz) r.reverse (Heap.get?_push_size _ rfl) q
end
end HM
namespace HM
open PySem PySem.Spec PyProof.Rows L2
/-! ### dict(enumerate(t)), t a tuple -/
section
variable {prog : Program} {w : World} {A : Around} {E : Value → Shared → Prop} {s : Shared}
abbrev pairObj (c : Int) (tk : Nat) (x : Value) : Obj := { cls := .type "tuple", data := .seq #[.int c tk, x] }
/-- next(e) while the pair that was handed out before is still there -/
theorem enum_held {e it T : Addr} {fp : List Addr} {n i : Nat} {c : Int} {Pv : Nat → Value → Prop} {St : Nat → Heap → Prop} {old : Value} {fl : Bool} {oT : Obj} {Q : Value → Shared → Prop}
    (D : Draws prog w A it fp n Pv St) (he : IsEnumHeld s.heap e it c old T fl) (hT : s.heap.get? T = some oT) (hTe : T ≠ e) (hTi : T ≠ it) (st : St i s.heap) (hi : i < n) (hei : e ≠ it) (hef : e ∉ fp)
    (hQ : ∀ x h' tk, Pv i x → IsEnumHeld h' e it (c + 1) old T true → St (i + 1) h' → h'.get? s.heap.objs.size = some (pairObj c tk x) → (∀ b o, b ≠ e → b ≠ it → s.heap.get? b = some o → h'.get? b = some o) → Q (.ref s.heap.objs.size) { s with heap := h', toks := tk + 1 }) :
    wpAny (model prog w) A (Builtin.«enumerate.__next__» ⟨[.ref e], []⟩) (fun fin s' => ∃ v, fin = .done (.ret v) ∧ Q v s') E s := by
  obtain ⟨hp, gs, dr, tk0, os⟩ := s
  show wpAny _ _ (field (.ref e) 2 >>= _) _ _ _
  refine wpAny_bind (wpAny_field he rfl (x := .ref it) rfl (wpAny_bind (D.item i _ _ _ hi st fun x g1 tk hx st1 m1 => ?_)))
  replace m1 : Heap.SameBut it hp g1 := m1
  have q1 : IsEnumHeld g1 e it c old T fl := (m1.2 e hei).trans he
  show wpAny _ _ (field (.ref e) 3 >>= _) _ _ ⟨g1, gs, dr, tk, os⟩
  refine wpAny_bind (wpAny_field q1 rfl (x := rawInt c) rfl ?_)
  show wpAny _ _ (field (.ref e) 4 >>= _) _ _ ⟨g1, gs, dr, tk, os⟩
  refine wpAny_bind (wpAny_field q1 rfl (x := .none) rfl ?_)
  show wpAny _ _ (mkInt c >>= _) _ _ ⟨g1, gs, dr, tk, os⟩
  refine wpAny_bind (wpAny_mkInt ?_)
  show wpAny _ _ (setField (.ref e) 3 (rawInt (c + 1)) >>= _) _ _ ⟨g1, gs, dr, tk + 1, os⟩
  refine wpAny_bind (wpAny_setField_rec q1 (by simp) fun g2 q2 m2 => ?_)
  replace m2 : Heap.SameBut e g1 g2 := m2
  replace q2 : IsEnumHeld g2 e it (c + 1) old T fl := q2
  show wpAny _ _ (setField (.ref e) 4 .none >>= _) _ _ ⟨g2, gs, dr, tk + 1, os⟩
  refine wpAny_bind (wpAny_setField_rec q2 (by simp) fun g3 q3 m3 => ?_)
  replace m3 : Heap.SameBut e g2 g3 := m3
  replace q3 : IsEnumHeld g3 e it (c + 1) old T fl := q3
  show wpAny _ _ (newTuple [.int c tk, x] >>= _) _ _ ⟨g3, gs, dr, tk + 1, os⟩
  refine wpAny_bind (wpAny_newTuple ?_)
  have z3 : g3.objs.size = hp.objs.size := by rw [m3.1, m2.1, m1.1]
  obtain ⟨g4, eg⟩ : ∃ g4, g4 = g3.push (pairObj c tk x) := ⟨_, rfl⟩
  have q4 : IsEnumHeld g4 e it (c + 1) old T fl := by
    rw [eg]
    exact Heap.get?_push_of_some _ q3
  have p4 : g4.get? hp.objs.size = some (pairObj c tk x) := by
    rw [eg, ← z3]
    exact Heap.get?_push_size _ rfl
  have k4 : ∀ b o, b ≠ e → b ≠ it → hp.get? b = some o → g4.get? b = some o := fun b o n1 n2 y => by
    rw [eg]
    exact Heap.get?_push_of_some _ (m3.extBut b o n1 (m2.extBut b o n1 (m1.extBut b o n2 y)))
  have st4 : St (i + 1) g4 := D.frame _ _ _ st1 fun b hb o y => by
    have n1 : b ≠ e := fun z => hef (z ▸ hb)
    rw [eg]
    exact Heap.get?_push_of_some _ (m3.extBut b o n1 (m2.extBut b o n1 y))
  show wpAny _ _ (Builtin.SmallTypes.ownedTupleIsFree (.ref e) >>= _) _ _ ⟨g3.push (pairObj c tk x), gs, dr, tk + 1, os⟩
  rw [← eg, z3]
  refine wpAny_bind (wpAny_tupleHeld_enum (s := ⟨g4, gs, dr, tk + 1, os⟩) q4 (k4 T oT hTe hTi hT) fun g5 q5 m5 => ?_)
  replace m5 : Heap.SameBut e g4 g5 := m5
  simp only [Bool.false_eq_true, if_false]
  have ne : hp.objs.size ≠ e := Nat.ne_of_gt (Heap.lt_size (show hp.get? e = some _ from he))
  exact wpAny_pure ⟨_, rfl, hQ x g5 tk hx q5 (D.frame _ _ _ st4 fun b hb o y => m5.extBut b o (fun z => hef (z ▸ hb)) y) (m5.extBut _ _ ne p4) fun b o n1 n2 y => m5.extBut b o n1 (k4 b o n1 n2 y)⟩
theorem next_held {e it T : Addr} {fp : List Addr} {n i : Nat} {c : Int} {Pv : Nat → Value → Prop} {St : Nat → Heap → Prop} {old : Value} {fl : Bool} {oT : Obj} {Q : Option Value → Shared → Prop}
    (D : Draws prog w A.in1 it fp n Pv St) (he : IsEnumHeld s.heap e it c old T fl) (hT : s.heap.get? T = some oT) (hTe : T ≠ e) (hTi : T ≠ it) (st : St i s.heap) (hi : i < n) (hei : e ≠ it) (hef : e ∉ fp)
    (hQ : ∀ x h' tk, Pv i x → IsEnumHeld h' e it (c + 1) old T true → St (i + 1) h' → h'.get? s.heap.objs.size = some (pairObj c tk x) → (∀ b o, b ≠ e → b ≠ it → s.heap.get? b = some o → h'.get? b = some o) → Q (some (.ref s.heap.objs.size)) { s with heap := h', toks := tk + 1 }) :
    wpAny (model prog w) A (pyNext (.ref e)) Q E s := by
  have ty : s.TypeIs (.ref e) "enumerate" := ⟨_, he, rfl⟩
  unfold pyNext
  refine wpAny_bind (wpAny_attempt (wpAny_callSpecial?_slot (name := Str.ofString "__next__") ty F.slot_enumerate_next (wpAny_call_entry F.slot_enumerate_next ty F.entry_enumerate_next ?_ (F.args_enumerate_next_1 _))))
  exact enum_held D he hT hTe hTi st hi hei hef fun x h' tk a b c d k => wpAny_pure (hQ x h' tk a b c d k)
theorem end_held {e it T : Addr} {fp : List Addr} {n : Nat} {c : Int} {Pv : Nat → Value → Prop} {St : Nat → Heap → Prop} {old : Value} {fl : Bool} {Q : Option Value → Shared → Prop} (D : Draws prog w A.in1 it fp n Pv St) (he : IsEnumHeld s.heap e it c old T fl) (st : St n s.heap)
    (hQ : ∀ h', Heap.ExtBut it s.heap h' → Q none { s with heap := h' }) : wpAny (model prog w) A (pyNext (.ref e)) Q E s := by
  have ty : s.TypeIs (.ref e) "enumerate" := ⟨_, he, rfl⟩
  unfold pyNext
  refine wpAny_bind (wpAny_attempt (wpAny_callSpecial?_slot (name := Str.ofString "__next__") ty F.slot_enumerate_next (wpAny_call_entry F.slot_enumerate_next ty F.entry_enumerate_next ?_ (F.args_enumerate_next_1 _))))
  show wpAny _ _ (field (.ref e) 2 >>= _) _ _ _
  refine wpAny_bind (wpAny_field he rfl (x := .ref it) rfl (wpAny_bind (D.done _ _ _ st fun h' x m hx => ?_)))
  obtain ⟨o, ho, hc⟩ := hx
  exact wpAny_bind (wpAny_isInstance (T := "StopIteration") (b := true) ⟨o, ho, hc⟩ isSubtype_stop (wpAny_pure (hQ _ m)))
end
section
variable {prog : Program} {w : World}
theorem pairs_enumT (e it l : Addr) (hei : e ≠ it) (hle : l ≠ e) (hli : l ≠ it) (items : Array Value) :
    PairArg prog w "enumerate" e [e, it, l] [e, it] items.size (fun i k v => (∃ t, k = .int i t) ∧ items[i]? = some v) (fun h => (∃ old, IsEnum h e it 0 old) ∧ h.IsTupleIter it l 0 ∧ h.IsTuple l items) where
  type := fun s ok => let ⟨⟨_, he⟩, _⟩ := ok; ⟨_, he, rfl⟩
  notDict := by decide
  keep := fun h h' ok k => let ⟨⟨old, he⟩, hit, hl⟩ := ok; ⟨⟨old, k _ _ he⟩, hit.at fun o x => k _ o x, hl.at fun o x => k _ o x⟩
  there := fun h ok b hb => by
    obtain ⟨⟨old, he⟩, ⟨o1, h1, _⟩, ⟨o2, h2, _⟩⟩ := ok
    rcases List.mem_cons.mp hb with z | hb
    · exact z ▸ ⟨_, he⟩
    rcases List.mem_cons.mp hb with z | hb
    · exact z ▸ ⟨_, h1⟩
    · exact (List.mem_singleton.mp hb) ▸ ⟨_, h2⟩
  sub := fun b hb => by
    rcases List.mem_cons.mp hb with z | hb
    · rw [z]; simp
    · rw [List.mem_singleton.mp hb]; simp
  noKeys := fun A s Q E hA ok h => let ⟨⟨_, he⟩, _⟩ := ok; getAttrOr_miss_enumerate he rfl rfl rfl enumerate_no_keys (by decide +kernel) hA h
  iter := fun A s d Q E hA ok hd hdf h => by
    obtain ⟨⟨old, he⟩, hit, hl⟩ := ok
    have de : d ≠ e := fun z => hdf (by rw [z]; simp)
    have dit : d ≠ it := fun z => hdf (by rw [z]; simp)
    have dl : d ≠ l := fun z => hdf (by rw [z]; simp)
    have D : ∀ {A' : Around}, A'.handled = none → Draws prog w A'.in1 it [it, l] items.size (fun i v => items[i]? = some v) (fun i h => h.IsTupleIter it l i ∧ h.IsTuple l items) := fun {A'} hA' => Draws.tuple (A := A'.in1) hA' it l hli items
    have nef : e ∉ [it, l] := fun z => by
      rcases List.mem_cons.mp z with z | z
      · exact hei z
      · exact hle (List.mem_singleton.mp z).symm
    refine wpAny_pyIter_enum he (h e [e, it] (fun i h => (h.IsTupleIter it l i ∧ h.IsTuple l items) ∧ ((∃ old, IsEnum h e it i old) ∨ ∃ old T fl oT, IsEnumHeld h e it i old T fl ∧ h.get? T = some oT ∧ T ≠ e ∧ T ≠ it ∧ T ≠ d)) s.heap s.toks ?_ ⟨⟨hit, hl⟩, .inl ⟨old, he⟩⟩ (fun _ _ e => e) fun b hb => .inl hb)
    refine ⟨fun z => ?_, fun i h1 h2 st k => ?_, fun i s1 Q1 E1 hi st hds hQ => ?_, fun s1 Q1 E1 st hQ => ?_⟩
    · rcases List.mem_cons.mp z with z | z
      · exact de z
      · exact dit (List.mem_singleton.mp z)
    · obtain ⟨⟨g1, g2⟩, he⟩ := st
      refine ⟨⟨g1.at fun o x => k _ o (Ne.symm dit) x, g2.at fun o x => k _ o (Ne.symm dl) x⟩, ?_⟩
      rcases he with ⟨old, he⟩ | ⟨old, T, fl, oT, he, hT, r1, r2, r3⟩
      · exact .inl ⟨old, k _ _ (Ne.symm de) he⟩
      · exact .inr ⟨old, T, fl, oT, k _ _ (Ne.symm de) he, k _ _ r3 hT, r1, r2, r3⟩
    · obtain ⟨st, he⟩ := st
      have ec : ((i + 1 : Nat) : Int) = (i : Int) + 1 := by omega
      have nit : s1.heap.objs.size ≠ it := let ⟨_, x, _⟩ := st.1; Nat.ne_of_gt (Heap.lt_size x)
      rcases he with ⟨old, he⟩ | ⟨old, T, fl, oT, he, hT, r1, r2, r3⟩
      · refine wpAny_pyNext_enum_itemC (D hA) he st hi hei nef fun x h' tk hx ho st' hT hsz k => ?_
        refine hQ s1.heap.objs.size _ _ h' (tk + 1) ⟨⟨_, rfl⟩, hx⟩ (.inl ⟨_, hT, rfl, _, rfl⟩) ⟨st', .inr ⟨_, s1.heap.objs.size, false, _, by rw [ec]; exact ho, hT, Nat.ne_of_gt (Heap.lt_size (show s1.heap.get? e = some _ from he)), nit, Nat.ne_of_gt hds⟩⟩ fun b o hb x => k b o (fun y => hb (by rw [y]; simp)) (fun y => hb (by rw [y]; simp)) x
      · refine next_held (D hA) he hT r1 r2 st hi hei nef fun x h' tk hx ho st' hT' k => ?_
        refine hQ s1.heap.objs.size _ _ h' (tk + 1) ⟨⟨_, rfl⟩, hx⟩ (.inl ⟨_, hT', rfl, _, rfl⟩) ⟨st', .inr ⟨old, T, true, oT, by rw [ec]; exact ho, k _ _ r1 r2 hT, r1, r2, r3⟩⟩ fun b o hb x => k b o (fun y => hb (by rw [y]; simp)) (fun y => hb (by rw [y]; simp)) x
    · obtain ⟨st, he⟩ := st
      rcases he with ⟨old, he⟩ | ⟨old, T, fl, oT, he, hT, r1, r2, r3⟩
      · exact wpAny_pyNext_enum_endD (D hA) he st fun h' m => hQ h' s1.toks fun b o hb x => m b o (fun y => hb (by rw [y]; simp)) x
      · exact end_held (D hA) he st fun h' m => hQ h' s1.toks fun b o hb x => m b o (fun y => hb (by rw [y]; simp)) x
set_option maxHeartbeats 2000000 in
theorem meets_enum1 {v : Value} {o : Obj} {Hs : Heap → Prop} (B : Begins v o Hs) : Meets (Builtin.«enumerate.__new__» ⟨[.type "enumerate", v], []⟩) (fun _ R s => Hs s.heap ∧
    R (.ok (.ret (.ref (s.heap.push o).objs.size))) { s with heap := (s.heap.push o).push { cls := .type "enumerate", data := .fields #[.none, .bool false, .ref s.heap.objs.size, rawInt 0, .none, .none] } }) :=
  .of_wp fun prog w A R s h => by
    obtain ⟨hp, gs, dr, tk, os⟩ := s
    obtain ⟨h1, h⟩ := h
    have hsub := sub_enumerate
    have begun : ∀ {A' : Around} {E : Value → Shared → Prop} {Q : Value → Shared → Prop}, Q (.ref hp.objs.size) ⟨hp.push o, gs, dr, tk, os⟩ → wpAny (model prog w) A' (pyIter v) Q E ⟨hp, gs, dr, tk, os⟩ := fun q => B.iter prog w _ _ ⟨hp, gs, dr, tk, os⟩ _ h1 q
    wp_walk using begun
    refine wpAny_stack_any fun st => wpAny_pure ?_
    split
    · rename_i c _ _ _ _ _
      cases (c == Value.type "enumerate")
      · wp_walk using begun
        exact ⟨_, rfl, h⟩
      · wp_walk using begun
        exact ⟨_, rfl, h⟩
    · wp_walk using begun
      exact ⟨_, rfl, h⟩
theorem call_enum1 {A : Around} {E : Value → Shared → Prop} {s : Shared} {v : Value} {o : Obj} {Hs : Heap → Prop} {Q : Value → Shared → Prop} (B : Begins v o Hs) (h1 : Hs s.heap)
    (h : ∀ h', IsEnum h' (s.heap.objs.size + 1) s.heap.objs.size 0 .none → h'.get? s.heap.objs.size = some o → (∀ b u, s.heap.get? b = some u → h'.get? b = some u) → Q (.ref (s.heap.objs.size + 1)) { s with heap := h' }) : wpAny (model prog w) A (call (.type "enumerate") [v]) Q E s := by
  refine callType_new F.called_enumerate (by decide) (F.typeCall_enumerate_1 _) (F.newCall_enumerate_1 _) (fun obj => F.args_object_init_2 obj _) F.entry_enumerate_new (meets_enum1 B) ⟨h1, ?_⟩
  have hz : (s.heap.push o).objs.size = s.heap.objs.size + 1 := Heap.size_push ..
  show _ ∧ _
  have he := Heap.get?_push_size (s.heap.push o) (o := { cls := .type "enumerate", data := .fields #[.none, .bool false, .ref s.heap.objs.size, rawInt 0, .none, .none] }) rfl
  rw [hz] at he ⊢
  exact ⟨⟨_, he, rfl⟩, h _ he (Heap.get?_push_of_some _ (Heap.get?_push_size _ B.free)) fun b u x => Heap.get?_push_of_some _ (Heap.get?_push_of_some _ x)⟩
end
theorem kv_zip : ∀ (ns : List Int) (its : List Value) (k : Nat), Vals (ns.map V.int) its → KV (((ns.zipIdx k).map fun q => (((q.2 : Nat) : Int), q.1)).map fun p => ((Sum.inl p.1 : Key), V.int p.2)) ((its.zipIdx k).map fun q => ((Sum.inl ((q.2 : Nat) : Int) : Key), q.1))
  | [], _, _, .nil => .nil
  | n :: ns, _ :: its, k, .cons r t => .cons ⟨rfl, r⟩ (kv_zip ns its (k + 1) t)
section
variable {X : Cx}
/-- dict(enumerate(t)), t a tuple of ints -/
def tDictEnum (K : PySem.W.Frag) (ta : TE) : TE := fun σ H Q => ta σ H fun x H1 => ∃ (a : Addr) (ns : List Int), x = .ref a ∧ SqT K H1 a (ns.map V.int) ∧ ns.length ≤ 1000 ∧ ∀ p, H1 p = none → Q (.ref p) (upd H1 p (.dK ((ns.zipIdx.map fun q => (((q.2 : Nat) : Int), q.1)).map fun p => ((Sum.inl p.1 : Key), V.int p.2))))
theorem pe_dictEnum {a : Expr} {ta : TE} {p p2 q pos : Pos} (hc : X.calm = true) (hg : Gl X "dict") (hm : X.mg "dict" = none) (hg2 : Gl X "enumerate") (hm2 : X.mg "enumerate" = none) (ha : PE X a ta)
    (na : starEach [a] X.env = (false, eval a X.env) :: starEach [] X.env := by rfl) : PE X (.Call (.Name "dict" p) [.Call (.Name "enumerate" p2) [a] [] q] [] pos) (tDictEnum X.K ta) := by
  refine ⟨fun pins s σ H Q I h => ?_⟩
  refine Call_ (ld_blt I hg hm (u := .type "dict") (by decide +kernel) ?_)
  refine PyProof.Rows.callWith_type1 (PyProof.Rows.args_cons ?_ rfl) rfl rfl
  refine Call_ (ld_blt I hg2 hm2 (u := .type "enumerate") (by decide +kernel) ?_)
  refine PyProof.Rows.callWith_type1 (PyProof.Rows.args_cons (thn (ha.run pins s σ H _ I h) fun v s1 hx => PyProof.Rows.args_nil ?_) na) na rfl
  obtain ⟨x, H1, I1, r1, l, ns, rfl, hq, hl, q1⟩ := hx
  cases r1
  obtain ⟨its, rv, pl, hz⟩ := I1.tuple hq
  have hlt : l < s1.heap.objs.size := let ⟨_, e, _⟩ := pl; Heap.lt_size e
  refine call_enum1 (begins_tuple l its.toArray) pl fun h' he hit hk => PyProof.Rows.args_nil ?_
  have I2 : Inv X pins σ H1 { s1 with heap := h' } := I1.kept (t' := s1.toks) hk
  have hei : s1.heap.objs.size + 1 ≠ s1.heap.objs.size := by omega
  have hle : l ≠ s1.heap.objs.size + 1 := Nat.ne_of_lt (Nat.lt_succ_of_lt hlt)
  have hlen : its.length = ns.length := by rw [← rv.length, List.length_map]
  obtain ⟨kvs, ekv⟩ : ∃ kvs : List (Key × Value), kvs = its.zipIdx.map fun q => ((Sum.inl ((q.2 : Nat) : Int) : Key), q.1) := ⟨_, rfl⟩
  refine call_dict_pairs (knd := mixKind X.prog X.w) (kvs := kvs) (pairs_enumT (s1.heap.objs.size + 1) s1.heap.objs.size l hei hle (Nat.ne_of_lt hlt) its.toArray) (I1.ok.hd hc) ⟨⟨_, he⟩, ⟨_, hit, rfl, rfl⟩, let ⟨o, e, r⟩ := pl; ⟨o, hk _ _ e, r⟩⟩ ⟨?_, fun i key v hr => ?_⟩ (by rw [List.size_toArray]; exact Nat.le_of_lt (small1000 (by omega))) fun h2 tk hD hk2 => ?_
  · rw [ekv, List.length_map, List.length_zipIdx, List.size_toArray]
  · obtain ⟨⟨t, rfl⟩, hv⟩ := hr
    refine ⟨Sum.inl (i : Int), ?_, mixKind_int _ _ _ _⟩
    have hv2 : its[i]? = some v := by simpa using hv
    rw [ekv, List.getElem?_map, List.getElem?_zipIdx, hv2]
    simp
  · have ndk : (kvs.map (·.1)).Nodup := by
      rw [ekv, List.map_map]
      have e9 : ((fun (x : Key × Value) => x.1) ∘ fun (q : Value × Nat) => ((Sum.inl ((q.2 : Nat) : Int) : Key), q.1)) = (fun j : Nat => (Sum.inl ((j : Nat) : Int) : Key)) ∘ fun q : Value × Nat => q.2 := rfl
      rw [e9, ← List.map_map, List.zipIdx_map_snd]
      refine List.Pairwise.map _ (fun x y hxy z => hxy ?_) (List.nodup_range' ..)
      have z2 := Sum.inl.inj z
      omega
    rw [merged_nil_of_nodup kvs ndk] at hD
    have hsz : s1.heap.objs.size ≤ h'.objs.size := Nat.le_of_lt (Nat.lt_of_succ_lt (Heap.lt_size (show h'.get? (s1.heap.objs.size + 1) = some _ from he)))
    have grow : Grows s1.heap h2 := fun b o e => by
      have hb := Heap.lt_size e
      refine hk2 b o (fun z => ?_) (hk b o e)
      rcases List.mem_cons.mp z with z | z
      · rw [z] at hb
        exact Nat.lt_irrefl _ (Nat.lt_of_succ_lt hb)
      · rw [List.mem_singleton.mp z] at hb
        exact Nat.lt_irrefl _ hb
    have ob : ∀ H2 : Hp, ObjOk X.prog X.w H2 h2 h'.objs.size (.dK ((ns.zipIdx.map fun q => (((q.2 : Nat) : Int), q.1)).map fun p => ((Sum.inl p.1 : Key), V.int p.2))) := fun H2 => ⟨?_, ?_, kvs, ?_, hD⟩
    · exact ⟨.ref h'.objs.size, _, I1.laid (t' := tk) grow hsz (ob _), rfl, q1 _ (I1.hok.fresh hsz)⟩
    · rw [List.length_map, List.length_map, List.length_zipIdx]
      exact Nat.le_of_lt (small1000 hl)
    · exact beq_eq_false_iff_ne.mpr (Nat.ne_of_gt (Nat.lt_of_lt_of_le I1.big hsz))
    · rw [ekv]
      exact kv_zip ns its 0 rv
end
end HM
namespace HM
open PySem PySem.Spec PyProof.Rows L2
/-! ### for i, x in enumerate(t), t a tuple -/
def IteT (K : PySem.W.Frag) (a : Addr) : L2.It :=
  ⟨fun i H => ∃ (xs : List V) (x : V), SqT K H a xs ∧ xs[i]? = some x, fun i H v H' => ∃ T x, v = .ref T ∧ H T = none ∧ H' = upd H T (.tup [.int (i : Nat), x]) ∧ ∀ xs, SqT K H a xs → xs[i]? = some x, fun i H => ∃ xs : List V, SqT K H a xs ∧ xs.length = i⟩
theorem turn_enumT {P : Program} {w : World} {K : PySem.W.Frag} {elts : List Expr} {kk : Nat} {tpos : Pos} (a e it : Addr) :
    Turn P w K (.Tuple elts kk tpos) (IteT K a) [e, it] e (fun i h => (∃ old, IsEnum h e it ((i : Nat) : Int) old) ∧ h.IsTupleIter it a i ∧ e ≠ it ∧ a ≠ e ∧ a ≠ it) where
  mem := List.mem_cons_self
  obj := fun i h st b hb => by
    obtain ⟨⟨old, he⟩, ⟨o, ho, hc, hd⟩, _⟩ := st
    rcases List.mem_cons.mp hb with z | z
    · exact z ▸ ⟨_, he, fun v q => nomatch q⟩
    · exact (List.mem_singleton.mp z) ▸ ⟨o, ho, fun v q => by rw [hd] at q; cases q⟩
  keep := fun i h h' st k => let ⟨⟨old, he⟩, hi, r⟩ := st; ⟨⟨old, k e List.mem_cons_self _ he⟩, hi.at fun o q => k it (List.mem_cons_of_mem _ List.mem_cons_self) o q, r⟩
  item := by
    intro X hP hw hK hc i pins s σ H E I hf st hg
    subst hP hw hK
    obtain ⟨⟨old, he⟩, hit, hne, hae, hai⟩ := st
    obtain ⟨xs, x, hq, hx⟩ := hg
    obtain ⟨its, rv, p, hz⟩ := I.tuple hq
    obtain ⟨u, hu, ru⟩ := rv.get hx
    have hlt : i < its.toArray.size := by rw [List.size_toArray]; exact (List.getElem?_eq_some_iff.mp hu).1
    have hel : e < s.heap.objs.size := Heap.lt_size he
    have hil : it < s.heap.objs.size := let ⟨_, q, _⟩ := hit; Heap.lt_size q
    have D : Draws X.prog X.w X.A.in1 it [it, a] its.toArray.size (fun i v => its.toArray[i]? = some v) (fun i h => h.IsTupleIter it a i ∧ h.IsTuple a its.toArray) := Draws.tuple (A := X.A.in1) (I.ok.hd hc) it a hai its.toArray
    have nef : e ∉ [it, a] := fun z => by
      rcases List.mem_cons.mp z with z | z
      · exact hne z
      · exact hae (List.mem_singleton.mp z).symm
    refine wpAny_pyNext_enum_itemD D he ⟨hit, p⟩ hlt hne nef fun v h' tk hv ho hst hT hsz hk => ?_
    obtain rfl : v = u := by
      have hu2 : its.toArray[i]? = some u := by simpa using hu
      exact Option.some.inj (hv.symm.trans hu2)
    refine ⟨_, rfl, wpAny_letOwnedTupleGo_enum (s := { s with heap := h', toks := tk + 1 }) ho fun h2 he2 sb => ?_⟩
    have hT2 : h2.get? s.heap.objs.size = some { cls := .type "tuple", data := .seq #[.int i tk, v] } := (sb.2 _ (Nat.ne_of_gt hel)).trans hT
    have new : ObjOk X.prog X.w (upd H s.heap.objs.size (.tup [.int (i : Nat), x])) h2 s.heap.objs.size (.tup [.int (i : Nat), x]) :=
      ⟨show 2 ≤ sizeLine by decide, [.int i tk, v], .cons ⟨_, rfl⟩ (.cons ru .nil), ⟨_, hT2, rfl, _, rfl⟩⟩
    have I1 : Inv X pins σ (upd H s.heap.objs.size (.tup [.int (i : Nat), x])) { s with heap := h2, toks := tk + 1 } :=
      I.turnedNew (ch := [e, it]) (fun b ob hb q => (sb.2 b (fun z => hb (by simp [z]))).trans (hk b ob (fun z => hb (by simp [z])) (fun z => hb (by simp [z])) q)) hf (Nat.le_refl _) new
    refine ⟨.ref s.heap.objs.size, _, I1, rfl, ⟨_, x, rfl, I.hok.fresh (Nat.le_refl _), rfl, fun ys hy => ?_⟩, ⟨⟨v, ?_⟩, hst.1.at fun o q => (sb.2 it (Ne.symm hne)).trans q, hne, hae, hai⟩, fun b hb => ?_⟩
    · rw [I.tuple_inj hy hq]
      exact hx
    · have e1 : ((i + 1 : Nat) : Int) = (i : Int) + 1 := by omega
      rw [e1]
      exact he2
    · have hb2 : b < s.heap.objs.size := by
        rcases List.mem_cons.mp hb with z | z
        · exact z ▸ hel
        · exact (List.mem_singleton.mp z) ▸ hil
      rw [upd_ne (Nat.ne_of_lt hb2)]
      exact (hf b hb).1
  done := by
    intro X hP hw hK hc i pins s σ H E I hf st hg
    subst hP hw hK
    obtain ⟨⟨old, he⟩, hit, hne, hae, hai⟩ := st
    obtain ⟨xs, hq, hx⟩ := hg
    obtain ⟨its, rv, p, hz⟩ := I.tuple hq
    obtain ⟨f0, f1, f2, f3, f4, f5⟩ := hf it (List.mem_cons_of_mem _ List.mem_cons_self)
    have hl : its.toArray.size = i := by rw [List.size_toArray, ← rv.length]; exact hx
    have D : Draws X.prog X.w X.A.in1 it [it, a] its.toArray.size (fun i v => its.toArray[i]? = some v) (fun i h => h.IsTupleIter it a i ∧ h.IsTuple a its.toArray) := Draws.tuple (A := X.A.in1) (I.ok.hd hc) it a hai its.toArray
    exact wpAny_pyNext_enum_endD D he ⟨by rw [hl]; exact hit, p⟩ fun h' eb => ⟨rfl, I.turned (t' := s.toks) (fun b o hb q => eb b o hb q) f0 f1 f3 f4 f5⟩
  self := fun A i s Q E st h => let ⟨⟨_, he⟩, _⟩ := st; wpAny_pyIter_enum he h
def iEnumT (K : PySem.W.Frag) (ta : TA) : TI := fun σ H R => ta σ H fun vs H1 => ∃ a xs, vs = [.ref a] ∧ SqT K H1 a xs ∧ R (IteT K a) H1
theorem pi_enumT {X : Cx} {e : Expr} {ta : TA} {p pos tpos : Pos} {elts : List Expr} {kk : Nat} (hg : Gl X "enumerate") (hm : X.mg "enumerate" = none) (ha : PA X [e] ta) (hs : starEach [e] X.env = [(false, eval e X.env)] := by rfl) :
    PI X (.Tuple elts kk tpos) (.Call (.Name "enumerate" p) [e] [] pos) (iEnumT X.K ta) := by
  refine ⟨fun pins s σ H R I h => ?_⟩
  refine Call_ (ld_blt I hg hm boot_enumerate (PyProof.Rows.callWith_type1 (thn (ha.run pos pins s σ H _ I h) fun us s1 hx => ?_) hs rfl))
  obtain ⟨vs, H1, I1, r1, a, xs, rfl, hq, q⟩ := hx
  cases r1 with
  | cons r rr =>
    cases rr
    cases r
    obtain ⟨its, rv, pl, hz⟩ := I1.tuple hq
    have hlt : a < s1.heap.objs.size := let ⟨_, e, _⟩ := pl; Heap.lt_size e
    refine call_enum1 (begins_tuple a its.toArray) pl fun h' he hit hk => wpAny_pyIter_enum he ?_
    have I2 : Inv X pins σ H1 { s1 with heap := h' } := I1.kept (t' := s1.toks) hk
    refine ⟨s1.heap.objs.size + 1, [s1.heap.objs.size + 1, s1.heap.objs.size], _, _, H1, rfl, I2, turn_enumT a (s1.heap.objs.size + 1) s1.heap.objs.size, ⟨⟨.none, he⟩, ⟨_, hit, rfl, rfl⟩, Nat.succ_ne_self _, Nat.ne_of_lt (Nat.lt_succ_of_lt hlt), Nat.ne_of_lt hlt⟩, fun b hb => ?_, q⟩
    have hle : s1.heap.objs.size ≤ b := by
      rcases List.mem_cons.mp hb with z | z
      · rw [z]
        exact Nat.le_add_right _ _
      · rw [List.mem_singleton.mp z]
        exact Nat.le_refl _
    exact I1.fpOk hle (I1.hok.fresh hle)
theorem walk_enumT {K : PySem.W.Frag} {a : Addr} {xs : List V} : Walk (IteT K a) xs.length (fun H => SqT K H a xs) (YPair (fun i => some (.int (i : Nat))) (fun i => xs[i]?)) := by
  refine ⟨fun i _ hi q => ⟨xs, xs[i], q, by simp [hi]⟩, fun _ q => ⟨xs, q, rfl⟩, fun i H v H' _ q y => ?_⟩
  obtain ⟨T, x, h1, h2, h3, h4⟩ := y
  exact ⟨T, .int (i : Nat), x, h1, h2, h3, rfl, h4 xs q⟩
/-! ### tuple(.. for x in ..) -/
section
variable {X : Cx}
def tTupG (P : Addr) (Rr : L2.St → V → Hp → List V → Prop) (te : TE) : TE := fun σ H Q => te σ H fun v H1 => GxR.TabG H1 P ∧ ∃ ys, Rr σ v H1 ys ∧ ys.length ≤ sizeLine ∧ ∀ H2, GxR.Tabbed P H1 H2 → newT ys H2 Q
theorem pe_tupG {c P : Addr} {elt iter : Expr} {x : Str} {px p pos gpos : Pos} {scope : Scope} {te : TE} {k : Nat} {Rr : L2.St → V → Hp → List V → Prop}
    (hr : Room k X.A) (hg : Gl X "tuple") (hm : X.mg "tuple" = none) (TB : GxR.TabB X.base X.mg c P) (hcode : X.env.code = .ref c) (Sc : GxR.GenS X.env scope x) (hi : PE X iter te) (hs : ∀ v, genFold iter X.env v = pure v)
    (hu : ∀ (pins : List (Addr × Obj)) (σ : L2.St) (v : V) (H1 : Hp) (s1 : Shared) (xv : Value) (ys : List V), Inv X pins σ H1 s1 → RelV v xv → GxR.TabG H1 P → Rr σ v H1 ys →
      ∃ (its : List Value) (o : Obj) (fp : List Addr) (St : Nat → Heap → Prop), its.length = ys.length ∧ Beg X P s1 xv its o fp St ∧ EltG X P s1 scope x elt its (fun i y => ∃ z, ys[i]? = some z ∧ RelV z y))
    (he : starEach [.GeneratorExp elt [⟨.Name x px, iter, [], 0⟩] scope gpos] X.env = (false, eval (.GeneratorExp elt [⟨.Name x px, iter, [], 0⟩] scope gpos) X.env) :: starEach [] X.env := by rfl) :
    PE X (.Call (.Name "tuple" p) [.GeneratorExp elt [⟨.Name x px, iter, [], 0⟩] scope gpos] [] pos) (tTupG P Rr te) := by
  refine ⟨fun pins s σ H Q I h => ?_⟩
  refine Call_ (ld_blt I hg hm boot_tuple (PyProof.Rows.callWith_type1 (PyProof.Rows.args_cons ?_ he) he rfl))
  refine gen_any (Rr := fun v H1 => ∃ ys, Rr σ v H1 ys ∧ ys.length ≤ sizeLine ∧ ∀ H2, GxR.Tabbed P H1 H2 → newT ys H2 Q) hr TB hcode Sc hi hs I h fun v H1 s1 xv I1 r1 tg q1 => ?_
  obtain ⟨ys, q1, hz, q2⟩ := q1
  obtain ⟨its, o, fp, St, hn, B, hel⟩ := hu pins σ v H1 s1 xv ys I1 r1 tg q1
  refine ⟨its, o, fp, St, _, B, hel, fun g s5 hG => ?_⟩
  obtain ⟨fp5, wr, G, Fv, St5, W, hst, hfp, hgm, hty, hF, hI⟩ := hG
  refine PyProof.Rows.args_nil ?_
  refine call_tuple_gen W.in4_3 hty hst hfp hgm (fun s' acc hmv hacc => ?_) (by rw [hn]; exact hz)
  obtain ⟨H2, hT, J⟩ := hI s' hmv
  have rv : Vals ys acc.toList := by
    obtain ⟨a1, a2⟩ := hacc
    refine vals_of_idx ys acc.toList (by rw [Array.length_toList, a1, hn]) fun j u hj => ?_
    have hj2 : acc[j]? = some u := by rw [← Array.getElem?_toList]; exact hj
    exact (hF j u (a2 j u hj2)).2
  exact laidF (t' := s'.toks) (its := acc.toList) J (fun b u e => Heap.get?_push_of_some _ e) (Nat.le_refl _) hz rv (by rw [Array.toArray_toList]; exact Heap.get?_push_size _ rfl) (q2 H2 hT)
end
end HM
namespace HM
open PySem PySem.Spec PyProof.Rows L2
section
variable {P : Program} {w : World} {K : PySem.W.Frag} {mg : Str → Option Value} {base : Heap}
/-- a def that may let refusals out, by its body -/
theorem pfnX_of {gd : Around → Prop} {x qual : Str} {st : Stmt} {f : Addr} {fd : FuncData} {N ps : List Str} {k : Nat} {sp : Sp} (F : Fun K x qual st f fd) (S : FnScope N ps (defScope st)) (len : ∀ vs H Q E, sp vs H Q E → vs.length = ps.length)
    (body : ∀ (cdv : Value) (A : Around) (out : List Env) (s : Shared) (H : Hp) (vs : List V) (Q : VK) (E : XK), fd.code = cdv → gd A → Room k (A.deeper (envOfC qual (defScope st) s.heap.objs.size f cdv)) → sp vs H Q E →
      ∃ t, PSs (cxOf (L2.CX P w) P w K mg base N qual (defScope st) f cdv A out s H E) (defBody st) t ∧ t { nx := fun _ H' => Q .non H', rt := Q } (start N vs) H) : PFn gd P w K mg base (L2.CX P w) (k + 1) f fd ps sp := by
  obtain ⟨oc, od, kV, doc, pm, an, cdv, ct, osl, rfl, lk, hcd⟩ := F.ex
  refine ⟨len, fun A out s H args us vs Q E hgd hr e0 hb r hsp => ?_⟩
  have M := mod_up e0.mod (fun b o e => (e0.bs b o e).1 : Grows base s.heap)
  have kinds : ∀ y ∈ ps.zip us, (defScope st).names.lookup y.1 = some .local ∨ ((defScope st).names.lookup y.1 = some .cell ∧ ((cellsFrom (s.heap.objs.size + 1) (defScope st).names []).lookup y.1).isSome = true) := by
    intro y hy
    rcases S.par y.1 (List.of_mem_zip (show (y.1, y.2) ∈ ps.zip us from hy)).1 with q | q
    · exact .inl q
    · exact .inr ⟨q, PySem.W.cellsFrom_some _ _ _ (.inl q)⟩
  refine codeAny_call_function hr.depth (M.kin _ _ lk) rfl S.co S.gen rfl (PySem.W.codeRec_of M.kin hcd) (hb _ _ _ _ ?_)
  refine wpAny_newFunctionEnv_cells S.kind kinds fun env he s1 x => ?_
  subst he
  obtain ⟨t, ht, hq⟩ := body cdv A out s H vs Q E rfl hgd (hr.deeper _) hsp
  refine ⟨M.nolimit.keeps x.toInCall.keep, codeAny_func (wpAny_mono (ht.run [] s1 (start N vs) H _ (inv_start S hr.hd e0 (len _ _ _ _ hsp) r x) hq) (fun fl s' hs => ?_) fun e s' hs => hs)⟩
  cases fl with
  | ret u =>
    obtain ⟨v, σ', H', J, rv, q⟩ := hs
    exact ⟨v, H', J.os, J.bare, J.base, J.hok, rv, q⟩
  | next =>
    obtain ⟨σ', H', J, q⟩ := hs
    exact ⟨.non, H', J.os, J.bare, J.base, J.hok, rfl, q⟩
  | brk =>
    obtain ⟨_, _, _, q⟩ := hs
    exact q.elim
  | cont =>
    obtain ⟨_, _, _, q⟩ := hs
    exact q.elim
end
/-- nothing is let out -/
theorem passX {X : Cx} {P : Program} {w : World} : Passes (L2.CX P w) X (fun _ _ _ => False) := fun _ _ _ _ _ _ _ c => by
  obtain ⟨_, _, _, _, _, _, _, _, _, _, _, _, z⟩ := c
  exact z.elim
/-- t[i], t a tuple -/
theorem rx_ixT {prog : Program} {w : World} {A : Around} {env : Env} {S : Heap → Prop} {a : Expr} {y : Str} {p pos : Pos} {t : Addr} {items : Array Value} {i : Int} {j : Nat} {x : Value} (fm : Firm S) (ha : RX prog w A env S a (fun v => v = .ref t)) (hb : RX prog w A env S (.Name y p) (fun v => ∃ tk, v = .int i tk))
    (hS : ∀ h, S h → IsTup h t items) (h1 : -(2 ^ 63) ≤ i) (h2 : i < 2 ^ 63) (hj : seqIndex? i items.size = some j) (hx : items[j]? = some x) : RX prog w A env S (.Subscript a (.Name y p) pos) (fun v => v = x) := fun E s hs => by
  refine Subscript_ (thn (ha E s hs) fun o s1 q1 => ?_)
  have hs1 := fm _ _ hs (kp_grows q1.2)
  refine thn (hb E s1 hs1) fun iv s2 q2 => ?_
  obtain ⟨rfl, k1⟩ := q1
  obtain ⟨⟨tk, rfl⟩, k2⟩ := q2
  have ht := hS _ (fm _ _ hs1 (kp_grows k2))
  exact subscriptTail_builtinR (x := x) ht.typeIs slot_tuple_getitem.lookup (getItem_tuple ht h1 h2 hj hx ⟨rfl, rfl, kp_trans k1 k2⟩)
end HM
namespace HM
open PySem PySem.Spec PyProof.Rows L2
/-- f(e, ..) by such a promise; what is let out is told by the slots too -/
theorem pe_callPS {X : Cx} {gd : Around → Prop} {CX : CXT} {k : Nat} {f : Addr} {fd : FuncData} {ps : List Str} {sp : Sp} {E : L2.St → XK} {x : Str} {p pos : Pos} {e : Expr} {es : List Expr} {t : TA} (G : PFn gd X.prog X.w X.K X.mg X.base CX k f fd ps sp) (hgd : gd X.A) (hr : Room k X.A) (hg : Gl X x) (hm : X.mg x = some (.ref f))
    (hk : PySem.W.keepIn X.K (.ref f) = true) (hb : Binds X.K fd ps []) (hx : ∀ σ, PassesAt CX X σ (E σ)) (ha : PA X (e :: es) t) (hdb : (x == ("__debug__" : Str)) = false := by decide)
    (he : starEach (e :: es) X.env = (false, eval e X.env) :: starEach es X.env := by rfl) (hpl : (backTo pos (starEach es X.env)).any (·.1) = false := by rfl) : PE X (.Call (.Name x p) (e :: es) [] pos) (tCallS sp E t) := by
  refine ⟨fun pins s σ H Q I h => ?_⟩
  refine wpAny_Call_Name_kw (ld_glob I hg hm ?_ hdb)
  refine PySem.W.callWith_K (h₀ := X.base) I.ok.mod.kin hk (thn (ha.run pos pins s σ H _ I h) fun us s1 hus => ?_) he hpl
  obtain ⟨vs, H1, I1, r, q⟩ := hus
  refine ⟨I1.kIn, ?_⟩
  have hl : us.length = ps.length := by rw [← r.length]; exact G.len _ _ _ _ q
  have hbs := hb s1 us I1.kIn (by rw [List.append_nil]; exact hl)
  rw [List.append_nil] at hbs
  refine wpAny_call (codeAny_mono (G.go X.A X.stack s1 H1 ⟨us, []⟩ us vs Q (E σ) hgd hr I1.env0 hbs r q) fun r s' hq => ?_)
  match r, hq with
  | .error e, hq => exact hx σ pins H1 s1 e s' I1 hq
  | .ok (.ret u), hq => exact I1.after hq
  | .ok .next, hq => exact hq.elim
  | .ok .brk, hq => exact hq.elim
  | .ok .cont, hq => exact hq.elim
theorem takesN {X : Cx} : Takes X (fun _ _ _ _ => False) := fun _ _ x => by
  obtain ⟨_, _, _, _, _, _, _, _, _, _, _, _, _, _, _, _, z⟩ := x
  exact z.elim
end HM
namespace HM
open PySem PySem.Spec PyProof.Rows L2
/-! ### the pen of a law: its script, where it stands, what is left of a number -/
def pk (a : Addr) (t l : Int) : List (Key × V) := [(.inr "script", .ref a), (.inr "at", .int t), (.inr "left", .int l)]
theorem pk_script (a : Addr) (t l : Int) : valV (pk a t l) (.inr "script") = some (.ref a) := rfl
theorem pk_at (a : Addr) (t l : Int) : valV (pk a t l) (.inr "at") = some (.int t) := by
  have h : ¬ (Sum.inr ("script" : Str) : Key) = Sum.inr ("at" : Str) := by decide +kernel
  unfold valV pk
  rw [List.find?_cons_of_neg (by simpa using h), List.find?_cons_of_pos (by simp)]
  rfl
theorem pk_left (a : Addr) (t l : Int) : valV (pk a t l) (.inr "left") = some (.int l) := by
  have h1 : ¬ (Sum.inr ("script" : Str) : Key) = Sum.inr ("left" : Str) := by decide +kernel
  have h2 : ¬ (Sum.inr ("at" : Str) : Key) = Sum.inr ("left" : Str) := by decide +kernel
  unfold valV pk
  rw [List.find?_cons_of_neg (by simpa using h1), List.find?_cons_of_neg (by simpa using h2), List.find?_cons_of_pos (by simp)]
  rfl
theorem pk_put_at (a : Addr) (t l t' : Int) : putK (pk a t l) (.inr "at") (.int t') = pk a t' l := by
  have h1 : ¬ (Sum.inr ("script" : Str) : Key) = Sum.inr ("at" : Str) := by decide +kernel
  have h2 : ¬ (Sum.inr ("left" : Str) : Key) = Sum.inr ("at" : Str) := by decide +kernel
  unfold putK pk
  simp [h1, h2]
theorem pk_put_left (a : Addr) (t l l' : Int) : putK (pk a t l) (.inr "left") (.int l') = pk a t l' := by
  have h1 : ¬ (Sum.inr ("script" : Str) : Key) = Sum.inr ("left" : Str) := by decide +kernel
  have h2 : ¬ (Sum.inr ("at" : Str) : Key) = Sum.inr ("left" : Str) := by decide +kernel
  unfold putK pk
  simp [h1, h2]
theorem pk_merge (a : Addr) (t l : Int) : mergeK [] (pk a t l) = pk a t l := by
  have h1 : ¬ (Sum.inr ("script" : Str) : Key) = Sum.inr ("at" : Str) := by decide +kernel
  have h2 : ¬ (Sum.inr ("script" : Str) : Key) = Sum.inr ("left" : Str) := by decide +kernel
  have h3 : ¬ (Sum.inr ("at" : Str) : Key) = Sum.inr ("left" : Str) := by decide +kernel
  unfold mergeK pk
  simp [putK, h1, h2, h3]
def isPen (K : PySem.W.Frag) (H : Hp) (p : Addr) (t : Int) : Prop := ∃ (a : Addr) (ns : List Int) (l : Int), H p = some (.dK (pk a t l)) ∧ Scr K H a ns ∧ ns.length ≤ 63 ∧ 0 ≤ t ∧ 0 ≤ l
/-- only what stands at p has changed -/
def But (p : Addr) (H H' : Hp) : Prop := ∀ b, b ≠ p → H' b = H b
end HM
namespace HM
open PySem PySem.Spec PyProof.Rows L2
def iota (n : Nat) : List Int := (List.range n).map fun i => ((i : Nat) : Int)
theorem rgV0 (n : Nat) : rgV 0 (n : Int) = (iota n).map V.int := by
  unfold rgV iota
  rw [List.map_map, Int.sub_zero, Int.toNat_natCast]
  exact List.map_congr_left fun i _ => by simp
theorem iota_len (n : Nat) : (iota n).length = n := by simp [iota]
theorem perm_step {rem acc : List Int} {n k : Nat} (h : (acc ++ rem).Perm (iota n)) (hk : k < rem.length) : (acc ++ [rem[k]] ++ rem.eraseIdx k).Perm (iota n) := by
  refine List.Perm.trans ?_ h
  rw [List.append_assoc]
  refine List.Perm.append_left acc ?_
  rw [List.singleton_append]
  have e : rem.Perm (rem[k] :: rem.eraseIdx k) := by
    have h1 := List.perm_cons_erase (List.getElem_mem hk)
    have h2 : rem = rem.take k ++ rem[k] :: rem.drop (k + 1) := by rw [List.getElem_cons_drop, List.take_append_drop]
    have h3 : rem.eraseIdx k = rem.take k ++ rem.drop (k + 1) := List.eraseIdx_eq_take_drop_succ rem k
    rw [h3]
    conv => lhs; rw [h2]
    exact List.perm_middle
  exact e.symm
theorem map_erzIx {α β : Type} (f : α → β) : ∀ (l : List α) (k : Nat), (l.map f).eraseIdx k = (l.eraseIdx k).map f
  | [], _ => rfl
  | _ :: _, 0 => rfl
  | a :: l, k + 1 => by
    show f a :: (l.map f).eraseIdx k = f a :: (l.eraseIdx k).map f
    rw [map_erzIx f l k]
theorem seqIx {r : Int} {n : Nat} (h0 : 0 ≤ r) (h1 : r < (n : Int)) : seqIndex? r n = some r.toNat := by
  unfold seqIndex?
  have h2 : ¬ r < 0 := by omega
  simp only [if_neg h2]
  rw [if_pos (by simp; exact ⟨h0, h1⟩)]
/-- all that was tracked but for p is as it was -/
def Kept (p : Addr) (H H' : Hp) : Prop := ∀ b o, H b = some o → b ≠ p → H' b = some o
theorem Kept.trans {p : Addr} {H H1 H2 : Hp} (a : Kept p H H1) (b : Kept p H1 H2) : Kept p H H2 := fun c o e n => b c o (a c o e n) n
theorem Kept.refl (p : Addr) (H : Hp) : Kept p H H := fun _ _ e _ => e
theorem But.kept {p : Addr} {H H' : Hp} (h : But p H H') : Kept p H H' := fun b o e n => by rw [h b n]; exact e
def rLenS (K : PySem.W.Frag) : List V → Hp → VK → Prop := fun xs H Q => ∃ p ys, xs = [.ref p] ∧ (SqL K H p ys ∨ SqT K H p ys) ∧ Q (.int ys.length) H
def noX : XK := fun _ _ _ => False
theorem isPen.up {K : PySem.W.Frag} {H H' : Hp} {p : Addr} {t : Int} (h : isPen K H p t) (k : ∀ b o, H b = some o → b = p ∨ (∃ ob u, o = .frz ob u) → H' b = some o) : isPen K H' p t := by
  obtain ⟨a, ns, l, h1, h2, r⟩ := h
  exact ⟨a, ns, l, k _ _ h1 (.inl rfl), h2.up fun b ob u e => k _ _ e (.inr ⟨ob, u, rfl⟩), r⟩
theorem isPen.lay {K : PySem.W.Frag} {H : Hp} {p q : Addr} {t : Int} {o : HO} (h : isPen K H p t) (n : H q = none) : isPen K (upd H q o) p t :=
  h.up fun b u e _ => by rw [upd_ne (ne_of_none e n)]; exact e
theorem isPen.put {K : PySem.W.Frag} {H : Hp} {p q : Addr} {t : Int} {xs ys : List V} (h : isPen K H p t) (n : H q = some (.lst xs)) : isPen K (upd H q (.lst ys)) p t := by
  obtain ⟨a, ns, l, h1, _⟩ := _root_.id h
  refine h.up fun b u e c => ?_
  rw [upd_ne fun z => ?_]
  · exact e
  · subst z
    rw [n] at e
    cases e
    rcases c with c | ⟨ob, u, c⟩
    · rw [c, h1] at n
      cases n
    · cases c
end HM
namespace HM
open PySem PySem.Spec PyProof.Rows L2
/-! ### the numbers from 0 on, each once -/
def numV (n : Int) : V → Bool
  | .int i => decide (0 ≤ i) && decide (i < n)
  | _ => false
def intV : V → Int
  | .int i => i
  | _ => 0
def numD (n : Int) : PyData → Bool
  | .int i => decide (0 ≤ i) && decide (i < n)
  | _ => false
def itD : PyData → Int
  | .int i => i
  | _ => 0
def eachOnce (ds : List PyData) (n : Int) : Bool := decide ((ds.length : Int) = n) && (ds.all (numD n) && decide (ds.map itD).Nodup)
def turnD : PyData → Bool
  | .tuple ds => (decide (1 ≤ ds.length) && decide (ds.length ≤ 7)) && eachOnce ds ds.length
  | _ => false
theorem dp_num {K : PySem.W.Frag} {H : Hp} {v : V} {d : PyData} (h : Dp K H v d) (n : Int) : numV n v = numD n d := by cases h <;> rfl
theorem dp_int {K : PySem.W.Frag} {H : Hp} {v : V} {d : PyData} (h : Dp K H v d) : intV v = itD d := by cases h <;> rfl
theorem dp_ty {K : PySem.W.Frag} {H : Hp} {v : V} {d : PyData} (h : Dp K H v d) : ∃ T, VTy K H v T := by
  cases h with
  | non => exact ⟨_, .non⟩
  | bl b => exact ⟨_, .bl b⟩
  | int i => exact ⟨_, .int i⟩
  | str x => exact ⟨_, .str x⟩
  | lst h _ => exact ⟨_, .lst h⟩
  | tup h _ => exact ⟨_, .tup h⟩
theorem dps_len {K : PySem.W.Frag} {H : Hp} : ∀ {vs : List V} {ds : List PyData}, DpAll K H vs ds → vs.length = ds.length
  | _, _, .nil => rfl
  | _, _, .cons _ t => congrArg (· + 1) (dps_len t)
theorem dps_num {K : PySem.W.Frag} {H : Hp} (n : Int) : ∀ {vs : List V} {ds : List PyData}, DpAll K H vs ds → vs.all (numV n) = ds.all (numD n)
  | _, _, .nil => rfl
  | _, _, .cons h t => by rw [List.all_cons, List.all_cons, dp_num h n, dps_num n t]
theorem dps_int {K : PySem.W.Frag} {H : Hp} : ∀ {vs : List V} {ds : List PyData}, DpAll K H vs ds → vs.map intV = ds.map itD
  | _, _, .nil => rfl
  | _, _, .cons h t => by rw [List.map_cons, List.map_cons, dp_int h, dps_int t]
theorem dps_ty {K : PySem.W.Frag} {H : Hp} : ∀ {vs : List V} {ds : List PyData}, DpAll K H vs ds → ∀ x ∈ vs, ∃ T, VTy K H x T
  | _, _, .nil, _, h => by cases h
  | _, _, .cons h t, x, hx => by
    rcases List.mem_cons.mp hx with e | e
    · subst e
      exact dp_ty h
    · exact dps_ty t x e
/-- where all are numbers they are ints -/
theorem all_ints {n : Int} : ∀ {xs : List V}, xs.all (numV n) = true → xs = (xs.map intV).map V.int
  | [], _ => rfl
  | x :: xs, h => by
    rw [List.all_cons, Bool.and_eq_true] at h
    have e := all_ints h.2
    rw [List.map_cons, List.map_cons, ← e]
    cases x with
    | int i => rfl
    | _ => exact absurd h.1 Bool.false_ne_true
theorem all_range {α : Type} (d : α) (f : α → Bool) (xs : List α) : ((List.range xs.length).all fun i => f (xs.getD i d)) = xs.all f := by
  rw [Bool.eq_iff_iff, List.all_eq_true, List.all_eq_true]
  constructor
  · intro h x hx
    obtain ⟨i, hi, e⟩ := List.getElem_of_mem hx
    have q := h i (List.mem_range.mpr hi)
    rw [List.getD_eq_getElem?_getD, List.getElem?_eq_getElem hi, Option.getD_some, e] at q
    exact q
  · intro h i hi
    have hi' := List.mem_range.mp hi
    rw [List.getD_eq_getElem?_getD, List.getElem?_eq_getElem hi', Option.getD_some]
    exact h _ (List.getElem_mem hi')
theorem len_sub : ∀ {L ns : List Int}, L.Nodup → (∀ x ∈ L, x ∈ ns) → L.length ≤ ns.length
  | [], ns, _, _ => Nat.zero_le _
  | a :: L, ns, nd, h => by
    have nd2 := List.nodup_cons.mp nd
    have ha := h a List.mem_cons_self
    have ih := len_sub (L := L) (ns := ns.erase a) nd2.2 fun x hx => (List.mem_erase_of_ne (fun (z : x = a) => nd2.1 (z ▸ hx))).mpr (h x (List.mem_cons_of_mem _ hx))
    rw [List.length_erase_of_mem ha] at ih
    have := List.length_pos_of_mem ha
    rw [List.length_cons]
    omega
theorem perm_sub : ∀ {L ns : List Int}, L.Nodup → (∀ x ∈ L, x ∈ ns) → ns.length ≤ L.length → L.Perm ns
  | [], ns, _, _, hl => by
    rw [List.length_eq_zero_iff.mp (Nat.le_zero.mp hl)]
  | a :: L, ns, nd, h, hl => by
    have nd2 := List.nodup_cons.mp nd
    have ha := h a List.mem_cons_self
    have hp := List.length_pos_of_mem ha
    have ih := perm_sub (L := L) (ns := ns.erase a) nd2.2 (fun x hx => (List.mem_erase_of_ne (fun (z : x = a) => nd2.1 (z ▸ hx))).mpr (h x (List.mem_cons_of_mem _ hx))) (by
      rw [List.length_erase_of_mem ha]
      rw [List.length_cons] at hl
      omega)
    exact (List.Perm.cons a ih).trans (List.perm_cons_erase ha).symm
theorem dist_all {ns : List Int} {c : Nat} (h : Dist ns c) : c ≤ ns.length ∧ (c = ns.length ↔ ns.Nodup) := by
  obtain ⟨L, nd, hm, rfl⟩ := h
  have sub : ∀ x ∈ L, x ∈ ns := fun x hx => (hm x).mp hx
  refine ⟨len_sub nd sub, fun e => ?_, fun n2 => ?_⟩
  · exact (perm_sub nd sub (Nat.le_of_eq e.symm)).nodup_iff.mp nd
  · exact Nat.le_antisymm (len_sub nd sub) (len_sub n2 fun x hx => (hm x).mpr hx)
theorem rel_num {x : V} {u : Value} {n : Int} {h : Heap} {T : String} (r : RelV x u) (t : RTy h u T) : isNum n u = numV n x := by
  cases x with
  | int i => obtain ⟨t, rfl⟩ := (show ∃ t, u = Value.int i t from r); rfl
  | non => cases (show u = Value.none from r); rfl
  | bl b => cases (show u = Value.bool b from r); rfl
  | str y => obtain ⟨t, rfl⟩ := (show ∃ t, u = Value.str y t from r); rfl
  | byt y => obtain ⟨t, rfl⟩ := (show ∃ t, u = Value.bytes y t from r); rfl
  | flt y => obtain ⟨t, rfl⟩ := (show ∃ t, u = Value.float y t from r); rfl
  | ref a => cases (show u = Value.ref a from r); rfl
  | ty n => cases (show u = Value.type n from r); rfl
theorem sqT_ne {K : PySem.W.Frag} {H H' : Hp} {a P : Addr} {xs : List V} (h : SqT K H a xs) (tg : GxR.TabG H P) (k : ∀ b, b ≠ P → H' b = H b) : SqT K H' a xs := by
  obtain ⟨ps, hP, _⟩ := tg
  rcases h with (h | ⟨o, h⟩) | h
  · exact .inl (.inl (by rw [k a (ne_of h hP (by intro z; cases z))]; exact h))
  · exact .inl (.inr ⟨o, by rw [k a (ne_of h hP (by intro z; cases z))]; exact h⟩)
  · exact .inr h
theorem vals_at : ∀ {xs : List V} {us : List Value} {i : Nat} {u : Value}, Vals xs us → us[i]? = some u → ∃ x, xs[i]? = some x ∧ RelV x u
  | _, _, _, _, .nil, e => by simp at e
  | _, _, 0, _, .cons r _, e => by simp at e; subst e; exact ⟨_, rfl, r⟩
  | _, _, i + 1, u, .cons _ t, e => by
    obtain ⟨x, h1, h2⟩ := vals_at (i := i) (u := u) t (by simpa using e)
    exact ⟨x, by simpa using h1, h2⟩
end HM
namespace HM
open PySem PySem.Spec PyProof.Rows L2
theorem VTy.tyx {K : PySem.W.Frag} {H : Hp} {x : V} {T : String} (t : VTy K H x T) : TyX K H x (.type T) := by
  cases t with
  | non => exact .base .non
  | bl b => exact .base (.bl b)
  | int i => exact .base (.int i)
  | str y => exact .base (.str y)
  | lst e =>
    rcases e with (e | ⟨o, e⟩) | ⟨o, its, n, hk, hc, _⟩
    · exact .base (.lst e)
    · exact .base (.frz e)
    · exact .kList hk hc
  | tup e =>
    rcases e with (e | ⟨o, e⟩) | ⟨o, its, n, hk, hc, _⟩
    · exact .base (.tup e)
    · exact .fTuple e
    · exact .kTuple hk hc
  | dct e => exact .base (.dK e)
/-- what a thing is, for who asks whether it is a turn -/
def TC (K : PySem.W.Frag) (H : Hp) (x : V) (d : PyData) : Prop := (∃ (a : Addr) (xs : List V) (ds : List PyData), x = .ref a ∧ d = .tuple ds ∧ TF H a xs ∧ DpAll K H xs ds) ∨ (∃ T, VTy K H x T ∧ kitB T "tuple" = some false ∧ turnD d = false)
def isI : PyData → Bool
  | .int _ => true
  | _ => false
theorem item_kit {K : PySem.W.Frag} {H : Hp} {v : V} {d : PyData} (h : Dp K H v d) : ∃ T b1 b2, VTy K H v T ∧ kitB T "int" = some b1 ∧ kitB T "bool" = some b2 ∧ (b1 && !b2) = isI d := by
  cases h with
  | non => exact ⟨_, false, false, .non, by decide +kernel, by decide +kernel, rfl⟩
  | bl b => exact ⟨_, true, true, .bl b, by decide +kernel, by decide +kernel, rfl⟩
  | int i => exact ⟨_, true, false, .int i, by decide +kernel, by decide +kernel, rfl⟩
  | str x => exact ⟨_, false, false, .str x, by decide +kernel, by decide +kernel, rfl⟩
  | lst h _ => exact ⟨_, false, false, .lst h, by decide +kernel, by decide +kernel, rfl⟩
  | tup h _ => exact ⟨_, false, false, .tup h, by decide +kernel, by decide +kernel, rfl⟩
theorem dps_at {K : PySem.W.Frag} {H : Hp} : ∀ {vs : List V} {ds : List PyData} {i : Nat} {v : V}, DpAll K H vs ds → vs[i]? = some v → ∃ d, ds[i]? = some d ∧ Dp K H v d
  | _, _, _, _, .nil, e => by simp at e
  | _, _, 0, _, .cons h _, e => by simp at e; subst e; exact ⟨_, rfl, h⟩
  | _, _, i + 1, v, .cons _ t, e => by
    obtain ⟨d, h1, h2⟩ := dps_at (i := i) (v := v) t (by simpa using e)
    exact ⟨d, by simpa using h1, h2⟩
/-! ### counting -/
def inR (n : Int) (i : Int) : Bool := decide (0 ≤ i) && decide (i < n)
theorem inR_iff {n : Nat} {i : Int} : inR (n : Int) i = true ↔ i ∈ iota n := by
  unfold inR iota
  rw [Bool.and_eq_true, decide_eq_true_eq, decide_eq_true_eq, List.mem_map]
  constructor
  · rintro ⟨h1, h2⟩
    exact ⟨i.toNat, List.mem_range.mpr (by omega), by omega⟩
  · rintro ⟨j, hj, e⟩
    have := List.mem_range.mp hj
    omega
theorem iota_nodup (n : Nat) : (iota n).Nodup := by
  unfold iota
  exact List.Pairwise.map _ (fun a b h z => h (by omega)) List.nodup_range
theorem count_nodup : ∀ {zs : List Int} {k : Int}, zs.Nodup → k ∈ zs → zs.count k = 1
  | z :: zs, k, nd, h => by
    have nd2 := List.nodup_cons.mp nd
    by_cases e : z = k
    · subst e
      rw [List.count_cons_self, List.count_eq_zero.mpr nd2.1]
    · rw [List.count_cons_of_ne e]
      exact count_nodup nd2.2 ((List.mem_cons.mp h).resolve_left fun q => e q.symm)
theorem due_iff {zs : List Int} {n : Nat} (h : zs.length = n) : ((iota n).all fun k => decide (zs.count k = 1)) = (zs.all (inR n) && decide zs.Nodup) := by
  rw [Bool.eq_iff_iff, List.all_eq_true, Bool.and_eq_true, List.all_eq_true, decide_eq_true_eq]
  constructor
  · intro hc
    have p : (iota n).Perm zs := perm_sub (iota_nodup n) (fun x hx => by
      have q := of_decide_eq_true (hc x hx)
      exact List.count_pos_iff.mp (by omega)) (by rw [iota_len, h]; exact Nat.le_refl _)
    exact ⟨fun x hx => inR_iff.mpr (p.symm.subset hx), p.nodup_iff.mp (iota_nodup n)⟩
  · rintro ⟨h1, h2⟩ k hk
    have p : zs.Perm (iota n) := perm_sub h2 (fun x hx => inR_iff.mp (h1 x hx)) (by rw [iota_len, h]; exact Nat.le_refl _)
    exact decide_eq_true (count_nodup h2 (p.symm.subset hk))
theorem num_ints (n : Int) : ∀ {ds : List PyData}, ds.all isI = true → ds.all (numD n) = (ds.map itD).all (inR n)
  | [], _ => rfl
  | d :: ds, h => by
    rw [List.all_cons, Bool.and_eq_true] at h
    rw [List.all_cons, List.map_cons, List.all_cons, num_ints n h.2]
    cases d with
    | int i => rfl
    | _ => exact absurd h.1 Bool.false_ne_true
theorem num_isI (n : Int) : ∀ {ds : List PyData}, ds.all isI = false → ds.all (numD n) = false
  | [], h => by cases h
  | d :: ds, h => by
    rw [List.all_cons] at h ⊢
    cases e : isI d with
    | true =>
      rw [e, Bool.true_and] at h
      rw [num_isI n h, Bool.and_false]
    | false => cases d <;> first | rfl | cases e
theorem dps_ints {K : PySem.W.Frag} {H : Hp} : ∀ {vs : List V} {ds : List PyData}, DpAll K H vs ds → ds.all isI = true → vs = (ds.map itD).map V.int
  | _, _, .nil, _ => rfl
  | _, _, .cons h t, e => by
    rw [List.all_cons, Bool.and_eq_true] at e
    rw [List.map_cons, List.map_cons, ← dps_ints t e.2]
    cases h with
    | int i => rfl
    | _ => exact absurd e.1 Bool.false_ne_true
theorem eqv_nil (ns : List Int) : PyData.eqv (.list (ns.map .int)) (.list []) = ns.isEmpty := by cases ns <;> rfl
theorem dp_ints {K : PySem.W.Frag} {H : Hp} : ∀ ns : List Int, DpAll K H (ns.map V.int) (ns.map .int)
  | [] => .nil
  | n :: ns => .cons (.int n) (dp_ints ns)
theorem shaped_ints (ns : List Int) : SeqAt.shaped (.list (ns.map .int)) = true := by
  have h1 : ∀ l : List Int, PyData.canLayAll0 (l.map .int) = true := fun l => by
    induction l with
    | nil => rfl
    | cons a l ih => simpa [PyData.canLayAll0, PyData.canLay0] using ih
  have h2 : ∀ l : List Int, PyData.depthAll (l.map .int) = 0 := fun l => by
    induction l with
    | nil => rfl
    | cons a l ih => simpa [PyData.depthAll, PyData.depth] using ih
  unfold SeqAt.shaped
  rw [Bool.and_eq_true]
  exact ⟨by simpa [PyData.canLay0] using h1 ns, by simp [PyData.depth, h2 ns]⟩
section
variable {X : Cx}
def rCntT (K : PySem.W.Frag) : V → List V → Hp → VK → Prop := fun x xs H Q => ∃ (p : Addr) (ns : List Int) (k : Int), x = .ref p ∧ xs = [.int k] ∧ SqT K H p (ns.map V.int) ∧ Q (.int (ns.count k : Nat)) H
theorem mt_tcount : MtR X "tuple.count" (rCntT X.K) := by
  intro pins s σ H x xs v us Q I rx rxs h
  obtain ⟨p, ns, k, rfl, rfl, hs, q⟩ := h
  cases rx
  obtain ⟨u, rfl, ru⟩ := rxs.one
  obtain ⟨t, rfl⟩ := ru
  obtain ⟨its, rv, ⟨⟨cls, dd, data, sl⟩, ho, hc, n, hd⟩, hlen⟩ := I.tuple hs
  simp only at hc hd
  subst hc hd
  have hi := RZ.intsAre_vals rv
  refine call_meets PySem.F.slot_tuple_count ⟨_, ho, rfl⟩ PySem.F.entry_tuple_count (PySem.F.args_tuple_count_2 _ _) (SeqAt.tuple_countAt p its.toArray n dd sl (.int k t) (eqk k)) ⟨ho, fun y hy => (eqk_gives hi y (by simpa using hy)).at _ _, ?_⟩
  refine ⟨.int (ns.count k : Nat), H, I.tok _, ⟨s.toks, ?_⟩, q⟩
  rw [show its.toArray.toList.countP (eqk k) = ns.count k from eqk_count hi]
end
end HM
namespace HM
open PySem PySem.Spec PyProof.Rows L2
/-! ### how long a repr may be -/
mutual
def cost : PyData → Nat
  | .none => 4
  | .bool _ => 5
  | .int _ => 1921
  | .str x => (reprText x).length
  | .list xs => costs xs + 2
  | .tuple xs => costs xs + 2
  | .dict kvs => costKv kvs + 2
def costs : List PyData → Nat
  | [] => 0
  | x :: xs => cost x + 2 + costs xs
def costKv : List (PyData × PyData) → Nat
  | [] => 0
  | (k, v) :: r => cost k + 2 + cost v + 2 + costKv r
end
theorem textFrom_up : ∀ (ts : List Str) (k : Nat) (acc : Str), (textFrom k acc ts).length ≤ acc.length + piled ts
  | [], k, acc => by
    rw [piled_nil]
    exact Nat.le_refl _
  | t :: r, k, acc => by
    rw [piled_cons]
    unfold textFrom
    refine Nat.le_trans (textFrom_up r _ _) ?_
    split
    · rw [strLen_append, strLen_append, show ((", " : Str)).length = 2 by decide +kernel]
      omega
    · rw [strLen_append, strLen_append, show (("" : Str)).length = 0 by decide +kernel]
      omega
theorem listText_up (ts : List Str) : (listText ts).length ≤ piled ts + 2 := by
  unfold listText
  rw [strLen_append, show (("]" : Str)).length = 1 by decide +kernel]
  have h := textFrom_up ts 0 "["
  rw [show (("[" : Str)).length = 1 by decide +kernel] at h
  omega
theorem dictText_up (ts : List Str) : (dictText ts).length ≤ piled ts + 2 := by
  unfold dictText
  rw [strLen_append, strLen_append, show (("{" : Str)).length = 1 by decide +kernel, show (("}" : Str)).length = 1 by decide +kernel]
  cases ts with
  | nil => decide +kernel
  | cons t r =>
    have := join_length_add (t :: r) (by simp)
    omega
mutual
theorem shown_le : ∀ d : PyData, d.showable = true → d.shown.length ≤ cost d
  | .none, _ => by
    show (("None" : Str)).length ≤ 4
    decide +kernel
  | .bool b, _ => by
    cases b
    · show (("False" : Str)).length ≤ 5
      decide +kernel
    · show (("True" : Str)).length ≤ 5
      decide +kernel
  | .int i, h => by
    have h2 : i.natAbs.log2 < 1920 := by simpa [PyData.showable] using h
    exact int_text_len_1921 h2
  | .str x, _ => Nat.le_refl _
  | .list xs, h => by
    have h2 := shown_les xs (by simpa [PyData.showable] using h)
    have h3 := listText_up (PyData.shownAll xs)
    show (listText (PyData.shownAll xs)).length ≤ costs xs + 2
    omega
  | .tuple xs, h => by
    have h2 := shown_les xs (by simpa [PyData.showable] using h)
    have h3 := fmt_text (PyData.shownAll xs)
    show (tupleText (PyData.shownAll xs)).length ≤ costs xs + 2
    omega
  | .dict kvs, h => by
    have h2 := shown_kv kvs (by simpa [PyData.showable] using h)
    have h3 := dictText_up (PyData.shownKv kvs)
    show (dictText (PyData.shownKv kvs)).length ≤ costKv kvs + 2
    omega
theorem shown_les : ∀ xs : List PyData, PyData.showableAll xs = true → piled (PyData.shownAll xs) ≤ costs xs
  | [], _ => Nat.le_refl _
  | x :: xs, h => by
    have h1 : x.showable = true ∧ PyData.showableAll xs = true := by simpa [PyData.showableAll] using h
    have h2 := shown_le x h1.1
    have h3 := shown_les xs h1.2
    show piled (x.shown :: PyData.shownAll xs) ≤ cost x + 2 + costs xs
    rw [piled_cons]
    omega
theorem shown_kv : ∀ kvs : List (PyData × PyData), PyData.showableKv kvs = true → piled (PyData.shownKv kvs) ≤ costKv kvs
  | [], _ => Nat.le_refl _
  | (k, v) :: r, h => by
    have h1 : (k.showable = true ∧ v.showable = true) ∧ PyData.showableKv r = true := by simpa [PyData.showableKv, and_assoc] using h
    have h2 := shown_le k h1.1.1
    have h3 := shown_le v h1.1.2
    have h4 := shown_kv r h1.2
    show piled ((k.shown ++ ": " ++ v.shown) :: PyData.shownKv r) ≤ cost k + 2 + cost v + 2 + costKv r
    rw [piled_cons, strLen_append, strLen_append, show ((": " : Str)).length = 2 by decide +kernel]
    omega
end
/-! ### what stays -/
def UpN (H H' : Hp) : Prop := ∀ b o, H b = some o → (∀ q, o ≠ .tbl q) → H' b = some o
theorem UpN.refl (H : Hp) : UpN H H := fun _ _ e _ => e
theorem UpN.trans {H H1 H2 : Hp} (a : UpN H H1) (b : UpN H1 H2) : UpN H H2 := fun c o e n => b c o (a c o e n) n
theorem UpN.of_same {H H' : Hp} (h : Same H H') : UpN H H' := fun b o e _ => h b o e
theorem UpN.of_tab {H H' : Hp} {P : Addr} (t : GxR.TabG H P) (h : GxR.Tabbed P H H') : UpN H H' := fun b o e n => by
  obtain ⟨ps, hP, _⟩ := t
  rw [h.2 b fun z => by
    rw [z, hP] at e
    exact n ps (Option.some.inj e).symm]
  exact e
theorem TF.up {H H' : Hp} {a : Addr} {xs : List V} (h : TF H a xs) (k : UpN H H') : TF H' a xs := let ⟨o, h1, h2⟩ := h; ⟨o, h1, k _ _ h2 fun q z => by cases z⟩
theorem sqL_up {K : PySem.W.Frag} {H H' : Hp} {a : Addr} {xs : List V} (h : SqL K H a xs) (k : UpN H H') : SqL K H' a xs := by
  rcases h with (h | ⟨o, h⟩) | h
  · exact .inl (.inl (k _ _ h fun q z => by cases z))
  · exact .inl (.inr ⟨o, k _ _ h fun q z => by cases z⟩)
  · exact .inr h
theorem sqT_up {K : PySem.W.Frag} {H H' : Hp} {a : Addr} {xs : List V} (h : SqT K H a xs) (k : UpN H H') : SqT K H' a xs := by
  rcases h with (h | ⟨o, h⟩) | h
  · exact .inl (.inl (k _ _ h fun q z => by cases z))
  · exact .inl (.inr ⟨o, k _ _ h fun q z => by cases z⟩)
  · exact .inr h
mutual
theorem dp_up {K : PySem.W.Frag} {H H' : Hp} (k : UpN H H') : ∀ {v : V} {d : PyData}, Dp K H v d → Dp K H' v d
  | _, _, .non => .non
  | _, _, .bl b => .bl b
  | _, _, .int i => .int i
  | _, _, .str x => .str x
  | _, _, .lst h t => .lst (sqL_up h k) (dps_up k t)
  | _, _, .tup h t => .tup (sqT_up h k) (dps_up k t)
theorem dps_up {K : PySem.W.Frag} {H H' : Hp} (k : UpN H H') : ∀ {vs : List V} {ds : List PyData}, DpAll K H vs ds → DpAll K H' vs ds
  | _, _, .nil => .nil
  | _, _, .cons h t => .cons (dp_up k h) (dps_up k t)
end
theorem dps_app {K : PySem.W.Frag} {H : Hp} : ∀ {vs ws : List V} {ds es : List PyData}, DpAll K H vs ds → DpAll K H ws es → DpAll K H (vs ++ ws) (ds ++ es)
  | _, _, _, _, .nil, t => t
  | _, _, _, _, .cons h r, t => .cons h (dps_app r t)
/-! ### tuples put together, whichever of the ways -/
theorem cat_rd {K : PySem.W.Frag} {H : Hp} {a b : Addr} {xs ys : List V} {Q : VK} (hx : TF H a xs) (hy : TF H b ys) (hz : xs.length + ys.length ≤ 1000) (q : ∀ (r : Addr) (H' : Hp), Same H H' → TF H' r (xs ++ ys) → Q (.ref r) H') : rCatF K (.ref a) (.ref b) H Q := by
  refine ⟨a, b, xs, ys, rfl, rfl, hx.sq, hy.sq, Nat.le_of_lt (small1000 hz), fun e => q b H (Same.refl H) ?_, fun _ e => q a H (Same.refl H) ?_, fun _ _ p o np ho => q p _ (fun c u z => ?_) ⟨o, ho, upd_same⟩⟩
  · rw [e]
    exact hy
  · rw [e, List.append_nil]
    exact hx
  · rw [upd_ne (ne_of_none z np)]
    exact z
theorem cut_rd {K : PySem.W.Frag} {H : Hp} {a : Addr} {xs : List V} {lo hi : Option Int} {Q : VK} (hx : TF H a xs) (q : ∀ (r : Addr) (H' : Hp), Same H H' → TF H' r (cutV xs lo hi) → Q (.ref r) H') : rSlF K (.ref a) lo hi H Q := by
  refine ⟨a, xs, rfl, hx.sq, fun e => q a H (Same.refl H) ?_, fun _ p o np ho => q p _ (fun c u z => ?_) ⟨o, ho, upd_same⟩⟩
  · unfold cutV
    rw [e.1, e.2, Nat.sub_zero, List.drop_zero, List.take_length]
    exact hx
  · rw [upd_ne (ne_of_none z np)]
    exact z
theorem new_rd {H : Hp} {xs : List V} {Q : VK} (q : ∀ (r : Addr) (H' : Hp), Same H H' → H r = none → (∀ b, b ≠ r → H' b = H b) → TF H' r xs → Q (.ref r) H') : newT xs H Q := fun p o np ho =>
  q p _ (fun c u z => by rw [upd_ne (ne_of_none z np)]; exact z) np (fun b hb => upd_ne hb) ⟨o, ho, upd_same⟩
theorem cut_head (xs : List V) {k : Nat} (h : k ≤ xs.length) : cutV xs none (some (k : Int)) = xs.take k := by
  unfold cutV
  rw [HT.sIx_none, HT.sIx_nat, List.drop_zero, Nat.sub_zero, Nat.min_eq_left h]
theorem cut_tail (xs : List V) {k : Nat} (h : k ≤ xs.length) : cutV xs (some (k : Int)) none = xs.drop k := by
  unfold cutV
  rw [HT.sIx_none, HT.sIx_nat, Nat.min_eq_left h]
  exact List.take_of_length_le (by rw [List.length_drop]; exact Nat.le_refl _)
end HM
namespace HM
open PySem PySem.Spec PyProof.Rows L2
/-- the heap without what stands at l -/
def mns (H : Hp) (l : List Addr) : Hp := fun b => if b ∈ l then none else H b
theorem mns_in {H : Hp} {l : List Addr} {b : Addr} (h : b ∈ l) : mns H l b = none := if_pos h
theorem mns_out {H : Hp} {l : List Addr} {b : Addr} (h : b ∉ l) : mns H l b = H b := if_neg h
theorem mns_some {H : Hp} {l : List Addr} {b : Addr} {o : HO} (h : mns H l b = some o) : b ∉ l ∧ H b = some o := by
  by_cases z : b ∈ l
  · rw [mns_in z] at h
    cases h
  · rw [mns_out z] at h
    exact ⟨z, h⟩
theorem up_mns {H H' : Hp} {l l' : List Addr} (k : ∀ b o, b ∉ l → H b = some o → b ∉ l' ∧ H' b = some o) : UpN (mns H l) (mns H' l') := fun b o e _ => by
  obtain ⟨h1, h2⟩ := mns_some e
  obtain ⟨h3, h4⟩ := k b o h1 h2
  rw [mns_out h3]
  exact h4
theorem mns_le {H : Hp} {l : List Addr} : UpN (mns H l) H := fun b o e _ => (mns_some e).2
theorem TF.mns {H : Hp} {a : Addr} {xs : List V} {l : List Addr} (h : TF H a xs) (hl : ∀ b ∈ l, ∃ ys, H b = some (.lst ys)) : TF (mns H l) a xs := by
  obtain ⟨o, h1, h2⟩ := h
  refine ⟨o, h1, ?_⟩
  rw [mns_out fun z => ?_]
  · exact h2
  · obtain ⟨ys, e⟩ := hl a z
    rw [e] at h2
    cases h2
/-- data that are small -/
def smI (i : Int) : Bool := decide (i.natAbs ≤ 10 ^ 29)
def smD : PyData → Bool
  | .int i => smI i
  | .bool _ => true
  | .none => true
  | .str x => decide (x = "0")
  | .tuple [.int i] => smI i
  | .list [.int i] => smI i
  | _ => false
/-- a tuple of few small things -/
def NearT (K : PySem.W.Frag) (H : Hp) (x : V) : Prop := ∃ (a : Addr) (ys : List V) (ds : List PyData), x = .ref a ∧ TF H a ys ∧ DpAll K H ys ds ∧ ds.length ≤ 16 ∧ ds.all smD = true
theorem NearT.up {K : PySem.W.Frag} {H H' : Hp} {x : V} (h : NearT K H x) (k : UpN H H') : NearT K H' x := by
  obtain ⟨a, ys, ds, h1, h2, h3, r⟩ := h
  exact ⟨a, ys, ds, h1, h2.up k, dps_up k h3, r⟩
theorem dp_intsH {K : PySem.W.Frag} {H : Hp} (ns : List Int) : DpAll K H (ns.map V.int) (ns.map .int) := dp_ints ns
theorem sm_ints : ∀ {ns : List Int}, (∀ i ∈ ns, 0 ≤ i ∧ i < 8) → (ns.map PyData.int).all smD = true
  | [], _ => rfl
  | n :: ns, h => by
    rw [List.map_cons, List.all_cons, sm_ints fun i hi => h i (List.mem_cons_of_mem _ hi), Bool.and_true]
    have := h n List.mem_cons_self
    show smI n = true
    exact decide_eq_true (by omega)
/-- [pre + (one,) + post for one in S] -/
theorem lc_near {K : PySem.W.Frag} {H : Hp} {Qd : Hp → Prop} {D a F S : Addr} {k : Nat} {y3 y4 : Option V} {os : List V} {zs pre post : List Int} {av : List Addr} {te : TE}
    (ha : TF H a (zs.map V.int)) (hS : H S = some (.lst os)) (hl : pre.length + post.length ≤ 14) (hsm : ∀ i, i ∈ pre ∨ i ∈ post → 0 ≤ i ∧ i < 8) (hav : ∀ b ∈ av, ∃ ys, H b = some (.lst ys)) (hos : ∀ o ∈ os, ∃ d, Dp K (mns H av) o d ∧ smD d = true) (hol : os.length ≤ 100)
    (hte : ∀ (one : V) (H2 : Hp) (Q2 : VK), TF H2 a (zs.map V.int) → (∀ r H', Same H2 H' → TF H' r (pre.map V.int ++ [one] ++ post.map V.int) → Q2 (.ref r) H') → te [some (.ref a), some (.ref F), some (.int (k : Int)), y3, some one] H2 Q2)
    (nD : H D = none) (q : ∀ (acc : List V) (H' : Hp), Same H H' → H' D = some (.lst acc) → acc.length = os.length → (∀ x ∈ acc, NearT K (mns H' (D :: av)) x) → Qd H') :
    ∃ W : Nat → Nat → Hp → Prop, (∃ m, W 0 m (upd H D (.lst []))) ∧ ∀ i m Hx, W i m Hx → ((Itl K S).stop i Hx ∧ Qd Hx) ∨ ((Itl K S).go i Hx ∧ ∃ Nx : Hp → Prop, (∀ Hy, Nx Hy → ∃ m', m' < m ∧ W (i + 1) m' Hy) ∧
      ∀ x Hy, (Itl K S).yld i Hx x Hy → gName 4 x (wipe [some (.ref a), some (.ref F), some (.int (k : Int)), y3, y4] [4]) Hy fun σ2 H2 => wipe σ2 [4] = wipe [some (.ref a), some (.ref F), some (.int (k : Int)), y3, y4] [4] ∧ tYes σ2 H2 fun b H3 =>
        if b = true then te σ2 H3 fun y H4 => ∃ acc, H4 D = some (.lst acc) ∧ acc.length < sizeLine ∧ Nx (upd H4 D (.lst (acc ++ [y]))) else Nx H3) := by
  refine lc_list (xs := os) (fun i H3 => ∃ acc : List V, H3 D = some (.lst acc) ∧ acc.length = i ∧ (∀ b o, H b = some o → H3 b = some o) ∧ ∀ x ∈ acc, NearT K (mns H3 (D :: av)) x)
    ⟨[], upd_same, rfl, fun b o e => by rw [upd_ne (ne_of_none e nD)]; exact e, fun x hx => by cases hx⟩ (fun i H3 _ hP => ?_) (fun i one H3 ho hP => ?_) fun H3 hP => ?_
  · obtain ⟨acc, _, _, hk, _⟩ := hP
    exact .inl (.inl (hk _ _ hS))
  · obtain ⟨acc, eD, hac, hk, hn⟩ := hP
    have ha3 : TF H3 a (zs.map V.int) := ha.up fun b o e _ => hk b o e
    refine ⟨rfl, hte one H3 _ ha3 fun r H4 hs hr => ?_⟩
    have hi : i < os.length := (List.getElem?_eq_some_iff.mp ho).1
    refine ⟨acc, hs _ _ eD, small1000 (by omega), acc ++ [.ref r], upd_same, by rw [List.length_append, hac]; rfl, fun b o e => by rw [upd_ne (ne_of_none e nD)]; exact hs _ _ (hk b o e), fun x hx => ?_⟩
    have up4 : UpN (mns H3 (D :: av)) (mns (upd H4 D (.lst (acc ++ [.ref r]))) (D :: av)) := up_mns fun b o hb e => ⟨hb, by rw [upd_ne fun z => hb (by rw [z]; exact List.mem_cons_self)]; exact hs _ _ e⟩
    rcases List.mem_append.mp hx with hx | hx
    · exact (hn x hx).up up4
    · cases List.mem_singleton.mp hx
      obtain ⟨d, hd, hsd⟩ := hos one (List.mem_of_getElem? ho)
      have up0 : UpN (mns H av) (mns (upd H4 D (.lst (acc ++ [.ref r]))) (D :: av)) := up_mns fun b o hb e => ⟨fun z => by
        rcases List.mem_cons.mp z with z | z
        · rw [z, nD] at e
          cases e
        · exact hb z, by rw [upd_ne (ne_of_none e nD)]; exact hs _ _ (hk b o e)⟩
      refine ⟨r, _, pre.map .int ++ [d] ++ post.map .int, rfl, ?_, dps_app (dps_app (dp_ints pre) (.cons (dp_up up0 hd) .nil)) (dp_ints post), ?_, ?_⟩
      · have hr2 : TF (upd H4 D (.lst (acc ++ [.ref r]))) r (pre.map V.int ++ [one] ++ post.map V.int) := by
          obtain ⟨o, h1, h2⟩ := hr
          refine ⟨o, h1, ?_⟩
          rw [upd_ne fun z => ?_]
          · exact h2
          · rw [z, hs _ _ eD] at h2
            cases h2
        refine hr2.mns fun b hb => ?_
        rcases List.mem_cons.mp hb with z | z
        · rw [z]
          exact ⟨_, upd_same⟩
        · obtain ⟨ys, e⟩ := hav b z
          exact ⟨ys, by rw [upd_ne (ne_of_none e nD)]; exact hs _ _ (hk _ _ e)⟩
      · rw [List.length_append, List.length_append, List.length_map, List.length_map]
        show pre.length + 1 + post.length ≤ 16
        omega
      · rw [List.all_append, List.all_append, sm_ints fun i hi => hsm i (.inl hi), sm_ints fun i hi => hsm i (.inr hi)]
        show (true && (smD d && true)) && true = true
        rw [hsd]
        rfl
  · obtain ⟨acc, eD, hac, hk, hn⟩ := hP
    exact q acc H3 hk eD hac hn
end HM
namespace HM
open PySem PySem.Spec PyProof.Rows L2
/-! ### data that repr can show -/
def It (k c : Nat) (d : PyData) : Prop := d.showable = true ∧ d.hasDict = false ∧ d.depth ≤ k ∧ cost d ≤ c
theorem it_all {k c : Nat} : ∀ {ds : List PyData}, (∀ d ∈ ds, It k c d) → PyData.showableAll ds = true ∧ PyData.hasDictAll ds = false ∧ PyData.depthAll ds ≤ k ∧ costs ds ≤ (c + 2) * ds.length
  | [], _ => ⟨rfl, rfl, Nat.zero_le _, Nat.le_refl _⟩
  | d :: ds, h => by
    obtain ⟨h1, h2, h3, h4⟩ := h d List.mem_cons_self
    obtain ⟨g1, g2, g3, g4⟩ := it_all (ds := ds) fun e he => h e (List.mem_cons_of_mem _ he)
    refine ⟨by simp only [PyData.showableAll, h1, g1, Bool.and_self], by simp only [PyData.hasDictAll, h2, g2, Bool.or_self], by simp only [PyData.depthAll]; omega, ?_⟩
    show cost d + 2 + costs ds ≤ (c + 2) * (ds.length + 1)
    rw [Nat.mul_add]
    omega
theorem it_tup {k c : Nat} {ds : List PyData} (h : ∀ d ∈ ds, It k c d) : It (k + 1) ((c + 2) * ds.length + 2) (.tuple ds) := by
  obtain ⟨g1, g2, g3, g4⟩ := it_all h
  exact ⟨by simpa only [PyData.showable] using g1, by simpa only [PyData.hasDict] using g2, by simp only [PyData.depth]; omega, by show costs ds + 2 ≤ _; omega⟩
theorem it_lst {k c : Nat} {ds : List PyData} (h : ∀ d ∈ ds, It k c d) : It (k + 1) ((c + 2) * ds.length + 2) (.list ds) := by
  obtain ⟨g1, g2, g3, g4⟩ := it_all h
  exact ⟨by simpa only [PyData.showable] using g1, by simpa only [PyData.hasDict] using g2, by simp only [PyData.depth]; omega, by show costs ds + 2 ≤ _; omega⟩
theorem it_mono {k c k' c' : Nat} {d : PyData} (h : It k c d) (hk : k ≤ k') (hc : c ≤ c') : It k' c' d := ⟨h.1, h.2.1, Nat.le_trans h.2.2.1 hk, Nat.le_trans h.2.2.2 hc⟩
theorem log_small {i : Int} (h : smI i = true) : i.natAbs.log2 < 1920 := by
  have h1 : i.natAbs ≤ 10 ^ 29 := of_decide_eq_true h
  by_cases h0 : i.natAbs = 0
  · rw [h0]
    decide
  · rw [Nat.log2_lt h0]
    exact Nat.lt_of_le_of_lt h1 (by decide +kernel)
theorem it_int {i : Int} (h : smI i = true) : It 0 1921 (.int i) := ⟨by simpa only [PyData.showable] using decide_eq_true (log_small h), rfl, Nat.le_refl _, Nat.le_refl _⟩
theorem it_bool (b : Bool) : It 0 1921 (.bool b) := ⟨rfl, rfl, Nat.le_refl _, by show 5 ≤ 1921; decide⟩
theorem it_none : It 0 1921 .none := ⟨rfl, rfl, Nat.le_refl _, by show 4 ≤ 1921; decide⟩
theorem it_small {d : PyData} (h : smD d = true) : It 1 2000 d := by
  cases d with
  | none => exact it_mono it_none (by decide) (by decide)
  | bool b => exact it_mono (it_bool b) (by decide) (by decide)
  | int i => exact it_mono (it_int h) (by decide) (by decide)
  | str x =>
    have e : x = "0" := of_decide_eq_true h
    subst e
    exact ⟨rfl, rfl, Nat.zero_le _, by decide +kernel⟩
  | list xs =>
    match xs, h with
    | [.int i], h => exact it_mono (it_lst (k := 0) (c := 1921) fun d hd => by rw [List.mem_singleton.mp hd]; exact it_int h) (by decide) (by show (1921 + 2) * 1 + 2 ≤ 2000; decide)
  | tuple xs =>
    match xs, h with
    | [.int i], h => exact it_mono (it_tup (k := 0) (c := 1921) fun d hd => by rw [List.mem_singleton.mp hd]; exact it_int h) (by decide) (by show (1921 + 2) * 1 + 2 ≤ 2000; decide)
  | dict kvs => cases h
/-! ### what a thing is that is asked about -/
def Th (K : PySem.W.Frag) (H : Hp) (x : V) : Prop := ∃ d, RP K H x d ∧ TC K H x d ∧ d.showable = true ∧ d.depth ≤ 40 ∧ d.shown.length ≤ sizeLine ∧ ∀ ds, d = .tuple ds → ds.length ≤ 4000
theorem vty_up {K : PySem.W.Frag} {H H' : Hp} {x : V} {T : String} (t : VTy K H x T) (k : UpN H H') : VTy K H' x T := by
  cases t with
  | non => exact .non
  | bl b => exact .bl b
  | int i => exact .int i
  | str y => exact .str y
  | lst e => exact .lst (sqL_up e k)
  | tup e => exact .tup (sqT_up e k)
  | dct e => exact .dct (k _ _ e fun q z => by cases z)
theorem rp_up {K : PySem.W.Frag} {H H' : Hp} {x : V} {d : PyData} (h : RP K H x d) (k : UpN H H') : RP K H' x d := by
  cases h with
  | flat h n => exact .flat (dp_up k h) n
  | dict ps h => exact .dict ps (k _ _ h fun q z => by cases z)
theorem tc_up {K : PySem.W.Frag} {H H' : Hp} {x : V} {d : PyData} (h : TC K H x d) (k : UpN H H') : TC K H' x d := by
  rcases h with ⟨a, xs, ds, h1, h2, h3, h4⟩ | ⟨T, h1, h2⟩
  · exact .inl ⟨a, xs, ds, h1, h2, h3.up k, dps_up k h4⟩
  · exact .inr ⟨T, vty_up h1 k, h2⟩
theorem Th.up {K : PySem.W.Frag} {H H' : Hp} {x : V} (h : Th K H x) (k : UpN H H') : Th K H' x := by
  obtain ⟨d, h1, h2, r⟩ := h
  exact ⟨d, rp_up h1 k, tc_up h2 k, r⟩
theorem th_it {K : PySem.W.Frag} {H : Hp} {x : V} {d : PyData} (h : Dp K H x d) (t : TC K H x d) (i : It 40 1000000 d) (hl : ∀ ds, d = .tuple ds → ds.length ≤ 4000) : Th K H x :=
  ⟨d, .flat h i.2.1, t, i.1, i.2.2.1, Nat.le_trans (shown_le d i.1) (Nat.le_trans i.2.2.2 (by decide)), hl⟩
theorem th_tup {K : PySem.W.Frag} {H : Hp} {a : Addr} {xs : List V} {ds : List PyData} (h : TF H a xs) (hd : DpAll K H xs ds) (i : ∀ d ∈ ds, It 5 20000 d) (hl : ds.length ≤ 20) : Th K H (.ref a) :=
  th_it (.tup h.sq hd) (.inl ⟨a, xs, ds, rfl, rfl, h, hd⟩) (it_mono (it_tup i) (by decide) (by have := Nat.mul_le_mul_left (20000 + 2) hl; omega)) fun es e => by cases e; omega
theorem th_lst {K : PySem.W.Frag} {H : Hp} {a : Addr} {xs : List V} {ds : List PyData} (h : SqL K H a xs) (hd : DpAll K H xs ds) (i : ∀ d ∈ ds, It 5 20000 d) (hl : ds.length ≤ 20) : Th K H (.ref a) :=
  th_it (.lst h hd) (.inr ⟨_, .lst h, by decide +kernel, rfl⟩) (it_mono (it_lst i) (by decide) (by have := Nat.mul_le_mul_left (20000 + 2) hl; omega)) fun es e => by cases e
theorem NearT.th {K : PySem.W.Frag} {H : Hp} {x : V} (h : NearT K H x) : Th K H x := by
  obtain ⟨a, ys, ds, rfl, h2, h3, h4, h5⟩ := h
  exact th_tup h2 h3 (fun d hd => it_mono (it_small (List.all_eq_true.mp h5 d hd)) (by decide) (by decide)) (by omega)
theorem it_ints {zs : List Int} (h : ∀ z ∈ zs, 0 ≤ z ∧ z < 100) : ∀ d ∈ zs.map PyData.int, It 0 1921 d := fun d hd => by
  obtain ⟨z, hz, rfl⟩ := List.mem_map.mp hd
  have := h z hz
  exact it_int (decide_eq_true (by omega))
theorem th_ints {K : PySem.W.Frag} {H : Hp} {a : Addr} {zs : List Int} (h : TF H a (zs.map V.int)) (hz : ∀ z ∈ zs, 0 ≤ z ∧ z < 100) (hl : zs.length ≤ 20) : Th K H (.ref a) :=
  th_tup h (dp_ints zs) (fun d hd => it_mono (it_ints hz d hd) (by decide) (by decide)) (by rw [List.length_map]; exact hl)
theorem th_snoc {K : PySem.W.Frag} {H H' : Hp} {l : List V} {y : V} (h : ∀ x ∈ l, Th K H x) (k : UpN H H') (hy : Th K H' y) : ∀ x ∈ l ++ [y], Th K H' x := fun x hx => by
  rcases List.mem_append.mp hx with hx | hx
  · exact (h x hx).up k
  · rw [List.mem_singleton.mp hx]
    exact hy
/-! ### texts -/
def okS (x : Str) : Prop := ∀ c ∈ x.cps.toList, c < 16 ^ 8
theorem okS_of (s : String) : okS (Str.ofString s) := fun c hc => by
  rw [signs_ofString] at hc
  obtain ⟨ch, _, rfl⟩ := List.mem_map.mp hc
  exact Nat.lt_of_lt_of_le ch.val.toNat_lt (by decide)
theorem okS_app {x y : Str} (hx : okS x) (hy : okS y) : okS (x ++ y) := fun c hc => by
  have e : (x ++ y).cps.toList = x.cps.toList ++ y.cps.toList := by
    show (x.cps ++ y.cps).toList = _
    simp
  rw [e] at hc
  exact (List.mem_append.mp hc).elim (hx c) (hy c)
theorem okS_join {sep : Str} (hs : okS sep) : ∀ {ts : List Str}, (∀ t ∈ ts, okS t) → okS (Str.join sep ts)
  | [], _ => fun c hc => by cases hc
  | [x], h => h x List.mem_cons_self
  | x :: y :: r, h => okS_app (okS_app (h x List.mem_cons_self) hs) (okS_join hs fun t ht => h t (List.mem_cons_of_mem _ ht))
theorem okS_ints (zs : List Int) : okS (PyData.tuple (zs.map .int)).shown := by
  have h : ∀ l : List Int, ∀ t ∈ PyData.shownAll (l.map .int), okS t := fun l => by
    induction l with
    | nil => intro t ht; cases ht
    | cons z l ih =>
      intro t ht
      rcases List.mem_cons.mp (show t ∈ PyData.shown (.int z) :: PyData.shownAll (l.map .int) from ht) with e | e
      · rw [e]
        exact okS_of _
      · exact ih t e
  show okS (tupleText (PyData.shownAll (zs.map .int)))
  unfold tupleText
  exact okS_app (okS_app (okS_of _) (okS_join (okS_of _) (h zs))) (okS_of _)
theorem th_shown {K : PySem.W.Frag} {H : Hp} {zs : List Int} (hz : ∀ z ∈ zs, 0 ≤ z ∧ z < 100) (hl : zs.length ≤ 20) : Th K H (.str (PyData.tuple (zs.map .int)).shown) := by
  have i := it_tup (it_ints hz)
  rw [List.length_map] at i
  have h1 := shown_le _ i.1
  have h2 := Nat.mul_le_mul_left (1921 + 2) hl
  have h3 := StrLaws.reprText_len _ (okS_ints zs)
  have h4 := i.2.2.2
  refine ⟨.str _, .flat (.str _) rfl, .inr ⟨_, .str _, by decide +kernel, rfl⟩, rfl, Nat.zero_le _, ?_, fun ds e => by cases e⟩
  show (reprText _).length ≤ sizeLine
  have h5 : sizeLine = 16777216 := by decide
  omega
theorem th_dict {K : PySem.W.Frag} {H : Hp} {a : Addr} {ps : List (Int × Int)} (h : H a = some (.dK (ps.map fun p => ((Sum.inl p.1 : Key), V.int p.2)))) (hz : ∀ p ∈ ps, smI p.1 = true ∧ smI p.2 = true) (hl : ps.length ≤ 20) : Th K H (.ref a) := by
  have key : ∀ l : List (Int × Int), (∀ p ∈ l, smI p.1 = true ∧ smI p.2 = true) → PyData.showableKv (l.map fun p => (.int p.1, .int p.2)) = true ∧ PyData.depthKv (l.map fun p => (.int p.1, .int p.2)) = 0 ∧ costKv (l.map fun p => (.int p.1, .int p.2)) = 3846 * l.length := fun l => by
    induction l with
    | nil => intro _; exact ⟨rfl, rfl, rfl⟩
    | cons p l ih =>
      intro h
      obtain ⟨g1, g2, g3⟩ := ih fun q hq => h q (List.mem_cons_of_mem _ hq)
      have e := h p List.mem_cons_self
      refine ⟨?_, ?_, ?_⟩
      · show (PyData.showable (.int p.1) && PyData.showable (.int p.2) && PyData.showableKv (l.map fun p => (.int p.1, .int p.2))) = true
        rw [(it_int e.1).1, (it_int e.2).1, g1]
        rfl
      · show max (max 0 0) (PyData.depthKv (l.map fun p => (.int p.1, .int p.2))) = 0
        rw [g2]
        rfl
      · show 1921 + 2 + 1921 + 2 + costKv (l.map fun p => (.int p.1, .int p.2)) = 3846 * (l.length + 1)
        rw [g3]
        omega
  obtain ⟨g1, g2, g3⟩ := key ps hz
  have hs : (PyData.dict (ps.map fun p => (.int p.1, .int p.2))).showable = true := by simpa only [PyData.showable] using g1
  refine ⟨_, .dict ps h, .inr ⟨_, .dct h, by decide +kernel, rfl⟩, hs, by simp only [PyData.depth, g2]; decide, ?_, fun ds e => by cases e⟩
  have h1 := shown_le _ hs
  have h2 : cost (PyData.dict (ps.map fun p => (.int p.1, .int p.2))) = costKv (ps.map fun p => (.int p.1, .int p.2)) + 2 := rfl
  rw [h2, g3] at h1
  have h5 : sizeLine = 16777216 := by decide
  omega
end HM
namespace HM
open PySem PySem.Spec PyProof.Rows L2
section
variable {prog : Program} {w : World} {A : Around} {env : Env} {S : Heap → Prop} {R : Value → Prop}
/-- f(a), f a built-in -/
theorem rx_callB1 {x : Str} {p pos : Pos} {a : Expr} {id : String} {Ra : Value → Prop} (fm : Firm S) (hf : RX prog w A env S (.Name x p) (fun v => v = .builtin id)) (ha : RX prog w A env S a Ra)
    (hc : ∀ (E : Value → Shared → Prop) (s : Shared) (u : Value), S s.heap → Ra u → wpAny (model prog w) A (call (.builtin id) [u]) (fun y s' => R y ∧ Keeps s s') E s)
    (he : starEach [a] env = (false, eval a env) :: starEach [] env := by rfl) (hpl : (backTo pos (starEach [] env)).any (·.1) = false := by rfl) :
    RX prog w A env S (.Call (.Name x p) [a] [] pos) R := fun E s hs => by
  refine wpAny_Call_Name_kw (thn (hf E s hs) fun fv s0 q0 => ?_)
  obtain ⟨rfl, k0⟩ := q0
  refine PyProof.Rows.callWith_builtin1 ?_ he hpl
  rw [he]
  show wpAny _ _ (spliced ((false, eval a env) :: backTo pos (starEach [] env))) _ _ s0
  have hs0 := fm _ _ hs (kp_grows k0)
  refine Calls.spliced_cons (thn (ha E s0 hs0) fun u s1 q1 => ?_)
  refine Calls.spliced_nil ?_
  have hs1 := fm _ _ hs0 (kp_grows q1.2)
  exact thn (hc E s1 u hs1 q1.1) fun y s3 q3 => ⟨q3.1, kp_trans k0 (kp_trans q1.2 q3.2)⟩
/-- len(e), e a list -/
theorem rx_lenL {x : Str} {p pos : Pos} {a : Expr} {l : Addr} {items : Array Value} (fm : Firm S) (hf : RX prog w A env S (.Name x p) (fun v => v = .builtin "len")) (ha : RX prog w A env S a (fun v => v = .ref l)) (hS : ∀ h, S h → h.IsList l items) (hfit : (items.size : Int) < 2 ^ 63)
    (he : starEach [a] env = (false, eval a env) :: starEach [] env := by rfl) : RX prog w A env S (.Call (.Name x p) [a] [] pos) (fun y => ∃ t, y = .int items.size t) :=
  rx_callB1 fm hf ha (fun E s u hs hu => by
    subst hu
    exact Calls.call_len_list (hS _ hs) hfit ⟨⟨_, rfl⟩, kp_tok s _⟩) he
/-- e[x], e a list -/
theorem rx_ixL {a : Expr} {y : Str} {p pos : Pos} {l : Addr} {items : Array Value} {i : Int} {x : Value} (fm : Firm S) (ha : RX prog w A env S a (fun v => v = .ref l)) (hb : RX prog w A env S (.Name y p) (fun v => ∃ tk, v = .int i tk)) (hS : ∀ h, S h → h.IsList l items)
    (h0 : 0 ≤ i) (h1 : i < 2 ^ 63) (hx : items[i.toNat]? = some x) : RX prog w A env S (.Subscript a (.Name y p) pos) (fun v => v = x) := fun E s hs => by
  refine Subscript_ (thn (ha E s hs) fun o s1 q1 => ?_)
  have hs1 := fm _ _ hs (kp_grows q1.2)
  refine thn (hb E s1 hs1) fun iv s2 q2 => ?_
  obtain ⟨rfl, k1⟩ := q1
  obtain ⟨⟨tk, rfl⟩, k2⟩ := q2
  exact item_listR (hS _ (fm _ _ hs1 (kp_grows k2))) h0 h1 hx ⟨rfl, kp_trans k1 k2⟩
end
/-! ### len(set(l)), l a list of ints -/
theorem first_dist (ns : List Int) : Dist ns (PyProof.Rows.firstMet (fun i => ns.getD i 0) ns.length).length := by
  have nd : ∀ i, (PyProof.Rows.firstMet (fun i => ns.getD i 0) i).Nodup := fun i => by
    induction i with
    | zero => exact List.nodup_nil
    | succ i ih =>
      rw [firstMet_succ]
      unfold step_dedup
      split
      · exact ih
      · rename_i h
        refine List.nodup_append.mpr ⟨ih, List.nodup_cons.mpr ⟨by simp, List.nodup_nil⟩, fun a ha b hb e => ?_⟩
        rw [List.mem_singleton.mp hb] at e
        subst e
        exact h (List.any_eq_true.mpr ⟨_, ha, by simp⟩)
  refine ⟨_, nd ns.length, fun k => ?_, rfl⟩
  have e := firstMet_any (fun i => ns.getD i 0) ns.length k
  have e2 : (List.range ns.length).map (fun i => ns.getD i 0) = ns := by
    refine List.ext_getElem (by simp) fun i h1 h2 => ?_
    rw [List.getElem_map, List.getElem_range, List.getD_eq_getElem?_getD, List.getElem?_eq_getElem h2]
    rfl
  rw [e2] at e
  rw [Bool.eq_iff_iff, List.any_eq_true, List.any_eq_true] at e
  constructor
  · intro h
    obtain ⟨x, hx, hk⟩ := e.mp ⟨k, h, by simp⟩
    rw [← beq_iff_eq.mp hk]
    exact hx
  · intro h
    obtain ⟨x, hx, hk⟩ := e.mpr ⟨k, h, by simp⟩
    rw [← beq_iff_eq.mp hk]
    exact hx
section
variable {X : Cx}
def tLenSetL (K : PySem.W.Frag) (ta : TE) : TE := fun σ H Q => ta σ H fun x H1 => ∃ (l : Addr) (ns : List Int), x = .ref l ∧ SqL K H1 l (ns.map V.int) ∧ ns.length ≤ 4000 ∧ ∀ c, Dist ns c → Q (.int (c : Nat)) H1
theorem pe_lenSetL {a : Expr} {ta : TE} {p p2 q pos : Pos} (hg : Gl X "len") (hm : X.mg "len" = none) (hg2 : Gl X "set") (hm2 : X.mg "set" = none) (ha : PE X a ta) (hc : X.calm = true := by rfl)
    (na : starEach [a] X.env = (false, eval a X.env) :: starEach [] X.env := by rfl) : PE X (.Call (.Name "len" p) [.Call (.Name "set" p2) [a] [] q] [] pos) (tLenSetL X.K ta) := by
  refine ⟨fun pins s σ H Q I h => ?_⟩
  refine Call_ (ld_blt I hg hm boot_len ?_)
  refine PyProof.Rows.callWith_builtin1 (PyProof.Rows.args_cons ?_ rfl) rfl rfl
  refine Call_ (ld_blt I hg2 hm2 boot_set ?_)
  refine PyProof.Rows.callWith_type1 (PyProof.Rows.args_cons (thn (ha.run pins s σ H _ I h) fun v s1 hx => PyProof.Rows.args_nil ?_) na) na rfl
  obtain ⟨x, H1, I1, r1, l, ns, rfl, hq, hl, q1⟩ := hx
  cases r1
  obtain ⟨its, r, pl, hz⟩ := I1.list hq
  have hlen : its.length = ns.length := by rw [← r.length, List.length_map]
  refine PySem.call_set_list (ns := ns) (I1.ok.hd hc) pl.isList (by simpa using RZ.intsAre_vals r) (by rw [List.size_toArray, hlen]; unfold scanBound; omega) fun h' tk hS hk => ?_
  have I2 := I1.kept (h' := h') (t' := tk) fun b o e => hk b o (Heap.lt_size e) e
  refine PyProof.Rows.args_nil ?_
  obtain ⟨o, es, ep, t, ho, hex, hd, _, _, hsb, hf, hn⟩ := hS
  have hsz : (es.size : Int) < 2 ^ 63 := by
    have h9 : scanBound ≤ 2 ^ 62 := by decide
    omega
  refine call_len_set ho hex hd hf hsz ⟨.int es.size, H1, I2.tok _, ⟨_, rfl⟩, ?_⟩
  refine q1 es.size ?_
  rw [hn, List.size_toArray, hlen]
  exact first_dist ns
end
end HM
namespace HM
open PySem PySem.Spec PyProof.Rows L2
/-! ### what stays while other things are laid, written or drawn -/
theorem tab_same {H H' : Hp} {P : Addr} (h : GxR.TabG H P) (k : Same H H') : GxR.TabG H' P := let ⟨ps, e, r⟩ := h; ⟨ps, k _ _ e, r⟩
theorem isPen.upN {K : PySem.W.Frag} {H H' : Hp} {p : Addr} {t : Int} (h : isPen K H p t) (k : UpN H H') : isPen K H' p t := by
  obtain ⟨a, ns, l, h1, h2, r⟩ := h
  exact ⟨a, ns, l, k _ _ h1 (fun q z => by cases z), h2.up (fun b ob u e => k _ _ e (fun q z => by cases z)), r⟩
theorem same_lay {H : Hp} {q : Addr} {o : HO} (n : H q = none) : Same H (upd H q o) := fun b u e => by rw [upd_ne (ne_of_none e n)]; exact e
theorem UpN.lay {H J : Hp} {q : Addr} {o : HO} (u : UpN H J) (n : J q = none) : UpN H (upd J q o) := u.trans (.of_same (same_lay n))
theorem UpN.set {H J : Hp} {q : Addr} {o : HO} (u : UpN H J) (n : H q = none) : UpN H (upd J q o) := fun b p e z => by rw [upd_ne (ne_of_none e n)]; exact u b p e z
theorem isPen.kept {K : PySem.W.Frag} {H H' : Hp} {p : Addr} {t : Int} {b : Addr} {o : HO} (hp : isPen K H p t) (k : Kept p H H') (e : H b = some o) (hd : ∀ kv, o ≠ .dK kv) : H' b = some o := by
  refine k _ _ e fun z => ?_
  obtain ⟨_, _, _, e2, _⟩ := hp
  rw [z, e2] at e
  exact hd _ (Option.some.inj e).symm
/-- all that was tracked is as it was, but for the pen and the tables -/
def UpP (p : Addr) (H H' : Hp) : Prop := ∀ b o, H b = some o → b ≠ p → (∀ q, o ≠ .tbl q) → H' b = some o
theorem UpP.refl (p : Addr) (H : Hp) : UpP p H H := fun _ _ e _ _ => e
theorem UpP.trans {p : Addr} {H H1 H2 : Hp} (a : UpP p H H1) (b : UpP p H1 H2) : UpP p H H2 := fun c o e n z => b c o (a c o e n z) n z
theorem UpP.of_up {p : Addr} {H H' : Hp} (u : UpN H H') : UpP p H H' := fun b o e _ z => u b o e z
theorem UpP.of_kept {p : Addr} {H H' : Hp} (k : Kept p H H') : UpP p H H' := fun b o e n _ => k b o e n
theorem UpP.set {p : Addr} {H J : Hp} {q : Addr} {o : HO} (u : UpP p H J) (n : H q = none) : UpP p H (upd J q o) := fun b r e h z => by rw [upd_ne (ne_of_none e n)]; exact u b r e h z
theorem tab_kept {K : PySem.W.Frag} {H H' : Hp} {p Pt : Addr} {t : Int} (h : GxR.TabG H Pt) (hp : isPen K H p t) (k : Kept p H H') : GxR.TabG H' Pt := let ⟨ps, e, r⟩ := h; ⟨ps, hp.kept k e (fun _ z => by cases z), r⟩
theorem tab_lay {H : Hp} {q Pt : Addr} {o : HO} (h : GxR.TabG H Pt) (n : H q = none) : GxR.TabG (upd H q o) Pt := tab_same h (same_lay n)
theorem tab_put {H : Hp} {q Pt : Addr} {l l2 : List V} (h : GxR.TabG H Pt) (n : H q = some (.lst l)) : GxR.TabG (upd H q (.lst l2)) Pt := by
  obtain ⟨ps, e, r⟩ := h
  refine ⟨ps, ?_, r⟩
  rw [upd_ne fun z => by rw [z, n] at e; cases e]
  exact e
/-- data, read through a heap that has lost nothing of it but the pen -/
def noPen (p : Addr) (H : Hp) : Prop := ∀ l, H p ≠ some (.lst l) ∧ H p ≠ some (.tup l) ∧ ∀ o u, H p ≠ some (.frz o u)
theorem isPen.noPen {K : PySem.W.Frag} {H : Hp} {p : Addr} {t : Int} (h : isPen K H p t) : noPen p H := by
  obtain ⟨_, _, _, e, _⟩ := h
  exact fun l => ⟨(fun z => by rw [e] at z; cases z), (fun z => by rw [e] at z; cases z), (fun o u z => by rw [e] at z; cases z)⟩
theorem sqL_p {K : PySem.W.Frag} {H H' : Hp} {p a : Addr} {xs : List V} (hp : HM.noPen p H) (u : UpP p H H') (h : SqL K H a xs) : SqL K H' a xs := by
  rcases h with (h | ⟨o, h⟩) | h
  · exact .inl (.inl (u _ _ h (fun z => by rw [z] at h; exact (hp xs).1 h) fun q z => by cases z))
  · exact .inl (.inr ⟨o, u _ _ h (fun z => by rw [z] at h; exact (hp xs).2.2 _ _ h) fun q z => by cases z⟩)
  · exact .inr h
theorem sqT_p {K : PySem.W.Frag} {H H' : Hp} {p a : Addr} {xs : List V} (hp : HM.noPen p H) (u : UpP p H H') (h : SqT K H a xs) : SqT K H' a xs := by
  rcases h with (h | ⟨o, h⟩) | h
  · exact .inl (.inl (u _ _ h (fun z => by rw [z] at h; exact (hp xs).2.1 h) fun q z => by cases z))
  · exact .inl (.inr ⟨o, u _ _ h (fun z => by rw [z] at h; exact (hp xs).2.2 _ _ h) fun q z => by cases z⟩)
  · exact .inr h
mutual
theorem dp_p {K : PySem.W.Frag} {H H' : Hp} {p : Addr} (hp : HM.noPen p H) (u : UpP p H H') : ∀ {v : V} {d : PyData}, Dp K H v d → Dp K H' v d
  | _, _, .non => .non
  | _, _, .bl b => .bl b
  | _, _, .int i => .int i
  | _, _, .str x => .str x
  | _, _, .lst h t => .lst (sqL_p hp u h) (dps_p hp u t)
  | _, _, .tup h t => .tup (sqT_p hp u h) (dps_p hp u t)
theorem dps_p {K : PySem.W.Frag} {H H' : Hp} {p : Addr} (hp : HM.noPen p H) (u : UpP p H H') : ∀ {vs : List V} {ds : List PyData}, DpAll K H vs ds → DpAll K H' vs ds
  | _, _, .nil => .nil
  | _, _, .cons h t => .cons (dp_p hp u h) (dps_p hp u t)
end
theorem TF.p {H H' : Hp} {p a : Addr} {xs : List V} (hp : HM.noPen p H) (u : UpP p H H') (h : TF H a xs) : TF H' a xs := let ⟨o, h1, h2⟩ := h; ⟨o, h1, u _ _ h2 (fun z => by rw [z] at h2; exact (hp xs).2.2 _ _ h2) fun q z => by cases z⟩
theorem lst_p {H H' : Hp} {p a : Addr} {xs : List V} (hp : HM.noPen p H) (u : UpP p H H') (h : H a = some (.lst xs)) : H' a = some (.lst xs) := u _ _ h (fun z => by rw [z] at h; exact (hp xs).1 h) fun q z => by cases z
end HM
namespace HM
open PySem PySem.Spec PyProof.Rows L2
/-! ### l[a:c] = l2, c perhaps beyond the end -/
theorem bounds_cut {a c n : Nat} (hac : a ≤ c) (ha : a ≤ n) : sliceBounds (some (a : Int)) (some (c : Int)) none n = ((a : Int), ((min c n : Nat) : Int), 1) := by
  simp only [sliceBounds, Option.getD_none]
  have n1 : ¬ ((a : Int) < 0) := by omega
  have n2 : ¬ ((c : Int) < 0) := by omega
  simp only [n1, n2, if_false, show (1 : Int) > 0 by decide, if_true]
  congr 1
  · omega
  · congr 1
    omega
section
variable {prog : Program} {w : World} {A : Around} {E : Value → Shared → Prop} {s : Shared}
theorem setItem_cut {l b sl : Addr} {items new : Array Value} {n n2 : Nat} {vl vu : Value} {a c : Nat} {Q : Unit → Shared → Prop} (e : s.heap.get? l = some { cls := .type "list", data := .seq items n }) (e2 : s.heap.get? b = some { cls := .type "list", data := .seq new n2 }) (hne : l ≠ b)
    (hs : s.heap.IsSliceOf sl vl vu .none) (pl : IsPart vl (some (a : Int))) (pu : IsPart vu (some (c : Int))) (hac : a ≤ c) (ha : a ≤ items.size) (hsz : items.size + new.size ≤ sizeLine)
    (h : Q () { s with heap := s.heap.update l (Obj.mapSeq fun xs => xs.extract 0 a ++ new ++ xs.extract (min c items.size) xs.size) }) : wpAny (model prog w) A (setItem (.ref l) (.ref sl) (.ref b)) Q E s := by
  have hl : s.heap.IsList l items := PySem.IsL.isList e
  have hb : s.heap.IsList b new := PySem.IsL.isList e2
  obtain ⟨os, hos, hcs, hds⟩ := _root_.id hs
  have tS : s.TypeIs (.ref sl) "slice" := ⟨os, hos, hcs⟩
  have noStep : ¬ ((rawPart none == rawInt 0) = true) := Bool.false_ne_true
  have apart : Builtin.List.listSameRef (.ref l) (.ref b) = false := by
    unfold Builtin.List.listSameRef
    exact beq_eq_false_iff_ne.mpr hne
  have hmx : (max (a : Int) ((min c items.size : Nat) : Int)).toNat = min c items.size := by omega
  have hz2 : ((fun xs : Array Value => xs.extract 0 a ++ new ++ xs.extract (min c items.size) xs.size) items).size ≤ sizeLine + 1 := by
    simp only [Array.size_append, Array.size_extract]
    omega
  unfold setItem
  try with_reducible refine wpAny_holding ?_
  first | refine wpAny_bind (wpAny_pure ?_) | skip
  refine wpAny_bind (wpAny_sequenceKey hl.typeIs (by decide) ?_)
  refine wpAny_bind (wpAny_callSpecial?_slot (name := Str.ofString "__setitem__") hl.typeIs slot_list_setitem (wpAny_call_entry slot_list_setitem hl.typeIs entry_list_setitem ?_ (args_list_setitem _ _ _)))
  show wpAny _ _ (Builtin.List.listSubscript? (.ref sl) >>= _) _ _ s
  refine wpAny_bind ?_
  unfold Builtin.List.listSubscript?
  refine wpAny_bind (wpAny_specialOf tS slice_no_index ?_)
  simp only [Option.isNone_none, if_true]
  refine wpAny_pure ?_
  show wpAny _ _ (typeOf (.ref sl) >>= _) _ _ s
  refine wpAny_bind (wpAny_typeOf tS ?_)
  first
    | rw [if_neg (by decide)]
    | refine PySem.W.KFB.if_not (by decide) ?_
  rw [listSliceParts_eq]
  refine wpAny_bind (wpAny_bind (wpAny_field hos hds (x := .none) rfl (wpAny_bind (wpAny_listPart .none ?_))))
  rw [if_neg noStep]
  refine wpAny_bind (wpAny_field hos hds (x := vl) rfl (wpAny_bind (wpAny_listPart pl ?_)))
  refine wpAny_bind (wpAny_field hos hds (x := vu) rfl (wpAny_bind (wpAny_listPart pu (wpAny_pure ?_))))
  first
    | simp only [apart, Bool.false_eq_true, if_false]
    | refine PySem.W.KFB.if_not apart ?_
    | (dsimp only
       rw [if_neg (by rw [apart]; exact Bool.false_ne_true)])
  refine wpAny_bind (m := Builtin.List.listAllItems (.ref b) "must assign iterable to extended slice") ?_
  unfold Builtin.List.listAllItems
  refine wpAny_bind (wpAny_typeOf hb.typeIs ?_)
  first
    | refine PySem.W.KFB.if_so (by decide) ?_
    | rw [if_pos (by decide)]
    | simp only [beq_self_eq_true, Bool.true_or, if_true]
  unfold Builtin.List.listItems
  refine wpAny_bind (wpAny_seqItems e2 rfl (wpAny_pure ?_))
  refine wpAny_bind (wpAny_bind (wpAny_seqItems e rfl (wpAny_pure ?_)))
  refine wpAny_bind (wpAny_of_eq ((sliceIndices_raw (some (a : Int)) (some (c : Int)) none items.size (by simp)).trans (congrArg (pure : Int × Int × Int → Sem (Int × Int × Int)) (bounds_cut hac ha))) ?_)
  show wpAny _ _ (if ((1 : Int) == 1) = true then _ else _) _ _ s
  rw [if_pos (by decide)]
  refine wpAny_bind (wpAny_rule ?_)
  first
    | simp only [notLongL hsz, Bool.false_eq_true, if_false]
    | refine PySem.W.KFB.if_not (notLongL hsz) ?_
  first | refine wpAny_bind (wpAny_pure ?_) | skip
  show wpAny _ _ (updateSeq l (fun xs => xs.extract 0 ((a : Int)).toNat ++ new ++ xs.extract (max (a : Int) ((min c items.size : Nat) : Int)).toNat xs.size) >>= _) _ _ s
  rw [hmx, Int.toNat_natCast]
  refine wpAny_bind (wpAny_updateSeq (hz := Nat.le_trans (Nat.le_add_right _ _) hsz) (_hz' := hz2) e rfl ?_)
  refine wpAny_bind (wpAny_letGo ?_)
  first
    | exact wpAny_bind (wpAny_pure (wpAny_pure ⟨.none, rfl, wpAny_pure h⟩))
    | exact wpAny_pure ⟨.none, rfl, wpAny_pure h⟩
end
section
variable {X : Cx}
theorem set_cut {pins : List (Addr × Obj)} {s : Shared} {σ : L2.St} {H : Hp} {l b sl : Addr} {xs ys : List V} {a c : Nat} {vl vu : Value} {Q : Unit → Shared → Prop} (I : Inv X pins σ H s) (hH : H l = some (.lst xs)) (hB : H b = some (.lst ys)) (hne : l ≠ b)
    (hs : s.heap.IsSliceOf sl vl vu .none) (pl : IsPart vl (some (a : Int))) (pu : IsPart vu (some (c : Int))) (hac : a ≤ c) (ha : a ≤ xs.length) (hz : xs.length + ys.length ≤ sizeLine) (h : ∀ s', Inv X pins σ (upd H l (.lst (xs.take a ++ ys ++ xs.drop c))) s' → Q () s') :
    wpAny (model X.prog X.w) X.A (setItem (.ref l) (.ref sl) (.ref b)) Q X.xe s := by
  obtain ⟨z, its, n, r, hl, e⟩ := I.lstM hH
  obtain ⟨z2, its2, n2, r2, hl2, e2⟩ := I.lstM hB
  refine setItem_cut (a := a) (c := c) e e2 hne hs pl pu hac (by rw [List.size_toArray]; omega) (by rw [List.size_toArray, List.size_toArray]; omega) (h _ ?_)
  refine I.lset (its' := its.take a ++ its2 ++ its.drop c) (t' := s.toks) hH e ?_ (Vals.append (Vals.append (r.take _) r2) (r.drop _)) ?_
  · refine (splice_eq its its2 a (min c its.toArray.size)).trans ?_
    congr 1
    congr 1
    rw [List.size_toArray]
    by_cases hc : c ≤ its.length
    · rw [Nat.min_eq_left hc]
    · rw [Nat.min_eq_right (by omega), List.drop_length, List.drop_of_length_le (by omega)]
  · rw [List.length_append, List.length_append, List.length_take, List.length_drop]
    omega
def gCut (to : TE) (tl th : TO) : TG := fun v σ H Q => to σ H fun x H1 => tl σ H1 fun lo H2 => th σ H2 fun hi H3 => ∃ (l b : Addr) (xs ys : List V) (a c : Nat), x = .ref l ∧ v = .ref b ∧ lo = some (a : Int) ∧ hi = some (c : Int) ∧ l ≠ b ∧ H3 l = some (.lst xs) ∧ H3 b = some (.lst ys) ∧ a ≤ c ∧ a ≤ xs.length ∧ xs.length + ys.length ≤ sizeLine ∧
  Q σ (upd H3 l (.lst (xs.take a ++ ys ++ xs.drop c)))
theorem pg_cut {o : Expr} {lo hi : Option Expr} {to : TE} {tl th : TO} {p2 pos : Pos} (ho : PE X o to) (hl : PO X lo tl) (hu : PO X hi th)
    (ha : ∀ v, assign (.Subscript o (.Slice lo hi none p2) pos) X.env v = (do
      let ov ← holding [v] (eval o X.env)
      let iv ← holding [v, ov] (eval (.Slice lo hi none p2) X.env)
      standAt pos
      holding [v, ov, iv] (setItem ov iv v)
      release [iv, v, ov] []) := by intro _; rfl) : PG X (.Subscript o (.Slice lo hi none p2) pos) (gCut to tl th) := by
  refine ⟨fun pins s σ H v u Q I r h => ?_⟩
  rw [ha]
  refine wpAny_bind (wpAny_holding (thn (ho.run pins s σ H _ I h) fun ov s1 hx => ?_))
  obtain ⟨x, H1, I1, r1, q1⟩ := hx
  refine wpAny_bind (wpAny_holding (wpAny_Slice (thn (hl.run pins s1 σ H1 _ I1 q1) fun vl s2 h2 => ?_)))
  obtain ⟨l0, H2, I2, pl, q2⟩ := h2
  refine thn (hu.run pins s2 σ H2 _ I2 q2) fun vu s3 h3 => ?_
  obtain ⟨u0, H3, I3, pu, q3⟩ := h3
  rw [evalPart_none]
  refine wpAny_pure ?_
  have I4 : Inv X pins σ H3 { s3 with heap := s3.heap.push { cls := .type "slice", data := .fields #[vl, vu, .none] } } := I3.kept (t' := s3.toks) fun b ob q => Heap.get?_push_of_some _ q
  obtain ⟨l, b, xs, ys, a, c, rfl, rfl, rfl, rfl, hne, hH, hB, hac, hal, hz, q⟩ := q3
  obtain rfl : ov = Value.ref l := r1
  obtain rfl : u = Value.ref b := r
  refine wpAny_bind (wpAny_standAt (wpAny_bind (wpAny_holding ?_)))
  exact set_cut I4 hH hB hne (Heap.IsSliceOf.new ..) pl pu hac hal hz fun s' J => wpAny_release ⟨σ, _, J, q⟩
end
end HM
namespace HM
open PySem PySem.Spec PyProof.Rows L2
/-- a def of the text as the top has left it -/
structure DefAt (K : PySem.W.Frag) (x : Str) (st : Stmt) (f : Addr) (oc : Value) (od : Option Addr) (kV doc pm : Value) (an : Option Addr) (cdv ct : Value) (sl : Array (Option Value)) : Prop where
  a : PySem.W.nsIn K mainGlobals x = some (some (.ref f))
  l : K.lookup f = some ⟨oc, od, .func (PySem.W.fnOf x x (defArgs st) (defBody st) (defScope st) .none kV doc pm an cdv ct), sl⟩
  c : PySem.W.codeIn K cdv x = true
  k : PySem.W.keepIn K (.ref f) = true
theorem DefAt.fn {K : PySem.W.Frag} {x : Str} {st : Stmt} {f : Addr} {oc : Value} {od : Option Addr} {kV doc pm : Value} {an : Option Addr} {cdv ct : Value} {sl : Array (Option Value)} (D : DefAt K x st f oc od kV doc pm an cdv ct sl) : Fun K x x st f (PySem.W.fnOf x x (defArgs st) (defBody st) (defScope st) .none kV doc pm an cdv ct) := fun_mk D.l D.c D.k
/-- what is asked of a class of refusals whose objects are kept and asked -/
structure ExAt (K : PySem.W.Frag) (C Mk : Addr) : Prop where
  te : PySem.W.exmOne K (.ref C) (.ref Mk) = some true
  kC : PySem.W.kitOne K (.ref C) (.ref C) = some true
  kV : PySem.W.kitOne K (.ref C) (.type "ValueError") = some true
  xg : PySem.W.findIn K (.ref C) "__getattribute__" = some (some (.builtin "BaseException.__getattribute__"))
  xk : PySem.W.findIn K (.ref C) "__getattr__" = some none
  xs : PySem.W.subIn K (.ref C) (.type "BaseException") = some true
  xd : PySem.W.hasDictIn K C = true
  xa : PySem.W.findIn K (.ref C) "__class__" = some (some (.builtin "object.__class__"))
  xn : PySem.W.specialIn K (.builtin "object.__class__") "__get__" = some (some (.builtin "getset_descriptor.__get__"))
  xt : PySem.W.takesIn K (.builtin "object.__class__") = some true
  xm : PySem.W.mroIn K C (.type "object") = some true
theorem ExAt.X {K : PySem.W.Frag} {C Mk : Addr} (R : ExAt K C Mk) : ExcC K C := ⟨R.xg, R.xk, R.xs, R.xd, R.xa, R.xn, R.xt, R.xm⟩
theorem ExAt.F {K : PySem.W.Frag} {C Mk : Addr} (R : ExAt K C Mk) : XfC K C := ⟨R.xg, R.xk, R.xs, R.xd⟩
/-- a refusal with one field and its __init__, by the written part -/
structure InitAt (K : PySem.W.Frag) (st : Stmt) (qual : Str) (C fI cda cc : Addr) (nm q : Str) (N : Addr) (bs bm : List Value) (sn : List Str) (sub : List Value) (ab : Bool) (col : Option Bool) (dd : Option Addr) (k0 k1 k2 k3 k5 : Option Value) (oc : Value) (od : Option Addr) (kV doc pm : Value) (an : Option Addr) (ct : Value) (osl : Array (Option Value)) (ccl : Value) (cdd : Option Addr) (vs : Array Value) (ccs : Array (Option Value)) (tf : Tok) (cl : Value) (cld : Option Addr) (csl : Array (Option Value)) : Prop where
  c : K.lookup C = some (excClassObj nm q C N bs bm true sn sub ab col dd k0 k1 k2 k3 k5 "ValueError.__new__")
  bm : HandSPX.refsVE bm = true
  sa : PySem.W.findIn K (.ref C) "__setattr__" = some (some (.builtin "object.__setattr__"))
  veC : PySem.W.subIn K (.ref C) (.type "ValueError") = some true
  tyC : PySem.W.typeIn K (.ref C) = some (.type "type")
  kC : PySem.W.keepIn K (.ref C) = true
  iC : PySem.W.findIn K (.ref C) "__init__" = some (some (.ref fI))
  tI : PySem.W.typeIn K (.ref fI) = some (.type "function")
  lI : K.lookup fI = some ⟨oc, od, .func (PySem.W.ksFn "__init__" qual (defArgs st) (defBody st) (defScope st) .none kV doc pm an (.ref cda) ct cc), osl⟩
  hcd : PySem.W.codeIn K (.ref cda) qual = true
  hco : K.lookup cda = some ⟨ccl, cdd, .fields vs, ccs⟩
  hvs : vs[2]? = some (.str "/claim/cut.py" tf)
  hcc : K.lookup cc = some ⟨cl, cld, .cell (some (.ref C)), csl⟩
  su : PySem.W.nsIn K mainGlobals "super" = some none
  tp : PySem.W.nsIn K cStatics "thirdparty.any" = some none
  si : PySem.W.ks_superIn K C C "__init__" = some (some (.builtin "ValueError.__init__"))
  mr : PySem.W.mroIn K C (.ref C) = some true
  no : PySem.W.findIn K (.ref C) "at" = some none
theorem InitAt.noT {P : Program} {K : PySem.W.Frag} {st : Stmt} {qual : Str} {C Mk fI cda cc : Addr} {nm q : Str} {N : Addr} {bs bm : List Value} {sn : List Str} {sub : List Value} {ab : Bool} {col : Option Bool} {dd : Option Addr} {k0 k1 k2 k3 k5 : Option Value} {oc : Value} {od : Option Addr} {kV doc pm : Value} {an : Option Addr} {ct : Value} {osl : Array (Option Value)} {ccl : Value} {cdd : Option Addr} {vs : Array Value} {ccs : Array (Option Value)} {tf : Tok} {cl : Value} {cld : Option Addr} {csl : Array (Option Value)}
    (I : InitAt K st qual C fI cda cc nm q N bs bm sn sub ab col dd k0 k1 k2 k3 k5 oc od kV doc pm an ct osl ccl cdd vs ccs tf cl cld csl) (R : ExAt K C Mk) (hf : ((P.main.file : Str) == "/claim/cut.py") = true) (hsn : (P.main.scope.names.lookup ("super" : Str)).isSome = false) : NoT P st qual K C fI where
  T := ⟨⟨_, _, _, _, _, _, _, _, _, _, _, _, _, _, _, I.c, I.bm⟩, I.sa, R.xs, I.tyC, I.kC⟩
  iC := I.iC
  tI := I.tI
  fn := ⟨_, _, _, _, _, _, _, _, _, _, _, _, _, _, _, _, _, _, _, I.lI, I.hcd, I.hco, I.hvs, hf, I.hcc⟩
  veC := I.veC
  su := I.su
  tp := I.tp
  si := I.si
  mr := I.mr
  no := I.no
  tn := hsn
/-- the table of a def's generator expressions, by the written part -/
structure TbAt (K : PySem.W.Frag) (c Pt : Addr) (e : Value) (dd : Option Addr) (vs : Array Value) (sl : Array (Option Value)) : Prop where
  l : K.lookup c = some ⟨e, dd, .fields vs, sl⟩
  p : vs[11]? = some (.ref Pt)
  n : K.lookup Pt = none
theorem tab_got {K : PySem.W.Frag} {h : Heap} {mg : Str → Option Value} {gs : List Str} {x : Str} {st : Stmt} {f c Pt : Addr} {oc : Value} {od : Option Addr} {kV doc pm : Value} {an : Option Addr} {ct : Value} {sl : Array (Option Value)} {e : Value} {dd : Option Addr} {vs : Array Value} {sl2 : Array (Option Value)}
    (X : K.In h) (G : h.Ns mainGlobals mg) (tabs : ∀ g ∈ gs, ∃ c Pt, TabOf mg h g c Pt) (hx : x ∈ gs) (D : DefAt K x st f oc od kV doc pm an (.ref c) ct sl) (T : TbAt K c Pt e dd vs sl2) : h.get? Pt = some tabObj ∧ PySem.W.CodeHd h c Pt := by
  obtain ⟨c0, P2, f0, o, fd, h1, h2, h3, h4, h5, h6⟩ := tabs x hx
  have e1 := h1.symm.trans (PySem.W.mg_of X G D.a)
  cases e1
  rw [X _ _ D.l] at h2
  cases h2
  cases h3
  have e2 : Value.ref c = .ref c0 := h4
  cases e2
  have e3 : Pt = P2 := by
    obtain ⟨o2, us, _, _, _, _, _, _, _, g1, _, g2, g3, _⟩ := h5
    rw [X _ _ T.l] at g1
    cases g1
    cases g2
    rw [T.p] at g3
    cases g3
    rfl
  subst e3
  exact ⟨h6, h5⟩
end HM
namespace HM
open PySem PySem.Spec PyProof.Rows L2
/-- all that was tracked is as it was, but for the one table at P -/
def UpK (P : Addr) (H H' : Hp) : Prop := ∀ b o, H b = some o → b ≠ P → H' b = some o
theorem UpK.refl (P : Addr) (H : Hp) : UpK P H H := fun _ _ e _ => e
theorem UpK.of_same {P : Addr} {H H' : Hp} (s : Same H H') : UpK P H H' := fun b o e _ => s b o e
theorem UpK.trans {P : Addr} {H H1 H2 : Hp} (a : UpK P H H1) (b : UpK P H1 H2) : UpK P H H2 := fun c o e n => b c o (a c o e n) n
theorem UpK.lay {P : Addr} {H J : Hp} {q : Addr} {o : HO} (u : UpK P H J) (n : J q = none) : UpK P H (upd J q o) := u.trans (.of_same (same_lay n))
theorem UpK.set {P : Addr} {H J : Hp} {q : Addr} {o : HO} (u : UpK P H J) (n : H q = none) : UpK P H (upd J q o) := fun b p e z => by rw [upd_ne (ne_of_none e n)]; exact u b p e z
theorem UpK.of_tab {P : Addr} {H H' : Hp} (t : GxR.TabG H P) (h : GxR.Tabbed P H H') : UpK P H H' := fun b o e n => by rw [h.2 b n]; exact e
theorem UpK.n {P : Addr} {H H' : Hp} (u : UpK P H H') (t : GxR.TabG H P) : UpN H H' := fun b o e z => u b o e fun q => by
  obtain ⟨ps, e2, _⟩ := t
  rw [q, e2] at e
  exact z ps (Option.some.inj e).symm
/-- another table -/
theorem UpK.tab {P Q : Addr} {H H' : Hp} (u : UpK P H H') (tP : GxR.TabG H' P) (tQ : GxR.TabG H Q) : GxR.TabG H' Q := by
  by_cases e : Q = P
  · rw [e]
    exact tP
  · obtain ⟨ps, e2, r⟩ := tQ
    exact ⟨ps, u _ _ e2 e, r⟩
end HM
namespace HM
open PySem PySem.Spec PyProof.Rows L2
/-! ### sets of tuples of ints: asked, added to, written out -/
section
variable {P : Program} {w : World} {A : Around} {E : Value → Shared → Prop} {s : Shared} {a : Addr} {L : List (Addr × List Int)} {es : Array (Int × Value)} {ep : Nat} {t : SetTable}
abbrev wk (m : Nat) (h : Int) (c : Nat) : SetTable.Probe := nth m (runAt m (SetTable.bits h % (m + 1)) (SetTable.bits h)) c
theorem wk_dummy (m : Nat) (h : Int) (c : Nat) : (wk m h c).dummy = none := by
  have go : ∀ (n : Nat) (p : SetTable.Probe), p.dummy = none → (nth m p n).dummy = none := fun n => by
    induction n with
    | zero => exact fun _ z => z
    | succ n ih =>
      refine fun p z => ih _ ?_
      unfold adv
      split <;> exact z
  exact go c _ rfl
theorem wk_add (m : Nat) (h : Int) (c q : Nat) : nth m (wk m h c) q = wk m h (c + q) := (nth_add m c _ q).symm
/-- the search as 'in' asks for it -/
theorem look_from (R : SetTR P w s.heap a L es ep t) {x : Addr} {k : List Int} (hx : IsT P w s.heap k x) (hu : A.units < cLine) {K : Nat} (kf : K < 10 * SetTable.turns t.mask) (k1 : way t.mask (thash P w k) K ∉ t.place.toList)
    (k2 : ∀ c, c < K → way t.mask (thash P w k) c ∈ t.place.toList) {Q : SetFound → Shared → Prop} (yes : k ∈ L.map (·.2) → ∀ i, Q (.there (some i)) s) (no : k ∉ L.map (·.2) → ∀ j, Q (.free j false) s) :
    ∀ (f c : Nat) (st : Option SetTable.Probe), st.getD (t.probeStart (thash P w k)) = wk t.mask (thash P w k) c → c ≤ K → K - c < f →
      (∀ (i : Nat) p, L[i]? = some p → p.2 = k → ∃ c', c ≤ c' ∧ c' < K ∧ t.place.toList[i]? = some (way t.mask (thash P w k) c')) → wpAny (model P w) A (setSearchFrom a (.ref x) (thash P w k) false f st) Q E s := by
  obtain ⟨H, eH⟩ : ∃ H, H = thash P w k := ⟨_, rfl⟩
  rw [← eH] at k1 k2 ⊢
  obtain ⟨o, g1, g2, g3⟩ := R.ob
  intro f
  induction f with
  | zero => exact fun c st _ _ z => absurd z (Nat.not_lt_zero _)
  | succ f ih =>
    intro c st e0 hc hf left
    rw [setSearchFrom_succ]
    refine wpAny_bind (wpAny_setState_of g1 g3 R.fits ?_)
    dsimp only
    refine wp_if_neg R.gw ?_
    try refine wpAny_bind (wpAny_pure ?_)
    have jj : ∀ q, (nth t.mask (wk t.mask H c) q).j = way t.mask H (c + q) := fun q => congrArg SetTable.Probe.j (wk_add _ _ c q)
    have eK : c + (K - c) = K := by omega
    have sp := go_spec t R.tab.ris R.tab.dm (fun i => (es[i]?.map (·.1)).getD 0) H (10 * SetTable.turns t.mask) (K - c) (wk t.mask H c) (wk_dummy _ _ c) (by omega) (fun q hq => by rw [jj]; exact k2 _ (by omega)) (by rw [jj, eK]; exact k1)
    have hs : ∀ (i : Nat) p, L[i]? = some p → (es[i]?.map (·.1)).getD 0 = thash P w p.2 := fun i p z => by
      rw [R.entry z]
      all_goals rfl
    have miss : ∀ (q : Nat), (∀ (k' i' : Nat), k' < q → t.place.toList[i']? = some (nth t.mask (wk t.mask H c) k').j → (es[i']?.map (·.1)).getD 0 ≠ H) → ∀ (i : Nat) (p : Addr × List Int) (c' : Nat), L[i]? = some p → p.2 = k → c ≤ c' → t.place.toList[i]? = some (way t.mask H c') → c + q ≤ c' := fun q hn i p c' z1 z2 z3 z4 => by
      refine Nat.le_of_not_lt fun z5 => ?_
      refine hn (c' - c) i (by omega) ?_ ?_
      · rw [jj, z4]
        congr 2
        omega
      · rw [hs i p z1, z2, eH]
    rcases sp with ⟨q, i, hq, hi, hh, hn, pr⟩ | ⟨hn, pr⟩
    · have pr2 : t.probe (fun i => (es[i]?.map (·.1)).getD 0) H (st.getD (t.probeStart H)) = some (.candidate (way t.mask H (c + q)) i (wk t.mask H (c + (q + 1)))) := by
        rw [e0, ← jj, ← wk_add]
        exact pr
      rw [pr2]
      dsimp only
      rw [jj] at hi
      have hil : i < L.length := by
        have z1 := (List.getElem?_eq_some_iff.mp hi).1
        have z2 := R.tab.sz
        rw [List.length_map] at z2
        rw [Array.length_toList, z2] at z1
        exact z1
      obtain ⟨p, hp⟩ : ∃ p, L[i]? = some p := ⟨_, List.getElem?_eq_getElem hil⟩
      have hm := List.mem_of_getElem? hp
      have sl : t.slot (way t.mask H (c + q)) = .live i := slot_live R.tab.ris hi
      have tail : wpAny (model P w) A (searchRest a (.ref x) H false f es t (way t.mask H (c + q)) i (wk t.mask H (c + (q + 1)))) Q E s := by
        unfold searchRest
        rw [R.entry hp]
        dsimp only
        refine wpAny_bind (wpAny_holding (wpAny_eqBool_tuple hu (R.tup p hm) hx ?_))
        refine wpAny_bind (wpAny_setState_of g1 g3 R.fits ?_)
        dsimp only
        refine wp_if_neg (by simp) ?_
        try refine wpAny_bind (wpAny_pure ?_)
        rw [sameMem]
        dsimp only
        simp only [if_true, sl, R.entry hp]
        refine wpAny_bind (wpAny_isSame_ref_self (wpAny_bind (wpAny_pure ?_)))
        simp only [if_true]
        by_cases hk : p.2 = k
        · refine wp_if_pos (by simp [hk]) ?_
          exact wpAny_pure (yes (List.mem_map.mpr ⟨p, hm, hk⟩) i)
        · refine wp_if_neg (by simp [hk]) ?_
          refine ih (c + (q + 1)) _ rfl (by omega) (by omega) fun i0 p0 z1 z2 => ?_
          obtain ⟨c', y1, y2, y3⟩ := left i0 p0 z1 z2
          refine ⟨c', ?_, y2, y3⟩
          have y4 := miss q hn i0 p0 c' z1 z2 y1 y3
          rcases Nat.lt_or_ge (c + q) c' with y5 | y5
          · omega
          · have y6 : c' = c + q := by omega
            rw [y6] at y3
            have y7 := slot_live R.tab.ris y3
            rw [sl] at y7
            injection y7 with y7
            rw [← y7, hp] at z1
            cases z1
            exact absurd z2 hk
      by_cases hl : t.led = true
      · refine wp_if_neg (by simp [hl]) ?_
        try refine wpAny_bind (wpAny_pure ?_)
        exact tail
      · refine wp_if_pos (by simp [hl]) ?_
        refine wpAny_bind (seen_tup hx (fun y hy => ?_) ?_)
        · obtain ⟨u, hu1, hu2⟩ := List.mem_map.mp hy
          have hu3 : u ∈ es ∧ u.1 = H := by simpa using hu1
          have hu4 : u ∈ es.toList := by simpa using hu3.1
          rw [R.rows] at hu4
          obtain ⟨v, hv1, hv2⟩ := List.mem_map.mp hu4
          exact ⟨v.2, v.1, by rw [← hu2, ← hv2], R.tup v hv1⟩
        · refine wp_if_neg (by decide) ?_
          try refine wpAny_bind (wpAny_pure ?_)
          exact tail
    · have pr2 : t.probe (fun i => (es[i]?.map (·.1)).getD 0) H (st.getD (t.probeStart H)) = some (.empty (way t.mask H K) none) := by
        have z : way t.mask H K = (nth t.mask (wk t.mask H c) (K - c)).j := by rw [jj, eK]
        rw [e0, z]
        exact pr
      rw [pr2]
      dsimp only
      refine wpAny_pure (no (fun z => ?_) _)
      obtain ⟨p, hp, hk⟩ := List.mem_map.mp z
      obtain ⟨i, hi, e1⟩ := List.getElem_of_mem hp
      have e2 : L[i]? = some p := by rw [List.getElem?_eq_getElem hi, e1]
      obtain ⟨c', y1, y2, y3⟩ := left i p e2 hk
      have := miss (K - c) hn i p c' e2 hk y1 y3
      omega
theorem look_at (R : SetTR P w s.heap a L es ep t) {x : Addr} {k : List Int} (hx : IsT P w s.heap k x) (hu : A.units < cLine) {Q : SetFound → Shared → Prop} (yes : k ∈ L.map (·.2) → ∀ i, Q (.there (some i)) s) (no : k ∉ L.map (·.2) → ∀ j, Q (.free j false) s) :
    wpAny (model P w) A (setSearch a (.ref x) (thash P w k)) Q E s := by
  have hr := R.room
  obtain ⟨K, z1, z2, z3⟩ := R.tab.first (by rw [List.length_map]; omega) (thash P w k)
  have hb : K < 100000 := by
    have : 10 * SetTable.turns t.mask ≤ 1420 := by
      unfold SetTable.turns
      rcases R.tab.mok with e | e | e <;> omega
    omega
  unfold setSearch
  refine look_from R hx hu z1 z2 z3 yes no 100000 0 none rfl (Nat.zero_le _) (by omega) fun i p y1 y2 => ?_
  have y3 : (L.map fun p => thash P w p.2)[i]? = some (thash P w k) := by
    rw [List.getElem?_map, y1, ← y2]
    all_goals rfl
  have y4 : i < t.place.toList.length := by
    have y5 := (List.getElem?_eq_some_iff.mp y1).1
    have y6 := R.tab.sz
    rw [List.length_map] at y6
    rw [Array.length_toList, y6]
    exact y5
  have y7 := List.getElem?_eq_getElem y4
  obtain ⟨c, y8, y9⟩ := R.tab.before z2 y3 y7
  exact ⟨c, Nat.zero_le _, y8, by rw [y7, y9]⟩
theorem has_at (R : SetTR P w s.heap a L es ep t) {x : Addr} {k : List Int} (hx : IsT P w s.heap k x) (hu : A.units < cLine) {Q : Bool → Shared → Prop} (h : ∀ tk, Q (decide (k ∈ L.map (·.2))) { s with toks := tk }) : wpAny (model P w) A (setContains a (.ref x)) Q E s := by
  unfold setContains
  refine wpAny_holding ?_
  refine wpAny_bind (wpAny_pyHash_tuple hu hx ?_)
  obtain ⟨s', es'⟩ : ∃ s', s' = { s with toks := s.toks + (k.length + 1) } := ⟨_, rfl⟩
  have R' : SetTR P w s'.heap a L es ep t := by rw [es']; exact R
  have hx' : IsT P w s'.heap k x := by rw [es']; exact hx
  have h' : Q (decide (k ∈ L.map (·.2))) s' := by rw [es']; exact h _
  rw [← es']
  obtain ⟨o, g1, g2, g3⟩ := R'.ob
  unfold setFind
  rw [show (100000 : Nat) = 99999 + 1 from rfl]
  unfold setFindIn
  refine wpAny_bind (wpAny_bind (wpAny_setState_of g1 g3 R'.fits ?_))
  dsimp only
  refine wp_if_neg (by simp [byScan, Value.scannable]) ?_
  try refine wpAny_bind (wpAny_pure ?_)
  refine wpAny_bind (look_at R' hx' hu (fun z i => ?_) fun z j => ?_)
  · dsimp only
    rw [decide_eq_true z] at h'
    exact wpAny_pure (wpAny_pure h')
  · dsimp only
    rw [decide_eq_false z] at h'
    exact wpAny_pure (wpAny_pure h')
theorem setTR_type (R : SetTR P w s.heap a L es ep t) : s.TypeIs (.ref a) "set" := let ⟨o, g1, g2, _⟩ := R.ob; ⟨o, g1, g2.1⟩
theorem notin_at (R : SetTR P w s.heap a L es ep t) {x : Addr} {k : List Int} (hx : IsT P w s.heap k x) (hu : A.units + 8 < cLine) {Q : Value → Shared → Prop} (h : ∀ tk, Q (.bool (!decide (k ∈ L.map (·.2)))) { s with toks := tk }) : wpAny (model P w) A (compareOp .NotIn (.ref x) (.ref a)) Q E s := by
  have hT := setTR_type R
  show wpAny _ _ (do return .bool (!(← contains (.ref a) (.ref x)))) Q E s
  refine wpAny_bind ?_
  unfold contains
  try with_reducible refine wpAny_holding ?_
  refine wpAny_bind (wpAny_specialOf hT F.slot_set_contains.lookup ?_)
  rw [if_neg (by rw [beq_builtin_none]; exact Bool.false_ne_true)]
  refine wpAny_bind (wpAny_callSpecialUnlessNone?_slot (name := Str.ofString "__contains__") hT F.slot_set_contains (wpAny_call_entry F.slot_set_contains hT entry_set_contains ?_ (F.args_set_contains_2 _ _)))
  unfold Builtin.«frozenset.__contains__» Builtin.Frozenset.oneOther
  simp only [List.isEmpty_nil, bind_assoc]
  unfold Builtin.Frozenset.addrOf Builtin.Frozenset.withSetAsKey
  refine wpAny_bind (wpAny_pure ?_)
  try dsimp only
  refine wpAny_bind (wpAny_pure ?_)
  try dsimp only
  refine wpAny_bind (wpAny_tryCatch ?_)
  refine has_at (A := A.in1) R hx (by show A.units + 1 < cLine; omega) fun tk => ?_
  refine wpAny_pure ⟨_, rfl, wpAny_truthy_bool (wpAny_pure (h tk))⟩
theorem addT_at (R : SetTR P w s.heap a L es ep t) {x : Addr} {k : List Int} (hx : IsT P w s.heap k x) (hu : A.units + 8 < cLine) (few : L.length + 1 < 64) {Q : Bool → Shared → Prop}
    (h : ∀ b h' L' tk, Heap.SameBut a s.heap h' → SetT0 P w h' a L' → (k ∈ L.map (·.2) → L' = L) → (k ∉ L.map (·.2) → L'.Perm ((x, k) :: L)) → Q b { s with heap := h', toks := tk }) : wpAny (model P w) A (setAdd a (.ref x)) Q E s := by
  unfold setAdd
  refine wpAny_holding ?_
  refine wpAny_bind (wpAny_pyHash_tuple (by omega) hx ?_)
  exact add_at (s := { s with toks := s.toks + (k.length + 1) }) R hx (by omega) few fun b h' L' es' ep' t' z1 z2 z3 z4 => h b h' L' _ z1 z2.t0 z3 z4
theorem callT_add (R : SetTR P w s.heap a L es ep t) {x : Addr} {k : List Int} (hx : IsT P w s.heap k x) (hu : A.units + 16 < cLine) (few : L.length + 1 < 64) {Q : Value → Shared → Prop}
    (h : ∀ h' L' tk, Heap.SameBut a s.heap h' → SetT0 P w h' a L' → (k ∈ L.map (·.2) → L' = L) → (k ∉ L.map (·.2) → L'.Perm ((x, k) :: L)) → Q .none { s with heap := h', toks := tk }) : wpAny (model P w) A (call (.builtin "set.add") [.ref a, .ref x]) Q E s := by
  have hT := setTR_type R
  refine wpAny_call_entry F.slot_set_add hT F.entry_set_add ?_ (F.args_set_add_2 _ _)
  unfold Builtin.«set.add» Builtin.Frozenset.oneOther
  simp only [List.isEmpty_nil, bind_assoc]
  unfold Builtin.Frozenset.addrOf
  refine wpAny_bind (wpAny_pure ?_)
  try dsimp only
  refine wpAny_bind (wpAny_pure ?_)
  try dsimp only
  refine wpAny_bind (addT_at (A := A.in1) R hx (by show A.units + 1 + 8 < cLine; omega) few fun b h' L' tk z1 z2 z3 z4 => ?_)
  exact wpAny_pure ⟨_, rfl, h h' L' tk z1 z2 z3 z4⟩
end
section
variable {X : Cx} {pins : List (Addr × Obj)} {σ : L2.St} {H : Hp} {s : Shared}
/-- the tuples of L stand -/
def Tups (K : PySem.W.Frag) (H : Hp) (L : List (Addr × List Int)) : Prop := ∀ p ∈ L, SqT K H p.1 (p.2.map V.int)
theorem setT_get {a : Addr} {L : List (Addr × List Int)} (I : Inv X pins σ H s) (e : H a = some (SetTO X.prog X.w a L)) (ht : Tups X.K H L) : ∃ es ep t, SetTR X.prog X.w s.heap a L es ep t := by
  have R0 : SetT0 X.prog X.w s.heap a L := (I.hok a _ e).1
  exact R0.full fun p hp => I.isT (ht p hp)
/-- x not in seen -/
def rNotInT (K : PySem.W.Frag) (P : Program) (w : World) : R2 := fun x y H Q => ∃ (xa a : Addr) (k : List Int) (L : List (Addr × List Int)), x = .ref xa ∧ y = .ref a ∧ SqT K H xa (k.map V.int) ∧ H a = some (SetTO P w a L) ∧ Tups K H L ∧ Q (.bl (!decide (k ∈ L.map (·.2)))) H
theorem or_notinT (hu : X.A.units + 64 < cLine) : OpR X (compareOp .NotIn) (rNotInT X.K X.prog X.w) := by
  intro pins s σ H x y v u Q I rx ry h
  obtain ⟨xa, a, k, L, rfl, rfl, hx, ha, ht, q⟩ := h
  cases rx
  cases ry
  obtain ⟨es, ep, t, R⟩ := setT_get I ha ht
  exact notin_at R (I.isT hx) (by omega) fun tk => ⟨.bl _, H, I.tok tk, rfl, q⟩
/-- seen.add(x) -/
def tAddT (K : PySem.W.Frag) (P : Program) (w : World) (to : TE) (t : TA) : TE := fun σ H Q => to σ H fun x H1 => (∃ a L, x = V.ref a ∧ H1 a = some (SetTO P w a L) ∧ Tups K H1 L) ∧ t σ H1 fun xs H2 => ∃ (xa a : Addr) (k : List Int) (L : List (Addr × List Int)), x = .ref a ∧ xs = [.ref xa] ∧ SqT K H2 xa (k.map V.int) ∧ H2 a = some (SetTO P w a L) ∧ Tups K H2 L ∧ L.length + 1 < 64 ∧
  ∀ L', (k ∈ L.map (·.2) → L' = L) → (k ∉ L.map (·.2) → L'.Perm ((xa, k) :: L)) → Q .non (upd H2 a (SetTO P w a L'))
theorem pe_addT {o e : Expr} {es : List Expr} {to : TE} {t : TA} {apos cpos : Pos} (hu : X.A.units + 64 < cLine) (ho : PE X o to) (ha : PA X (e :: es) t)
    (hbase : attributeBase o "add" X.env (eval o X.env) = eval o X.env := by rfl)
    (hfew : ((backTo cpos (starEach (e :: es) X.env)).all (fun x => !x.1) && (backToKw cpos (keywordEach [] X.env)).all (fun x => x.1.isSome) && decide ((e :: es).length + ([] : List Keyword).length + (if ([] : List Keyword).isEmpty then 0 else 1) < 30)) = true := by rfl)
    (hline : (apos.endLine == cpos.line) = true := by rfl) (hs : starEach (e :: es) X.env = (false, eval e X.env) :: starEach es X.env := by rfl) (hplain : (backTo cpos (starEach es X.env)).any (·.1) = false := by rfl) :
    PE X (.Call (.Attribute o "add" apos) (e :: es) [] cpos) (tAddT X.K X.prog X.w to t) := by
  refine ⟨fun pins s σ H Q I h => ?_⟩
  refine wpAny_Call_method_late hbase hfew hline rfl (thn (ho.run pins s σ H _ I h) fun v s1 hv => ?_)
  obtain ⟨x, H1, I1, r1, ⟨a, L, rfl, ea, ht⟩, q1⟩ := hv
  cases r1
  obtain ⟨es1, ep1, t1, R1⟩ := setT_get I1 ea ht
  obtain ⟨o1, z1, z2, z3⟩ := R1.ob
  refine ⟨"set", "set.add", F.plainAttrs_set, F.slot_set_add, F.type_set_add, ⟨o1, z1, z2.1⟩, fun b z => ?_, ?_⟩
  · cases z
    exact ⟨o1, z1, z2.2.1⟩
  have hA := ha.run cpos pins s1 σ H1 _ I1 q1
  rw [hs] at hA ⊢
  refine Calls.callWith_builtin (by show (false || (backTo cpos (starEach es X.env)).any (·.1)) = false; rw [hplain] <;> rfl) (Calls.evalArgs_plain (thn hA fun us s2 hu2 => ?_))
  obtain ⟨vs, H2, I2, r2, xa, a2, k, L2, e1, rfl, hx, ea2, ht2, few, q⟩ := hu2
  cases e1
  cases r2 with
  | cons ry rt =>
    cases rt
    cases ry
    obtain ⟨es2, ep2, t2, R2⟩ := setT_get I2 ea2 ht2
    refine callT_add R2 (I2.isT hx) (by omega) few fun h' L' tk sb new z3 z4 => ?_
    have he : ∃ u, h'.get? a = some u := by
      obtain ⟨_, _, _, ⟨o9, y9, _⟩, _⟩ := new.ex
      exact ⟨o9, y9⟩
    exact ⟨.non, upd H2 a (SetTO X.prog X.w a L'), I2.write (e := a) (t' := tk) (by rw [ea2]; trivial) (.inl rfl) (fun b u hb hu => (sb.2 b hb).trans hu) he (setTO_new new), rfl, q L' z3 z4⟩
/-- {x}, x a tuple -/
def tSet1 (K : PySem.W.Frag) (P : Program) (w : World) (te : TE) : TE := fun σ H Q => te σ H fun x H1 => ∃ (xa : Addr) (k : List Int), x = .ref xa ∧ SqT K H1 xa (k.map V.int) ∧ ∀ a, H1 a = none → Q (.ref a) (upd H1 a (SetTO P w a [(xa, k)]))
end
end HM
namespace HM
open PySem PySem.Spec PyProof.Rows L2
section
variable {X : Cx}
/-- {e}, e a tuple of ints -/
def tSetOne (K : PySem.W.Frag) (P : Program) (w : World) (te : TE) : TE := fun σ H Q => ∀ a, H a = none → te σ (upd H a (SetTO P w a [])) fun x H1 => ∃ (xa : Addr) (k : List Int), x = .ref xa ∧ SqT K H1 xa (k.map V.int) ∧ H1 a = some (SetTO P w a []) ∧ Q (.ref a) (upd H1 a (SetTO P w a [(xa, k)]))
theorem pe_setOne {e : Expr} {te : TE} {pos : Pos} (hu : X.A.units + 64 < cLine) (hcd : PySem.W.kdsCode X.K X.env.code = true) (he : PE X e te) (hs : starEach [e] X.env = [(false, eval e X.env)] := by rfl) : PE X (.Set [e] 0 pos) (tSetOne X.K X.prog X.w te) := by
  refine ⟨fun pins s σ H Q I h => ?_⟩
  rw [arm_eval_Set]
  refine wpAny_bind (wpAny_standAt ?_)
  refine wpAny_bind (PySem.W.kds_main I.kIn hcd fun b => ?_)
  rw [hs]
  unfold setDisplay
  try dsimp only
  refine PySem.W.KFB.if_not (by rfl) ?_
  refine wpAny_bind (PySem.wpAny_newSet_raw fun led el => ?_)
  subst el
  have new := setTR_fresh (P := X.prog) (w := X.w) (h := s.heap.push { cls := .type "set", dict := none, data := .set #[] 0 (.fresh 0 0 (!X.w.params.followText "set-order")) }) (a := s.heap.objs.size) (Heap.get?_push_size _ rfl)
  have hn : H s.heap.objs.size = none := I.hok.fresh (Nat.le_refl _)
  have I1 := I.laid (t' := s.toks) (fun b u e => Heap.get?_push_of_some _ e) (Nat.le_refl _) (setTO_new (H := upd H s.heap.objs.size (SetTO X.prog X.w s.heap.objs.size [])) new.t0)
  dsimp only
  refine wpAny_bind (wpAny_holding ?_)
  show wpAny _ _ (evalAll [do let v ← eval e X.env; standAt pos; pure v] >>= _) _ _ _
  refine wpAny_bind ?_
  unfold evalAll
  refine wpAny_bind (wpAny_bind (thn (he.run pins _ σ _ _ I1 (h _ hn)) fun v s2 hv => wpAny_bind (wpAny_standAt (wpAny_pure ?_))))
  refine wpAny_bind (wpAny_holding ?_)
  unfold evalAll
  refine wpAny_pure (wpAny_pure ?_)
  obtain ⟨x, H2, I2, r2, xa, k, rfl, hx, ea, q⟩ := hv
  cases r2
  refine wpAny_bind (wpAny_holding ?_)
  simp only [List.forIn_cons, List.forIn_nil]
  obtain ⟨es, ep, t, R⟩ := setT_get I2 ea fun p hp => by cases hp
  refine wpAny_bind (wpAny_bind (wpAny_bind (addT_at R (I2.isT hx) (by omega) (by show 0 + 1 < 64; decide) fun b h' L' tk sb new2 z3 z4 => wpAny_pure ?_)))
  dsimp only
  refine wpAny_pure ?_
  refine PySem.W.KFB.if_not (by rfl) ?_
  refine wpAny_pure ?_
  have hL : L' = [(xa, k)] := List.perm_singleton.mp (z4 (by simp))
  subst hL
  show wpAny _ _ (do forIn ([] : List (Bool × Sem Value)) PUnit.unit _; pure ()) _ _ _
  rw [List.forIn_nil]
  refine wpAny_bind (wpAny_pure (wpAny_pure (wpAny_pure ?_)))
  have he2 : ∃ u, h'.get? s.heap.objs.size = some u := by
    obtain ⟨_, _, _, ⟨o9, y9, _⟩, _⟩ := new2.ex
    exact ⟨o9, y9⟩
  exact ⟨.ref s.heap.objs.size, _, I2.write (e := s.heap.objs.size) (t' := tk) (by rw [ea]; trivial) (.inl rfl) (fun b u hb hu => (sb.2 b hb).trans hu) he2 (setTO_new new2), rfl, q⟩
end
end HM

namespace HM
open PySem PySem.Spec PyProof.Rows L2
/-- the one, then the other -/
def thenI (xs ys : List Int) : List Int := xs.map fun i => ys.getD i.toNat 0
theorem then_len (xs ys : List Int) : (thenI xs ys).length = xs.length := by simp [thenI]
def inN (xs : List Int) (n : Nat) : Prop := ∀ x ∈ xs, 0 ≤ x ∧ x < (n : Int)
theorem sqT_but {K : PySem.W.Frag} {H H' : Hp} {a P : Addr} {xs : List V} (h : TF H a xs) (k : ∀ b, b ≠ P → H' b = H b) (tg : GxR.TabG H P) : TF H' a xs := by
  obtain ⟨o, h1, h2⟩ := h
  obtain ⟨ps, h3, _⟩ := tg
  refine ⟨o, h1, ?_⟩
  rw [k a fun z => ?_]
  · exact h2
  · rw [z, h3] at h2
    cases h2
end HM
namespace HM
open PySem PySem.Spec PyProof.Rows L2
/-- what contrary has written behind i turns of its loop -/
def bkI (xs : List Int) : Nat → List Int
  | 0 => List.replicate xs.length 0
  | i + 1 => (bkI xs i).set (xs.getD i 0).toNat (i : Int)
theorem bk_len (xs : List Int) : ∀ i, (bkI xs i).length = xs.length
  | 0 => List.length_replicate
  | i + 1 => by
    show ((bkI xs i).set _ _).length = _
    rw [List.length_set, bk_len xs i]
def contraI (xs : List Int) : List Int := bkI xs xs.length
theorem map_setI (l : List Int) (j : Nat) (v : Int) : (l.map V.int).set j (.int v) = (l.set j v).map V.int := by
  rw [List.map_set]
theorem ixN_of {n : Nat} {i : Int} (h0 : 0 ≤ i) (h1 : i < (n : Int)) : ixN n i = some i.toNat := by
  unfold ixN
  rw [if_pos h0, if_pos h1]
end HM
namespace HM
open PySem PySem.Spec PyProof.Rows L2
/-! ### turns as lists of numbers -/
def ent (l : List Int) (i : Nat) : Nat := (l.getD i 0).toNat
structure isT (n : Nat) (l : List Int) : Prop where
  len : l.length = n
  ran : inN l n
  nod : l.Nodup
theorem getD_mem {l : List Int} {i : Nat} (h : i < l.length) : l.getD i 0 ∈ l := by
  rw [List.getD_eq_getElem?_getD, List.getElem?_eq_getElem h]
  exact List.getElem_mem h
theorem getD_ge {l : List Int} {i : Nat} (h : i < l.length) : l.getD i 0 = l[i] := by
  rw [List.getD_eq_getElem?_getD, List.getElem?_eq_getElem h]
  rfl
theorem ent_int {n : Nat} {l : List Int} {i : Nat} (h : inN l n) (hi : i < l.length) : l.getD i 0 = ((ent l i : Nat) : Int) := by
  unfold ent
  exact (Int.toNat_of_nonneg (h _ (getD_mem hi)).1).symm
theorem ent_lt {n : Nat} {l : List Int} {i : Nat} (h : inN l n) (hi : i < l.length) : ent l i < n := by
  have h1 := h _ (getD_mem hi)
  unfold ent
  omega
theorem ent_inj {n : Nat} {l : List Int} {i j : Nat} (h : isT n l) (hi : i < n) (hj : j < n) (e : ent l i = ent l j) : i = j := by
  have hi2 : i < l.length := by rw [h.len]; exact hi
  have hj2 : j < l.length := by rw [h.len]; exact hj
  have e2 : l.getD i 0 = l.getD j 0 := by rw [ent_int h.ran hi2, ent_int h.ran hj2, e]
  rw [getD_ge hi2, getD_ge hj2] at e2
  have pw := List.pairwise_iff_getElem.mp h.nod
  rcases Nat.lt_trichotomy i j with h1 | h1 | h1
  · exact absurd e2 (pw i j hi2 hj2 h1)
  · exact h1
  · exact absurd e2.symm (pw j i hj2 hi2 h1)
theorem ent_iota {n i : Nat} (h : i < n) : ent (iota n) i = i := by
  unfold ent iota
  rw [List.getD_eq_getElem?_getD, List.getElem?_map, List.getElem?_range h]
  rfl
theorem iota_in (n : Nat) : inN (iota n) n := fun x hx => by
  obtain ⟨i, hi, rfl⟩ := List.mem_map.mp hx
  have := List.mem_range.mp hi
  omega
theorem iota_nod (n : Nat) : (iota n).Nodup := by
  unfold iota
  refine List.Pairwise.map _ (fun x y h z => h ?_) (List.nodup_range (n := n))
  omega
theorem isT_iota (n : Nat) : isT n (iota n) := ⟨iota_len n, iota_in n, iota_nod n⟩
theorem isT_perm {n : Nat} {l : List Int} (h : l.Perm (iota n)) : isT n l :=
  ⟨h.length_eq.trans (iota_len n), fun x hx => iota_in n x (h.mem_iff.mp hx), h.nodup_iff.mpr (iota_nod n)⟩
theorem ext_ent {n : Nat} {a b : List Int} (ha : a.length = n) (hb : b.length = n) (ra : inN a n) (rb : inN b n) (h : ∀ i, i < n → ent a i = ent b i) : a = b := by
  refine List.ext_getElem (ha.trans hb.symm) fun i h1 h2 => ?_
  have e1 := ent_int ra h1
  have e2 := ent_int rb h2
  rw [getD_ge h1] at e1
  rw [getD_ge h2] at e2
  rw [e1, e2, h i (by omega)]
theorem ent_surj {n : Nat} {l : List Int} (h : isT n l) {j : Nat} (hj : j < n) : ∃ i, i < n ∧ ent l i = j := by
  have hm : ((j : Nat) : Int) ∈ l := by
    refine Classical.byContradiction fun hn => ?_
    have nd : (((j : Nat) : Int) :: l).Nodup := List.nodup_cons.mpr ⟨hn, h.nod⟩
    have sub : ∀ x ∈ ((j : Nat) : Int) :: l, x ∈ iota n := fun x hx => by
      have hr : 0 ≤ x ∧ x < (n : Int) := by
        rcases List.mem_cons.mp hx with rfl | hx
        · omega
        · exact h.ran x hx
      exact List.mem_map.mpr ⟨x.toNat, List.mem_range.mpr (by omega), by omega⟩
    have := len_sub nd sub
    rw [List.length_cons, h.len, iota_len] at this
    omega
  obtain ⟨i, hi, e⟩ := List.getElem_of_mem hm
  refine ⟨i, by rw [← h.len]; exact hi, ?_⟩
  unfold ent
  rw [getD_ge hi, e]
  exact Int.toNat_natCast j
theorem ent_then {x y : List Int} {i : Nat} (hi : i < x.length) : ent (thenI x y) i = ent y (ent x i) := by
  unfold ent thenI
  rw [List.getD_eq_getElem?_getD, List.getElem?_map, List.getElem?_eq_getElem hi]
  show (y.getD x[i].toNat 0).toNat = _
  rw [getD_ge hi]
theorem then_in {n : Nat} {x y : List Int} (hx : inN x n) (hy : inN y n) (hl : y.length = n) : inN (thenI x y) n := fun z hz => by
  obtain ⟨i, hi, rfl⟩ := List.mem_map.mp hz
  have h1 := hx i hi
  exact hy _ (getD_mem (by omega))
theorem isT_then {n : Nat} {x y : List Int} (hx : isT n x) (hy : isT n y) : isT n (thenI x y) := by
  have r := then_in hx.ran hy.ran hy.len
  have hl : (thenI x y).length = n := (then_len x y).trans hx.len
  refine ⟨hl, r, ?_⟩
  refine List.pairwise_iff_getElem.mpr fun i j hi hj hij e => ?_
  have e2 : ent (thenI x y) i = ent (thenI x y) j := by
    unfold ent
    rw [getD_ge hi, getD_ge hj, e]
  rw [then_len] at hi hj
  rw [ent_then hi, ent_then hj] at e2
  rw [hx.len] at hi hj
  have e3 := ent_inj hy (ent_lt hx.ran (by rw [hx.len]; exact hi)) (ent_lt hx.ran (by rw [hx.len]; exact hj)) e2
  have e4 := ent_inj hx hi hj e3
  omega
theorem then_iota {n : Nat} {x : List Int} (hl : x.length = n) (hx : inN x n) : thenI x (iota n) = x := by
  refine ext_ent (n := n) ((then_len _ _).trans hl) hl (then_in hx (iota_in n) (iota_len n)) hx fun i hi => ?_
  rw [ent_then (by omega), ent_iota (ent_lt hx (by omega))]
theorem then_assoc {n : Nat} {x y z : List Int} (hx : isT n x) (hy : isT n y) (hz : isT n z) : thenI (thenI x y) z = thenI x (thenI y z) := by
  have hxy := isT_then hx hy
  have hyz := isT_then hy hz
  refine ext_ent (isT_then hxy hz).len (isT_then hx hyz).len (isT_then hxy hz).ran (isT_then hx hyz).ran fun i hi => ?_
  have hi1 : i < x.length := by rw [hx.len]; exact hi
  rw [ent_then (by rw [then_len]; exact hi1), ent_then hi1, ent_then hi1, ent_then (by rw [hy.len]; exact ent_lt hx.ran hi1)]
/-! ### the contrary -/
theorem bk_at {n : Nat} {x : List Int} (h : isT n x) : ∀ (m i : Nat), m ≤ n → i < m → (bkI x m).getD (ent x i) 0 = (i : Int)
  | 0, i, _, hi => absurd hi (Nat.not_lt_zero i)
  | m + 1, i, hm, hi => by
    show ((bkI x m).set (ent x m) (m : Int)).getD (ent x i) 0 = _
    have hml : ent x m < (bkI x m).length := by
      rw [bk_len, h.len]
      exact ent_lt h.ran (by rw [h.len]; omega)
    by_cases e : i = m
    · subst e
      rw [List.getD_eq_getElem?_getD, List.getElem?_set_self hml]
      rfl
    · have ne : ent x m ≠ ent x i := fun z => e (ent_inj h (by omega) (by omega) z.symm)
      rw [List.getD_eq_getElem?_getD, List.getElem?_set_ne ne, ← List.getD_eq_getElem?_getD]
      exact bk_at h m i (by omega) (by omega)
theorem ent_contra {n : Nat} {x : List Int} (h : isT n x) {i : Nat} (hi : i < n) : ent (contraI x) (ent x i) = i := by
  unfold ent contraI
  have := bk_at h x.length i (by rw [h.len]; exact Nat.le_refl _) (by rw [h.len]; exact hi)
  unfold ent at this
  rw [this]
  exact Int.toNat_natCast i
theorem contra_len (x : List Int) : (contraI x).length = x.length := bk_len x x.length
theorem contra_in {n : Nat} {x : List Int} (h : isT n x) : inN (contraI x) n := fun z hz => by
  obtain ⟨j, hj, e⟩ := List.getElem_of_mem hz
  rw [contra_len, h.len] at hj
  obtain ⟨i, hi, ei⟩ := ent_surj h hj
  have := bk_at h x.length i (by rw [h.len]; exact Nat.le_refl _) (by rw [h.len]; exact hi)
  rw [ei, getD_ge (by rw [bk_len, h.len]; exact hj)] at this
  have e2 : z = (i : Int) := e.symm.trans this
  omega
theorem isT_contra {n : Nat} {x : List Int} (h : isT n x) : isT n (contraI x) := by
  refine ⟨(contra_len x).trans h.len, contra_in h, ?_⟩
  refine List.pairwise_iff_getElem.mpr fun i j hi hj hij e => ?_
  have e2 : ent (contraI x) i = ent (contraI x) j := by
    unfold ent
    rw [getD_ge hi, getD_ge hj, e]
  rw [contra_len, h.len] at hi hj
  obtain ⟨a, ha, ea⟩ := ent_surj h hi
  obtain ⟨b, hb, eb⟩ := ent_surj h hj
  rw [← ea, ← eb, ent_contra h ha, ent_contra h hb] at e2
  rw [e2] at ea
  omega
theorem then_contra {n : Nat} {x : List Int} (h : isT n x) : thenI x (contraI x) = iota n := by
  have hc := isT_contra h
  refine ext_ent (isT_then h hc).len (iota_len n) (isT_then h hc).ran (iota_in n) fun i hi => ?_
  rw [ent_then (by rw [h.len]; exact hi), ent_contra h hi, ent_iota hi]
theorem uniq {n : Nat} {a b c : List Int} (hc : isT n c) (ha : isT n a) (hb : isT n b) (h1 : ∀ i, i < n → ent a (ent c i) = i) (h2 : ∀ i, i < n → ent b (ent c i) = i) : a = b := by
  refine ext_ent ha.len hb.len ha.ran hb.ran fun k hk => ?_
  obtain ⟨i, hi, rfl⟩ := ent_surj hc hk
  rw [h1 i hi, h2 i hi]
theorem contra_back {n : Nat} {x : List Int} (h : isT n x) {j : Nat} (hj : j < n) : ent x (ent (contraI x) j) = j := by
  obtain ⟨i, hi, rfl⟩ := ent_surj h hj
  rw [ent_contra h hi]
theorem contra_then {n : Nat} {x : List Int} (h : isT n x) : thenI (contraI x) x = iota n := by
  have hc := isT_contra h
  refine ext_ent (isT_then hc h).len (iota_len n) (isT_then hc h).ran (iota_in n) fun i hi => ?_
  rw [ent_then (by rw [hc.len]; exact hi), contra_back h hi, ent_iota hi]
theorem contra_contra {n : Nat} {x : List Int} (h : isT n x) : contraI (contraI x) = x := by
  have hc := isT_contra h
  exact uniq hc (isT_contra hc) h (fun i hi => ent_contra hc hi) fun i hi => contra_back h hi
theorem contra_of_then {n : Nat} {x y : List Int} (hx : isT n x) (hy : isT n y) : contraI (thenI x y) = thenI (contraI y) (contraI x) := by
  have hxy := isT_then hx hy
  have cx := isT_contra hx
  have cy := isT_contra hy
  refine uniq hxy (isT_contra hxy) (isT_then cy cx) (fun i hi => ent_contra hxy hi) fun i hi => ?_
  have h1 := ent_lt hx.ran (by rw [hx.len]; exact hi)
  have h2 : ent y (ent x i) < (contraI y).length := by rw [cy.len]; exact ent_lt hy.ran (by rw [hy.len]; exact h1)
  have h3 : i < x.length := by rw [hx.len]; exact hi
  rw [ent_then h3, ent_then h2, ent_contra hy h1, ent_contra hx hi]
end HM
namespace HM
open PySem PySem.Spec PyProof.Rows L2
/-- raise C(), C an own class without __init__ -/
theorem pmk_own0 {X : Cx} {C : Addr} {bmB : List Value} {B newId initId : String} {x : Str} {p pos : Pos} (F : ExcBaseFacts B newId initId bmB) (q : PySem.W.excIn X.K C bmB newId = true) (gC : X.mg x = some (.ref C)) (kC : PySem.W.keepIn X.K (.ref C) = true) (r : Raises X (.ref C)) (hg : Gl X x)
    (hdb : (x == ("__debug__" : Str)) = false := by decide) : PMk X (.Call (.Name x p) [] [] pos) (fun _ H Q => Q (.ref C) none H) := by
  intro pins s σ H Q I h
  refine wpAny_Call_Name_kw (ld_glob I hg gC ?_ hdb)
  refine PySem.W.callWith_K0 I.kIn kC ?_
  show wpAny _ _ (call (.ref C) []) _ _ _
  obtain ⟨bm, N, nm, qn, bs, hdct, sn, sub, ab, col, dd, k0, k1, k2, k3, k5, mN, hC, hN, hni, T⟩ := exc_obj I.kIn q
  refine wpAny_call_exc_subT F T hC hN hni (fun h' e hm => ?_) (by show 0 ≤ sizeLine; exact Nat.zero_le _)
  exact mk_of I hm r h (I.hok.gone hm.new)
/-! ### the turns that come of some -/
inductive Reach (n : Nat) (gs : List (List Int)) : List Int → Prop
  | stay : Reach n gs (iota n)
  | step {x g : List Int} : Reach n gs x → g ∈ gs → Reach n gs (thenI x g)
theorem Reach.isT {n : Nat} {gs : List (List Int)} (h : ∀ g ∈ gs, HM.isT n g) {x : List Int} (r : Reach n gs x) : HM.isT n x := by
  induction r with
  | stay => exact isT_iota n
  | step _ hg ih => exact isT_then ih (h _ hg)
theorem Reach.mono {n : Nat} {gs gs' : List (List Int)} (h : ∀ g ∈ gs, g ∈ gs') {x : List Int} (r : Reach n gs x) : Reach n gs' x := by
  induction r with
  | stay => exact .stay
  | step _ hg ih => exact .step ih (h _ hg)
/-- F is all that comes of gs, each once, at most sixty -/
structure Closure (n : Nat) (gs F : List (List Int)) : Prop where
  nod : F.Nodup
  rch : ∀ x ∈ F, Reach n gs x
  one : iota n ∈ F
  cl : ∀ x ∈ F, ∀ g ∈ gs, thenI x g ∈ F
  few : F.length ≤ 60
def Big (n : Nat) (gs : List (List Int)) : Prop := ∃ l : List (List Int), l.Nodup ∧ l.length = 61 ∧ ∀ x ∈ l, Reach n gs x
theorem Closure.all {n : Nat} {gs F : List (List Int)} (c : Closure n gs F) {x : List Int} (r : Reach n gs x) : x ∈ F := by
  induction r with
  | stay => exact c.one
  | step _ hg ih => exact c.cl _ ih _ hg
def TupsF (H : Hp) (L : List (Addr × List Int)) : Prop := ∀ p ∈ L, TF H p.1 (p.2.map V.int)
theorem TupsF.up {H H' : Hp} {L : List (Addr × List Int)} (h : TupsF H L) (u : UpN H H') : TupsF H' L := fun p hp => (h p hp).up u
theorem TupsF.sq {K : PySem.W.Frag} {H : Hp} {L : List (Addr × List Int)} (h : TupsF H L) : Tups K H L := fun p hp => (h p hp).sq
abbrev refsOf (L : List (Addr × List Int)) : List V := L.map fun p => V.ref p.1
end HM
namespace HM
open PySem PySem.Spec PyProof.Rows L2
/-- a list is a ring: things that are free, each once -/
def ringB (fb : List Bool) (ds : List PyData) : Bool := !ds.isEmpty && (ds.all (numD fb.length) && (ds.all (fun d => fb.getD (itD d).toNat false) && decide (ds.map itD).Nodup))
theorem sqL_tab {K : PySem.W.Frag} {H H' : Hp} {a P : Addr} {xs : List V} (h : SqL K H a xs) (tg : GxR.TabG H P) (t : GxR.Tabbed P H H') : SqL K H' a xs := sqL_up h (UpN.of_tab tg t)
theorem tab_trans {P : Addr} {H H1 H2 : Hp} (a : GxR.Tabbed P H H1) (b : GxR.Tabbed P H1 H2) : GxR.Tabbed P H H2 := ⟨b.1, fun c hc => (b.2 c hc).trans (a.2 c hc)⟩
end HM
namespace HM
open PySem PySem.Spec PyProof.Rows L2
def rotL (zs : List Int) : List Int := zs.drop 1 ++ zs.take 1
def setP (t : List Int) (ps : List (Int × Int)) : List Int := ps.foldl (fun t p => t.set p.1.toNat p.2) t
def setR (t : List Int) (zs : List Int) : List Int := setP t (zs.zip (rotL zs))
def freeR (fb : List Bool) (zs : List Int) : List Bool := zs.foldl (fun fb z => fb.set z.toNat false) fb
/-- what turn_of does with its lists, one behind the other -/
def walkT : List Bool → List Int → Nat → List (List PyData) → Nat ⊕ List Int
  | _, tl, _, [] => .inr tl
  | fb, tl, k, ds :: r => if ringB fb ds = true then walkT (freeR fb (ds.map itD)) (setR tl (ds.map itD)) (k + 1) r else .inl k
theorem setP_len (ps : List (Int × Int)) : ∀ t : List Int, (setP t ps).length = t.length := by
  induction ps with
  | nil => intro t; rfl
  | cons p ps ih =>
    intro t
    show (setP (t.set p.1.toNat p.2) ps).length = _
    rw [ih, List.length_set]
theorem freeR_len (zs : List Int) : ∀ fb : List Bool, (freeR fb zs).length = fb.length := by
  induction zs with
  | nil => intro t; rfl
  | cons z zs ih =>
    intro t
    show (freeR (t.set z.toNat false) zs).length = _
    rw [ih, List.length_set]
theorem setP_snoc (t : List Int) (ps : List (Int × Int)) (p : Int × Int) : setP t (ps ++ [p]) = (setP t ps).set p.1.toNat p.2 := by
  unfold setP
  rw [List.foldl_append]
  rfl
theorem freeR_snoc (fb : List Bool) (zs : List Int) (z : Int) : freeR fb (zs ++ [z]) = (freeR fb zs).set z.toNat false := by
  unfold freeR
  rw [List.foldl_append]
  rfl
theorem rotL_len (zs : List Int) : (rotL zs).length = zs.length := by
  unfold rotL
  rw [List.length_append, List.length_drop, List.length_take]
  omega
theorem map_setJ (l : List Int) (j : Nat) (v : Int) : (l.map V.int).set j (.int v) = (l.set j v).map V.int := by rw [List.map_set]
theorem map_setB (l : List Bool) (j : Nat) (v : Bool) : (l.map V.bl).set j (.bl v) = (l.set j v).map V.bl := by rw [List.map_set]
/-- a list of data that may be read -/
def Rg (K : PySem.W.Frag) (H : Hp) (v : V) (ds : List PyData) : Prop := ∃ (a : Addr) (xs : List V), v = .ref a ∧ SqL K H a xs ∧ DpAll K H xs ds ∧ xs.length ≤ 100
theorem Rg.up {K : PySem.W.Frag} {H H' : Hp} {v : V} {ds : List PyData} (h : Rg K H v ds) (k : UpN H H') : Rg K H' v ds := let ⟨a, xs, h1, h2, h3, h4⟩ := h; ⟨a, xs, h1, sqL_up h2 k, dps_up k h3, h4⟩
theorem pair_at {α β : Type} {R : α → β → Prop} : ∀ {xs : List α} {ys : List β} {i : Nat} {x : α}, Paired R xs ys → xs[i]? = some x → ∃ y, ys[i]? = some y ∧ R x y
  | _, _, _, _, .nil, e => by simp at e
  | _, _, 0, _, .cons r _, e => by simp at e; subst e; exact ⟨_, rfl, r⟩
  | _, _, i + 1, x, .cons _ t, e => by
    obtain ⟨y, h1, h2⟩ := pair_at (i := i) (x := x) t (by simpa using e)
    exact ⟨y, by simpa using h1, h2⟩
theorem small_txt : ∀ i : Nat, i < 120 → ((i : Nat) : Int).natAbs.log2 < 1920 ∧ (Str.ofString (toString ((i : Nat) : Int))).length ≤ 1000 := by decide +kernel
theorem ring_ne {fb : List Bool} {ds : List PyData} (h : ringB fb ds = true) : 1 ≤ ds.length := by
  cases ds with
  | nil => cases h
  | cons _ _ => exact Nat.succ_le_succ (Nat.zero_le _)
theorem ring_ints {K : PySem.W.Frag} {H : Hp} {fb : List Bool} {xs : List V} {ds : List PyData} (h : ringB fb ds = true) (hD : DpAll K H xs ds) : xs = (ds.map itD).map V.int ∧ ∀ z ∈ ds.map itD, 0 ≤ z ∧ z < (fb.length : Int) := by
  unfold ringB at h
  rw [Bool.and_eq_true, Bool.and_eq_true] at h
  have ha := h.2.1
  have hx := all_ints (n := fb.length) (xs := xs) (by rw [dps_num fb.length hD]; exact ha)
  rw [dps_int hD] at hx
  refine ⟨hx, fun z hz => ?_⟩
  obtain ⟨d, hd, rfl⟩ := List.mem_map.mp hz
  have := List.all_eq_true.mp ha d hd
  cases d with
  | int i =>
    have h9 : (decide (0 ≤ i) && decide (i < (fb.length : Int))) = true := this
    rw [Bool.and_eq_true, decide_eq_true_iff, decide_eq_true_iff] at h9
    exact h9
  | _ => cases this
theorem take_snoc {α : Type} {l : List α} {i : Nat} {x : α} (h : l[i]? = some x) : l.take (i + 1) = l.take i ++ [x] := by
  rw [List.take_succ, h]
  rfl
theorem ixB {n : Nat} {i : Int} (h0 : 0 ≤ i) (h1 : i < (n : Int)) : ixN n i = some i.toNat := by
  unfold ixN
  rw [if_pos h0, if_pos h1]
end HM
namespace HM
open PySem PySem.Spec PyProof.Rows L2
/-! ### the law's own walk -/
def dueRing (n : Int) : List Int → List PyData → Option (List Int)
  | met, [] => some met
  | met, d :: r => if (numD n d && !decide (itD d ∈ met)) = true then dueRing n (met ++ [itD d]) r else none
def dueWalk (n : Int) : List Int → Nat → List (List PyData) → Option Nat
  | _, _, [] => none
  | met, k, ds :: r => if ds.isEmpty = true then some k else match dueRing n met ds with | none => some k | some met' => dueWalk n met' (k + 1) r
/-- free just where it was not met -/
def FreeOf (fb : List Bool) (met : List Int) : Prop := ∀ z : Int, 0 ≤ z → z < (fb.length : Int) → fb.getD z.toNat false = !decide (z ∈ met)
theorem due_ring (n : Int) : ∀ (ds : List PyData) (met : List Int), dueRing n met ds = if (ds.all (numD n) && (ds.all (fun d => !decide (itD d ∈ met)) && decide (ds.map itD).Nodup)) = true then some (met ++ ds.map itD) else none
  | [], met => by
    show some met = _
    rw [if_pos (by simp)]
    simp
  | d :: r, met => by
    show (if (numD n d && !decide (itD d ∈ met)) = true then dueRing n (met ++ [itD d]) r else none) = _
    by_cases h1 : (numD n d && !decide (itD d ∈ met)) = true
    · rw [if_pos h1, due_ring n r (met ++ [itD d])]
      rw [Bool.and_eq_true] at h1
      have e1 : ((d :: r).all (numD n) && ((d :: r).all (fun d => !decide (itD d ∈ met)) && decide ((d :: r).map itD).Nodup)) = (r.all (numD n) && (r.all (fun e => !decide (itD e ∈ met ++ [itD d])) && decide (r.map itD).Nodup)) := by
        rw [Bool.eq_iff_iff]
        simp only [List.all_cons, h1.1, h1.2, Bool.true_and, List.map_cons, List.nodup_cons, Bool.and_eq_true, decide_eq_true_iff, List.all_eq_true, List.mem_append, List.mem_singleton, Bool.not_eq_true', decide_eq_false_iff_not, not_or]
        constructor
        · rintro ⟨h2, h3, h4, h5⟩
          exact ⟨h2, fun e he => ⟨h3 e he, fun z => h4 (List.mem_map.mpr ⟨e, he, z⟩)⟩, h5⟩
        · rintro ⟨h2, h3, h5⟩
          refine ⟨h2, fun e he => (h3 e he).1, fun z => ?_, h5⟩
          obtain ⟨e, he, ee⟩ := List.mem_map.mp z
          exact (h3 e he).2 ee
      rw [e1, List.map_cons, List.append_assoc]
      rfl
    · rw [if_neg h1, if_neg]
      intro h2
      apply h1
      simp only [List.all_cons, Bool.and_eq_true] at h2
      rw [Bool.and_eq_true]
      exact ⟨h2.1.1, h2.2.1.1⟩
theorem ring_due {fb : List Bool} {met : List Int} {ds : List PyData} (hf : FreeOf fb met) (hne : ds.isEmpty = false) : dueRing fb.length met ds = if ringB fb ds = true then some (met ++ ds.map itD) else none := by
  rw [due_ring]
  unfold ringB
  rw [hne]
  by_cases ha : ds.all (numD fb.length) = true
  · have e : ds.all (fun d => fb.getD (itD d).toNat false) = ds.all (fun d => !decide (itD d ∈ met)) := by
      rw [Bool.eq_iff_iff, List.all_eq_true, List.all_eq_true]
      have key : ∀ d ∈ ds, fb.getD (itD d).toNat false = !decide (itD d ∈ met) := fun d hd => by
        have h1 := List.all_eq_true.mp ha d hd
        cases d with
        | int i =>
          have h9 : (decide (0 ≤ i) && decide (i < (fb.length : Int))) = true := h1
          rw [Bool.and_eq_true, decide_eq_true_iff, decide_eq_true_iff] at h9
          exact hf i h9.1 h9.2
        | _ => cases h1
      constructor
      · intro h d hd
        rw [← key d hd]
        exact h d hd
      · intro h d hd
        rw [key d hd]
        exact h d hd
    rw [e, Bool.not_false, Bool.true_and]
  · rw [Bool.not_eq_true _ |>.mp ha]
    rfl
theorem free_step {fb : List Bool} : ∀ {zs met : List Int}, (∀ z ∈ zs, 0 ≤ z ∧ z < (fb.length : Int)) → FreeOf fb met → FreeOf (freeR fb zs) (met ++ zs) := by
  intro zs
  induction zs generalizing fb with
  | nil => intro met _ h; rw [List.append_nil]; exact h
  | cons z zs ih =>
    intro met hz h
    have hz0 := hz z List.mem_cons_self
    have h2 : FreeOf (fb.set z.toNat false) (met ++ [z]) := fun y h0 h1 => by
      rw [List.length_set] at h1
      by_cases e : y = z
      · rw [e, List.getD_eq_getElem?_getD, List.getElem?_set_self (by omega)]
        simp
      · rw [List.getD_eq_getElem?_getD, List.getElem?_set_ne (by omega), ← List.getD_eq_getElem?_getD, h y h0 h1]
        congr 1
        rw [decide_eq_decide, List.mem_append, List.mem_singleton]
        constructor
        · exact .inl
        · exact fun q => q.elim _root_.id fun q => absurd q e
    have h3 := ih (fb := fb.set z.toNat false) (met := met ++ [z]) (fun y hy => by rw [List.length_set]; exact hz y (List.mem_cons_of_mem _ hy)) h2
    rw [List.append_assoc] at h3
    exact h3
theorem walk_due : ∀ (dss : List (List PyData)) (fb : List Bool) (tl met : List Int) (k : Nat), FreeOf fb met → dueWalk fb.length met k dss = (match walkT fb tl k dss with | .inl i => some i | .inr _ => none)
  | [], fb, tl, met, k, _ => rfl
  | ds :: r, fb, tl, met, k, hf => by
    show (if ds.isEmpty = true then some k else match dueRing fb.length met ds with | none => some k | some met' => dueWalk fb.length met' (k + 1) r) = (match (if ringB fb ds = true then walkT (freeR fb (ds.map itD)) (setR tl (ds.map itD)) (k + 1) r else .inl k) with | .inl i => some i | .inr _ => none)
    cases he : ds.isEmpty with
    | true =>
      have e : ringB fb ds = false := by
        unfold ringB
        rw [he]
        rfl
      rw [e]
      rfl
    | false =>
      rw [if_neg Bool.false_ne_true, ring_due hf he]
      by_cases hr : ringB fb ds = true
      · rw [if_pos hr, if_pos hr]
        have hin : ∀ z ∈ ds.map itD, 0 ≤ z ∧ z < (fb.length : Int) := (ring_ints (K := []) (H := fun _ => none) (xs := (ds.map itD).map V.int) hr (by
          have ha : ds.all (numD fb.length) = true := by
            unfold ringB at hr
            rw [Bool.and_eq_true, Bool.and_eq_true] at hr
            exact hr.2.1
          have : ∀ l : List PyData, l.all (numD fb.length) = true → DpAll [] (fun _ => none) ((l.map itD).map V.int) l := fun l => by
            induction l with
            | nil => intro _; exact .nil
            | cons d l ih =>
              intro h
              rw [List.all_cons, Bool.and_eq_true] at h
              cases d with
              | int i => exact .cons (.int i) (ih h.2)
              | _ => cases h.1
          exact this ds ha)).2
        have h2 := walk_due r (freeR fb (ds.map itD)) (setR tl (ds.map itD)) (met ++ ds.map itD) (k + 1) (free_step hin hf)
        rw [freeR_len] at h2
        exact h2
      · rw [if_neg hr, if_neg hr]
theorem walk_right : ∀ (dss : List (List PyData)) (fb : List Bool) (tl tl2 : List Int) (k : Nat), walkT fb tl k dss = .inr tl2 → (∀ ds ∈ dss, 1 ≤ ds.length ∧ ds.all (numD fb.length) = true) ∧ tl2 = dss.foldl (fun t ds => setR t (ds.map itD)) tl
  | [], fb, tl, tl2, k, h => by
    cases h
    exact ⟨fun _ z => (by cases z), rfl⟩
  | ds :: r, fb, tl, tl2, k, h => by
    have h' : (if ringB fb ds = true then walkT (freeR fb (ds.map itD)) (setR tl (ds.map itD)) (k + 1) r else .inl k) = .inr tl2 := h
    by_cases hr : ringB fb ds = true
    · rw [if_pos hr] at h'
      obtain ⟨h1, h2⟩ := walk_right r _ _ _ _ h'
      rw [freeR_len] at h1
      refine ⟨fun e he => ?_, h2⟩
      rcases List.mem_cons.mp he with rfl | he
      · refine ⟨ring_ne hr, ?_⟩
        unfold ringB at hr
        rw [Bool.and_eq_true, Bool.and_eq_true] at hr
        exact hr.2.1
      · exact h1 e he
    · rw [if_neg hr] at h'
      cases h'
theorem free0 (m : Nat) : FreeOf (List.replicate m true) [] := fun z h0 h1 => by
  rw [List.length_replicate] at h1
  rw [List.getD_eq_getElem?_getD, List.getElem?_replicate, if_pos (by omega)]
  simp
theorem rot_at {zs : List Int} {j : Nat} (h : j < zs.length) : (rotL zs).getD j 0 = zs.getD ((j + 1) % zs.length) 0 := by
  unfold rotL
  rw [List.getD_eq_getElem?_getD, List.getD_eq_getElem?_getD]
  by_cases h1 : j + 1 < zs.length
  · rw [Nat.mod_eq_of_lt h1, List.getElem?_append_left (by rw [List.length_drop]; omega), List.getElem?_drop, Nat.add_comm]
  · have e : j + 1 = zs.length := by omega
    rw [e, Nat.mod_self, List.getElem?_append_right (by rw [List.length_drop]; omega), List.length_drop, List.getElem?_take]
    have e2 : j - (zs.length - 1) = 0 := by omega
    rw [e2, if_pos (by omega)]
end HM
namespace HM
open PySem PySem.Spec PyProof.Rows L2
theorem inV_ints (z : Int) (met : List Int) : inV (.int z) (met.map V.int) = decide (z ∈ met) := by
  unfold inV
  rw [List.any_map, Bool.eq_iff_iff, List.any_eq_true, decide_eq_true_iff]
  constructor
  · rintro ⟨y, hy, e⟩
    have e2 : (y == z) = true := e
    rw [← beq_iff_eq.mp e2]
    exact hy
  · intro h
    exact ⟨z, h, beq_self_eq_true z⟩
theorem flat_ints (met : List Int) : (met.map V.int).all flatV = true := by
  rw [List.all_map, List.all_eq_true]
  intro _ _
  rfl
def dueV (n : Int) (dss : List (List PyData)) : V := if n < 1 ∨ 7 < n then .int (-1) else match dueWalk n [] 0 dss with | some i => .int (i : Nat) | none => .non
theorem same_put {H J : Hp} {q : Addr} {o : HO} (u : Same H J) (n : H q = none) : Same H (upd J q o) := fun b p e => by rw [upd_ne (ne_of_none e n)]; exact u b p e
theorem drop_at {α : Type} {l : List α} {i : Nat} {x : α} (h : l[i]? = some x) : l.drop i = x :: l.drop (i + 1) := by
  obtain ⟨h1, h2⟩ := List.getElem?_eq_some_iff.mp h
  rw [← h2, List.getElem_cons_drop]
end HM
namespace HM
open PySem PySem.Spec PyProof.Rows L2
theorem pssW {X : Cx} {ss : List Stmt} {t u : TS} (h : PSs X ss t) (k : ∀ D σ H, u D σ H → t D σ H) : PSs X ss u := ⟨fun pins s σ H D I q => h.run pins s σ H D I (k D σ H q)⟩
/-! ### how small the data are -/
structure DataOk (d : PyData) : Prop where
  a : SeqAt.shaped d = true
  b : d.hasDict = false
  c : d.showable = true
  d' : d.depth ≤ 40
  e : d.shown.length ≤ sizeLine
  f : PyData.eqv d d = true
theorem cl_small {d : PyData} (h : smD d = true) : d.canLay0 = true := by
  cases d with
  | none => rfl
  | bool b => rfl
  | int i => rfl
  | str x =>
    have e : x = "0" := of_decide_eq_true h
    subst e
    first | rfl | decide +kernel
  | list xs =>
    match xs, h with
    | [.int i], h => rfl
  | tuple xs =>
    match xs, h with
    | [.int i], h => rfl
  | dict kvs => cases h
theorem cl_all : ∀ {ds : List PyData}, (∀ d ∈ ds, d.canLay0 = true) → PyData.canLayAll0 ds = true
  | [], _ => rfl
  | d :: ds, h => by
    show (d.canLay0 && PyData.canLayAll0 ds) = true
    rw [h d List.mem_cons_self, cl_all fun e he => h e (List.mem_cons_of_mem _ he)]
    rfl
theorem dataOk_of {d : PyData} {k c : Nat} (i : It k c d) (hk : k ≤ 40) (hc : c ≤ 10000000) (cl : d.canLay0 = true) : DataOk d := by
  have h2 := shown_le _ i.1
  have h4 := i.2.2.2
  refine ⟨?_, i.2.1, i.1, Nat.le_trans i.2.2.1 hk, ?_, SeqAt.eqv_refl _ cl⟩
  · unfold SeqAt.shaped
    rw [cl, decide_eq_true (Nat.le_trans i.2.2.1 (Nat.le_trans hk (by decide)))]
    rfl
  · have h5 : sizeLine = 16777216 := by decide
    omega
/-- lists of a few small things -/
def RS (dss : List (List PyData)) : Prop := dss.length ≤ 20 ∧ ∀ ds ∈ dss, ds.length ≤ 20 ∧ ds.all smD = true
abbrev dLL (dss : List (List PyData)) : PyData := .list (dss.map .list)
theorem rs_ok {dss : List (List PyData)} (h : RS dss) : DataOk (dLL dss) := by
  have i1 : ∀ d ∈ dss.map PyData.list, It 2 40100 d := fun d hd => by
    obtain ⟨ds, hds, rfl⟩ := List.mem_map.mp hd
    have h2 := h.2 ds hds
    have i := it_lst (k := 1) (c := 2000) (ds := ds) fun e he => it_small (List.all_eq_true.mp h2.2 e he)
    refine it_mono i (by decide) ?_
    have := Nat.mul_le_mul_left (2000 + 2) h2.1
    omega
  have i2 := it_lst i1
  rw [List.length_map] at i2
  refine dataOk_of (it_mono i2 (Nat.le_refl 3) (show (40100 + 2) * dss.length + 2 ≤ 1000000 by have := Nat.mul_le_mul_left (40100 + 2) h.1; omega)) (by decide) (by decide) ?_
  show PyData.canLayAll0 (dss.map .list) = true
  refine cl_all fun d hd => ?_
  obtain ⟨ds, hds, rfl⟩ := List.mem_map.mp hd
  show PyData.canLayAll0 ds = true
  exact cl_all fun e he => cl_small (List.all_eq_true.mp (h.2 ds hds).2 e he)
theorem dp_rgs {K : PySem.W.Frag} {H : Hp} : ∀ {us : List V} {dss : List (List PyData)}, Paired (Rg K H) us dss → DpAll K H us (dss.map .list)
  | _, _, .nil => .nil
  | _, _, .cons ⟨a, xs, e, h1, h2, _⟩ t => by
    rw [e]
    exact .cons (.lst h1 h2) (dp_rgs t)
theorem rgs_up {K : PySem.W.Frag} {H H' : Hp} (u : UpN H H') : ∀ {us : List V} {dss : List (List PyData)}, Paired (Rg K H) us dss → Paired (Rg K H') us dss
  | _, _, .nil => .nil
  | _, _, .cons h t => .cons (h.up u) (rgs_up u t)
/-! ### the turns that come out -/
def in100 (l : List Int) : Prop := ∀ z ∈ l, 0 ≤ z ∧ z < 100
theorem setP_in {ps : List (Int × Int)} (hp : ∀ p ∈ ps, 0 ≤ p.2 ∧ p.2 < 100) : ∀ {t : List Int}, in100 t → in100 (setP t ps) := by
  induction ps with
  | nil => intro t h; exact h
  | cons p ps ih =>
    intro t h
    refine ih (fun q hq => hp q (List.mem_cons_of_mem _ hq)) fun z hz => ?_
    rcases List.mem_or_eq_of_mem_set hz with hz | rfl
    · exact h z hz
    · exact hp p List.mem_cons_self
theorem rot_mem {zs : List Int} {z : Int} (h : z ∈ rotL zs) : z ∈ zs := by
  rcases List.mem_append.mp h with h | h
  · exact List.mem_of_mem_drop h
  · exact List.mem_of_mem_take h
theorem fold_in {m : Nat} (hm : m ≤ 7) : ∀ {dss : List (List PyData)} {t : List Int}, (∀ ds ∈ dss, 1 ≤ ds.length ∧ ds.all (numD m) = true) → in100 t → in100 (dss.foldl (fun t ds => setR t (ds.map itD)) t)
  | [], _, _, h => h
  | ds :: r, t, ho, h => by
    refine fold_in hm (dss := r) (fun e he => ho e (List.mem_cons_of_mem _ he)) (setP_in (fun p hp => ?_) h)
    have h2 : p.2 ∈ ds.map itD := rot_mem (List.of_mem_zip (show (p.1, p.2) ∈ _ from hp)).2
    obtain ⟨d, hd, e⟩ := List.mem_map.mp h2
    have h3 := List.all_eq_true.mp (ho ds List.mem_cons_self).2 d hd
    cases d with
    | int i =>
      have h9 : (decide (0 ≤ i) && decide (i < (m : Int))) = true := h3
      rw [Bool.and_eq_true, decide_eq_true_iff, decide_eq_true_iff] at h9
      have e2 : i = p.2 := e
      omega
    | _ => cases h3
theorem fold_len : ∀ {dss : List (List PyData)} {t : List Int}, (dss.foldl (fun t ds => setR t (ds.map itD)) t).length = t.length
  | [], _ => rfl
  | ds :: r, t => by
    show (r.foldl (fun t ds => setR t (ds.map itD)) (setR t (ds.map itD))).length = _
    rw [fold_len]
    exact setP_len _ _
theorem iota_100 {m : Nat} (hm : m ≤ 7) : in100 (iota m) := fun z hz => by
  obtain ⟨i, hi, rfl⟩ := List.mem_map.mp hz
  have := List.mem_range.mp hi
  omega
abbrev dTu (zs : List Int) : PyData := .tuple (zs.map .int)
theorem tu_ok {zs : List Int} (h : in100 zs) (hl : zs.length ≤ 20) : DataOk (dTu zs) := by
  have i := it_tup (it_ints h)
  rw [List.length_map] at i
  refine dataOk_of i (by decide) (by have := Nat.mul_le_mul_left (1921 + 2) hl; omega) ?_
  show PyData.canLayAll0 (zs.map .int) = true
  refine cl_all fun d hd => ?_
  obtain ⟨z, _, rfl⟩ := List.mem_map.mp hd
  rfl
theorem int_ok {i : Int} (h : smI i = true) : DataOk (.int i) := dataOk_of (it_int h) (by decide) (by decide) rfl
end HM
namespace HM
open PySem PySem.Spec PyProof.Rows L2
theorem cut_take (xs : List V) (k : Nat) : cutV xs none (some (k : Int)) = xs.take k := by
  unfold cutV
  rw [HT.sIx_nat, HT.sIx_none, List.drop_zero, Nat.sub_zero]
  by_cases h : k ≤ xs.length
  · rw [Nat.min_eq_left h]
  · rw [Nat.min_eq_right (by omega), List.take_length, List.take_of_length_le (by omega)]
theorem cut_drop (xs : List V) (k : Nat) : cutV xs (some (k : Int)) none = xs.drop k := by
  unfold cutV
  rw [HT.sIx_nat, HT.sIx_none]
  by_cases h : k ≤ xs.length
  · rw [Nat.min_eq_left h, List.take_of_length_le (by rw [List.length_drop]; omega)]
  · rw [Nat.min_eq_right (by omega), List.drop_length, List.drop_of_length_le (by omega), List.take_nil]
/-- one to b lists of at most b small things -/
def RB (b : Nat) (dss : List (List PyData)) : Prop := 1 ≤ dss.length ∧ dss.length ≤ b ∧ ∀ ds ∈ dss, ds.length ≤ b ∧ ds.all smD = true
/-- a list of small numbers, not at F -/
def Rz (H : Hp) (F : Addr) (v : V) (ds : List PyData) : Prop := ∃ (a : Addr) (zs : List Int), v = .ref a ∧ a ≠ F ∧ H a = some (.lst (zs.map V.int)) ∧ ds = zs.map .int ∧ zs.length ≤ 7 ∧ ∀ z ∈ zs, 0 ≤ z ∧ z < 8
theorem paired_mono {α β : Type} {R S : α → β → Prop} (k : ∀ x y, R x y → S x y) : ∀ {xs : List α} {ys : List β}, Paired R xs ys → Paired S xs ys
  | _, _, .nil => .nil
  | _, _, .cons h t => .cons (k _ _ h) (paired_mono k t)
theorem paired_snoc {α β : Type} {R : α → β → Prop} {x : α} {y : β} (h : R x y) : ∀ {xs : List α} {ys : List β}, Paired R xs ys → Paired R (xs ++ [x]) (ys ++ [y])
  | _, _, .nil => .cons h .nil
  | _, _, .cons g t => .cons g (paired_snoc h t)
theorem paired_mem {α β : Type} {R : α → β → Prop} : ∀ {xs : List α} {ys : List β}, Paired R xs ys → ∀ y ∈ ys, ∃ x, x ∈ xs ∧ R x y
  | _, _, .nil, _, h => by cases h
  | _, _, .cons g t, y, h => by
    rcases List.mem_cons.mp h with rfl | h
    · exact ⟨_, List.mem_cons_self, g⟩
    · obtain ⟨x, h1, h2⟩ := paired_mem t y h
      exact ⟨x, List.mem_cons_of_mem _ h1, h2⟩
theorem li_ok {zs : List Int} (h : in100 zs) (hl : zs.length ≤ 20) : DataOk (.list (zs.map .int)) := by
  have i := it_lst (it_ints h)
  rw [List.length_map] at i
  refine dataOk_of i (by decide) (by have := Nat.mul_le_mul_left (1921 + 2) hl; omega) ?_
  show PyData.canLayAll0 (zs.map .int) = true
  refine cl_all fun d hd => ?_
  obtain ⟨z, _, rfl⟩ := List.mem_map.mp hd
  rfl
theorem eqv_nilD (ds : List PyData) : PyData.eqv (.list ds) (.list []) = ds.isEmpty := by
  cases ds with
  | nil => simp [PyData.eqv, PyData.eqvAll]
  | cons d ds => simp [PyData.eqv, PyData.eqvAll]
theorem nil_ok : SeqAt.shaped (.list []) = true := (li_ok (zs := []) (fun z h => by cases h) (Nat.zero_le _)).a
end HM
namespace HM
open PySem PySem.Spec PyProof.Rows L2
/-- a copy of a list of data that stood ahead -/
def Cp (K : PySem.W.Frag) (H H1 : Hp) (D : Addr) (v : V) (ds : List PyData) : Prop := ∃ (a : Addr) (xs : List V), v = .ref a ∧ H a = none ∧ a ≠ D ∧ H1 a = some (.lst xs) ∧ DpAll K H xs ds ∧ xs.length ≤ 100
theorem paired_memm {α β : Type} {R S : α → β → Prop} : ∀ {xs : List α} {ys : List β}, Paired R xs ys → (∀ x y, x ∈ xs → R x y → S x y) → Paired S xs ys
  | _, _, .nil, _ => .nil
  | _, _, .cons h t, k => .cons (k _ _ List.mem_cons_self h) (paired_memm t fun x y hx => k x y (List.mem_cons_of_mem _ hx))
theorem Kept.upP {p : Addr} {H H' : Hp} (k : Kept p H H') : UpP p H H' := UpP.of_kept k
theorem cp_rg {K : PySem.W.Frag} {H H1 H' : Hp} {p D : Addr} {v : V} {ds : List PyData} (h : Cp K H H1 D v ds) (hp : noPen p H) (k : Kept p H H') (e : ∀ a xs, v = .ref a → a ≠ D → H1 a = some (.lst xs) → H' a = some (.lst xs)) : Rg K H' v ds := by
  obtain ⟨a, xs, rfl, _, nD, ea, hd, hl⟩ := h
  exact ⟨a, xs, rfl, .inl (.inl (e a xs rfl nD ea)), dps_p hp k.upP hd, hl⟩
theorem rg_set {K : PySem.W.Frag} {H H1 H' : Hp} {p D a : Addr} {xs' : List V} {ds' : List PyData} (hp : noPen p H) (k : Kept p H H') (e : ∀ b xs, b ≠ a → b ≠ D → H1 b = some (.lst xs) → H' b = some (.lst xs)) (ea : H' a = some (.lst xs')) (hx : DpAll K H' xs' ds') (hl : xs'.length ≤ 100) :
    ∀ {us : List V} {dss : List (List PyData)} {i : Nat}, Paired (Cp K H H1 D) us dss → us.Nodup → us[i]? = some (.ref a) → Paired (Rg K H') us (dss.set i ds')
  | _, _, _, .nil, _, z => by simp at z
  | _, _, 0, .cons h t, nd, z => by
    simp only [List.getElem?_cons_zero, Option.some.injEq] at z
    subst z
    rw [List.set_cons_zero]
    refine .cons ⟨a, xs', rfl, .inl (.inl ea), hx, hl⟩ (paired_memm t fun x y hm g => cp_rg g hp k fun b xs eb n1 h1 => e b xs (fun q => ?_) n1 h1)
    rw [List.nodup_cons] at nd
    rw [eb, q] at hm
    exact nd.1 hm
  | _, _, i + 1, .cons h t, nd, z => by
    rw [List.nodup_cons] at nd
    rw [List.getElem?_cons_succ] at z
    rw [List.set_cons_succ]
    refine .cons (cp_rg h hp k fun b xs eb n1 h1 => e b xs (fun q => ?_) n1 h1) (rg_set hp k e ea hx hl t nd.2 z)
    rw [eb, q] at nd
    exact nd.1 (List.mem_of_getElem? z)
theorem rb_set {b i : Nat} {dss : List (List PyData)} {ds' : List PyData} (h : RB b dss) (h1 : ds'.length ≤ b + 1) (h2 : ds'.all smD = true) : RB (b + 1) (dss.set i ds') := by
  refine ⟨by rw [List.length_set]; exact h.1, by rw [List.length_set]; exact Nat.le_succ_of_le h.2.1, fun ds hds => ?_⟩
  rcases List.mem_or_eq_of_mem_set hds with hds | rfl
  · exact ⟨Nat.le_succ_of_le (h.2.2 ds hds).1, (h.2.2 ds hds).2⟩
  · exact ⟨h1, h2⟩
theorem rb_up {b : Nat} {dss : List (List PyData)} (h : RB b dss) : RB (b + 1) dss := ⟨h.1, Nat.le_succ_of_le h.2.1, fun ds hds => ⟨Nat.le_succ_of_le (h.2.2 ds hds).1, (h.2.2 ds hds).2⟩⟩
theorem paired_take {α β : Type} {R : α → β → Prop} : ∀ (i : Nat) {xs : List α} {ys : List β}, Paired R xs ys → Paired R (xs.take i) (ys.take i)
  | 0, _, _, _ => .nil
  | _ + 1, _, _, .nil => .nil
  | i + 1, _, _, .cons h t => .cons h (paired_take i t)
theorem paired_drop {α β : Type} {R : α → β → Prop} : ∀ (i : Nat) {xs : List α} {ys : List β}, Paired R xs ys → Paired R (xs.drop i) (ys.drop i)
  | 0, _, _, h => h
  | _ + 1, _, _, .nil => .nil
  | i + 1, _, _, .cons _ t => paired_drop i t
theorem paired_app {α β : Type} {R : α → β → Prop} : ∀ {xs xs2 : List α} {ys ys2 : List β}, Paired R xs ys → Paired R xs2 ys2 → Paired R (xs ++ xs2) (ys ++ ys2)
  | _, _, _, _, .nil, h => h
  | _, _, _, _, .cons g t, h => .cons g (paired_app t h)
theorem dps_take {K : PySem.W.Frag} {H : Hp} : ∀ (i : Nat) {xs : List V} {ds : List PyData}, DpAll K H xs ds → DpAll K H (xs.take i) (ds.take i)
  | 0, _, _, _ => .nil
  | _ + 1, _, _, .nil => .nil
  | i + 1, _, _, .cons h t => .cons h (dps_take i t)
theorem dps_drop {K : PySem.W.Frag} {H : Hp} : ∀ (i : Nat) {xs : List V} {ds : List PyData}, DpAll K H xs ds → DpAll K H (xs.drop i) (ds.drop i)
  | 0, _, _, h => h
  | _ + 1, _, _, .nil => .nil
  | i + 1, _, _, .cons _ t => dps_drop i t
theorem dps_get {K : PySem.W.Frag} {H : Hp} : ∀ {i : Nat} {xs : List V} {ds : List PyData} {x : V}, DpAll K H xs ds → xs[i]? = some x → ∃ d, ds[i]? = some d ∧ Dp K H x d
  | _, _, _, _, .nil, z => by simp at z
  | 0, _, _, _, .cons h _, z => by
    simp only [List.getElem?_cons_zero, Option.some.injEq] at z
    subst z
    exact ⟨_, rfl, h⟩
  | i + 1, _, _, _, .cons _ t, z => by
    rw [List.getElem?_cons_succ] at z
    obtain ⟨d, h1, h2⟩ := dps_get t z
    exact ⟨d, by rw [List.getElem?_cons_succ]; exact h1, h2⟩
theorem all_take {ds : List PyData} {i : Nat} (h : ds.all smD = true) : (ds.take i).all smD = true := by
  rw [List.all_eq_true] at *
  exact fun d hd => h d (List.mem_of_mem_take hd)
theorem all_drop {ds : List PyData} {i : Nat} (h : ds.all smD = true) : (ds.drop i).all smD = true := by
  rw [List.all_eq_true] at *
  exact fun d hd => h d (List.mem_of_mem_drop hd)
theorem all_splice {ds : List PyData} {i j : Nat} {d : PyData} (h : ds.all smD = true) (hd : smD d = true) : (ds.take i ++ [d] ++ ds.drop j).all smD = true := by
  rw [List.all_append, List.all_append, all_take h, all_drop h]
  show (true && (smD d && true)) && true = true
  rw [hd]
  rfl
theorem len_splice {α : Type} {l : List α} {i j : Nat} {d : α} (h : i ≤ j) : (l.take i ++ [d] ++ l.drop j).length ≤ l.length + 1 := by
  rw [List.length_append, List.length_append, List.length_take, List.length_drop]
  show min i l.length + 1 + (l.length - j) ≤ _
  omega
theorem atI_get {xs : List V} {i : Int} (h0 : 0 ≤ i) (h1 : i < (xs.length : Int)) : ∃ v, xs[i.toNat]? = some v ∧ atI xs i = some v := by
  have h : i.toNat < xs.length := by omega
  exact ⟨xs[i.toNat], List.getElem?_eq_getElem h, at_of (j := i.toNat) (by omega) (List.getElem?_eq_getElem h)⟩
theorem small_ok {ds : List PyData} (h : ds.all smD = true) (hl : ds.length ≤ 20) : SeqAt.shaped (.list ds) = true := by
  have i := it_lst (k := 1) (c := 2000) (ds := ds) fun e he => it_small (List.all_eq_true.mp h e he)
  refine (dataOk_of i (by decide) (by have := Nat.mul_le_mul_left (2000 + 2) hl; omega) ?_).a
  show PyData.canLayAll0 ds = true
  exact cl_all fun e he => cl_small (List.all_eq_true.mp h e he)
end HM
namespace HM
open PySem PySem.Spec PyProof.Rows L2
/-! ### a turn done again and again -/
def itr (f : Nat → Nat) : Nat → Nat → Nat
  | 0, x => x
  | k + 1, x => f (itr f k x)
theorem itr_add (f : Nat → Nat) (x b : Nat) : ∀ a, itr f (a + b) x = itr f a (itr f b x)
  | 0 => by rw [Nat.zero_add]; rfl
  | a + 1 => by rw [Nat.succ_add]; exact congrArg f (itr_add f x b a)
theorem itr_mul {f : Nat → Nat} {x p : Nat} (h : itr f p x = x) : ∀ k, itr f (k * p) x = x
  | 0 => by rw [Nat.zero_mul]; rfl
  | k + 1 => by rw [Nat.succ_mul, itr_add, h, itr_mul h k]
section
variable {n : Nat} {l : List Int}
theorem itr_lt (h : isT n l) {x : Nat} (hx : x < n) : ∀ k, itr (ent l) k x < n
  | 0 => hx
  | k + 1 => ent_lt h.ran (by rw [h.len]; exact itr_lt h hx k)
theorem itr_inj (h : isT n l) {x y : Nat} (hx : x < n) (hy : y < n) : ∀ k, itr (ent l) k x = itr (ent l) k y → x = y
  | 0, e => e
  | k + 1, e => itr_inj h hx hy k (ent_inj h (itr_lt h hx k) (itr_lt h hy k) e)
theorem period (h : isT n l) {x : Nat} (hx : x < n) : ∃ p, 1 ≤ p ∧ p ≤ n ∧ itr (ent l) p x = x := by
  refine Classical.byContradiction fun hn => ?_
  have ne : ∀ i j, i < j → j ≤ n → itr (ent l) i x ≠ itr (ent l) j x := fun i j hij hj e => by
    refine hn ⟨j - i, by omega, by omega, ?_⟩
    have e2 : itr (ent l) j x = itr (ent l) i (itr (ent l) (j - i) x) := by
      rw [← itr_add]
      congr 1
      omega
    rw [e2] at e
    exact (itr_inj h hx (itr_lt h hx _) i e).symm
  have nd : ((List.range (n + 1)).map fun k => ((itr (ent l) k x : Nat) : Int)).Nodup := by
    refine List.pairwise_iff_getElem.mpr fun i j hi hj hij e => ?_
    rw [List.length_map, List.length_range] at hi hj
    rw [List.getElem_map, List.getElem_map, List.getElem_range, List.getElem_range] at e
    exact ne i j hij (by omega) (by omega)
  have sub : ∀ y ∈ (List.range (n + 1)).map (fun k => ((itr (ent l) k x : Nat) : Int)), y ∈ iota n := fun y hy => by
    obtain ⟨k, _, rfl⟩ := List.mem_map.mp hy
    exact List.mem_map.mpr ⟨_, List.mem_range.mpr (itr_lt h hx k), rfl⟩
  have := len_sub nd sub
  rw [List.length_map, List.length_range, iota_len] at this
  omega
/-- zs is the ring that begins with x -/
structure Ring (n : Nat) (l : List Int) (x p : Nat) (zs : List Int) : Prop where
  eq : zs = (List.range p).map fun k => ((itr (ent l) k x : Nat) : Int)
  hx : x < n
  p1 : 1 ≤ p
  pn : p ≤ n
  back : itr (ent l) p x = x
  not : ∀ k, 0 < k → k < p → itr (ent l) k x ≠ x
theorem Ring.len {x p : Nat} {zs : List Int} (r : Ring n l x p zs) : zs.length = p := by rw [r.eq, List.length_map, List.length_range]
theorem Ring.at {x p : Nat} {zs : List Int} (r : Ring n l x p zs) {k : Nat} (hk : k < p) : zs[k]? = some ((itr (ent l) k x : Nat) : Int) := by rw [r.eq, List.getElem?_map, List.getElem?_range hk]; rfl
theorem Ring.nod (h : isT n l) {x p : Nat} {zs : List Int} (r : Ring n l x p zs) : zs.Nodup := by
  rw [r.eq]
  refine List.pairwise_iff_getElem.mpr fun i j hi hj hij e => ?_
  rw [List.length_map, List.length_range] at hi hj
  rw [List.getElem_map, List.getElem_map, List.getElem_range, List.getElem_range] at e
  have e1 : itr (ent l) i x = itr (ent l) j x := by omega
  have e2 : itr (ent l) j x = itr (ent l) i (itr (ent l) (j - i) x) := by
    rw [← itr_add]
    congr 1
    omega
  rw [e2] at e1
  exact r.not (j - i) (by omega) (by omega) (itr_inj h r.hx (itr_lt h r.hx _) i e1).symm
theorem Ring.inn (h : isT n l) {x p : Nat} {zs : List Int} (r : Ring n l x p zs) : ∀ z ∈ zs, 0 ≤ z ∧ z < (n : Int) := fun z hz => by
  rw [r.eq] at hz
  obtain ⟨k, _, rfl⟩ := List.mem_map.mp hz
  have := itr_lt h r.hx k
  omega
theorem Ring.mem {x p : Nat} {zs : List Int} (r : Ring n l x p zs) (k : Nat) : ((itr (ent l) k x : Nat) : Int) ∈ zs := by
  have e : itr (ent l) k x = itr (ent l) (k % p) x := by
    have h1 : k = k % p + (k / p) * p := by rw [Nat.mul_comm, Nat.mod_add_div]
    have h2 : itr (ent l) k x = itr (ent l) (k % p + (k / p) * p) x := by rw [← h1]
    rw [h2, itr_add, itr_mul r.back]
  rw [e, r.eq]
  exact List.mem_map.mpr ⟨k % p, List.mem_range.mpr (Nat.mod_lt _ r.p1), rfl⟩
theorem Ring.head {x p : Nat} {zs : List Int} (r : Ring n l x p zs) : zs[0]? = some (x : Int) := r.at r.p1
/-- each thing is led to the next one, the last to the first -/
theorem Ring.step {x p : Nat} {zs : List Int} (r : Ring n l x p zs) {k : Nat} (hk : k < zs.length) : (ent l (zs.getD k 0).toNat : Int) = zs.getD ((k + 1) % zs.length) 0 := by
  rw [r.len] at hk ⊢
  have e1 : zs.getD k 0 = ((itr (ent l) k x : Nat) : Int) := by rw [List.getD_eq_getElem?_getD, r.at hk]; rfl
  rw [e1, Int.toNat_natCast]
  show ((itr (ent l) (k + 1) x : Nat) : Int) = _
  by_cases h : k + 1 < p
  · rw [Nat.mod_eq_of_lt h, List.getD_eq_getElem?_getD, r.at h]
    rfl
  · have e2 : k + 1 = p := by omega
    rw [e2, r.back, Nat.mod_self, List.getD_eq_getElem?_getD, r.head]
    rfl
/-! ### all rings -/
structure Rings (n : Nat) (l : List Int) (i : Nat) (zss : List (List Int)) : Prop where
  ring : ∀ zs ∈ zss, ∃ x p, Ring n l x p zs ∧ x < i ∧ ∀ z ∈ zs, (x : Int) ≤ z
  nod : zss.flatten.Nodup
  all : ∀ x, x < i → (x : Int) ∈ zss.flatten
  inc : zss.Pairwise fun a b => a.headD 0 < b.headD 0
theorem rings_nil : Rings n l 0 [] := ⟨fun _ h => (by cases h), List.nodup_nil, fun _ h => absurd h (Nat.not_lt_zero _), .nil⟩
theorem rings_skip {i : Nat} {zss : List (List Int)} (R : Rings n l i zss) (h : (i : Int) ∈ zss.flatten) : Rings n l (i + 1) zss :=
  ⟨fun zs hz => let ⟨x, p, h1, h2, h3⟩ := R.ring zs hz; ⟨x, p, h1, by omega, h3⟩, R.nod, fun x hx => by
    by_cases e : x = i
    · rw [e]; exact h
    · exact R.all x (by omega), R.inc⟩
theorem rings_fwd (ht : isT n l) {i : Nat} {zss : List (List Int)} (R : Rings n l i zss) {x : Nat} (h : (x : Int) ∈ zss.flatten) : ∀ k, ((itr (ent l) k x : Nat) : Int) ∈ zss.flatten := fun k => by
  obtain ⟨zs, hz, hx⟩ := List.mem_flatten.mp h
  obtain ⟨y, p, r, _⟩ := R.ring zs hz
  have hx2 := hx
  rw [r.eq] at hx2
  obtain ⟨j, _, e⟩ := List.mem_map.mp hx2
  have e2 : itr (ent l) j y = x := by omega
  rw [← e2, ← itr_add]
  exact List.mem_flatten.mpr ⟨zs, hz, r.mem _⟩
theorem rings_snoc (ht : isT n l) {i p : Nat} {zss : List (List Int)} {zs : List Int} (R : Rings n l i zss) (r : Ring n l i p zs) (h : (i : Int) ∉ zss.flatten) : Rings n l (i + 1) (zss ++ [zs]) := by
  have out : ∀ z ∈ zs, z ∉ zss.flatten := fun z hz hm => by
    rw [r.eq] at hz
    obtain ⟨j, hj, rfl⟩ := List.mem_map.mp hz
    have hj2 := List.mem_range.mp hj
    apply h
    have := rings_fwd ht R hm (p - j)
    rw [← itr_add] at this
    have e : p - j + j = p := by omega
    rw [e, r.back] at this
    exact this
  have ge : ∀ z ∈ zs, (i : Int) ≤ z := fun z hz => by
    have h1 := r.inn ht z hz
    refine Classical.byContradiction fun hn => out z hz ?_
    have := R.all z.toNat (by omega)
    rwa [Int.toNat_of_nonneg h1.1] at this
  refine ⟨fun ys hy => ?_, ?_, fun x hx => ?_, ?_⟩
  · rcases List.mem_append.mp hy with hy | hy
    · obtain ⟨x, q, h1, h2, h3⟩ := R.ring ys hy
      exact ⟨x, q, h1, by omega, h3⟩
    · rw [List.mem_singleton.mp hy]
      exact ⟨i, p, r, by omega, ge⟩
  · rw [List.flatten_append, List.nodup_append]
    refine ⟨R.nod, by simpa using r.nod ht, fun a ha b hb e => ?_⟩
    have hb2 : b ∈ zs := by simpa using hb
    exact out b hb2 (e ▸ ha)
  · rw [List.flatten_append, List.mem_append]
    by_cases e : x = i
    · refine .inr ?_
      rw [e]
      have : (i : Int) ∈ zs := r.mem 0
      simpa using this
    · exact .inl (R.all x (by omega))
  · rw [List.pairwise_append]
    refine ⟨R.inc, List.pairwise_singleton .., fun a ha b hb => ?_⟩
    rw [List.mem_singleton.mp hb]
    obtain ⟨x, q, h1, h2, _⟩ := R.ring a ha
    have e1 : a.headD 0 = (x : Int) := by rw [List.headD_eq_head?_getD, List.head?_eq_getElem?, h1.head]; rfl
    have e2 : zs.headD 0 = (i : Int) := by rw [List.headD_eq_head?_getD, List.head?_eq_getElem?, r.head]; rfl
    omega
theorem rings_perm (ht : isT n l) {zss : List (List Int)} (R : Rings n l n zss) : zss.flatten.Perm (iota n) := by
  refine (List.perm_ext_iff_of_nodup R.nod (iota_nod n)).mpr fun z => ⟨fun h => ?_, fun h => ?_⟩
  · obtain ⟨zs, hz, hx⟩ := List.mem_flatten.mp h
    obtain ⟨y, p, r, _⟩ := R.ring zs hz
    have := r.inn ht z hx
    exact List.mem_map.mpr ⟨z.toNat, List.mem_range.mpr (by omega), by omega⟩
  · obtain ⟨i, hi, rfl⟩ := List.mem_map.mp h
    exact R.all i (List.mem_range.mp hi)
/-! ### how often -/
def lpow (l : List Int) : Nat → List Int
  | 0 => l
  | k + 1 => thenI (lpow l k) l
theorem lpow_T (h : isT n l) : ∀ k, isT n (lpow l k)
  | 0 => h
  | k + 1 => isT_then (lpow_T h k) h
theorem lpow_ent (h : isT n l) {x : Nat} (hx : x < n) : ∀ k, ent (lpow l k) x = itr (ent l) (k + 1) x
  | 0 => rfl
  | k + 1 => by
    show ent (thenI (lpow l k) l) x = _
    rw [ent_then (by rw [(lpow_T h k).len]; exact hx), lpow_ent h hx k]
    rfl
/-- done m + 1 times all is where it was, and not ahead of that -/
structure Least (n : Nat) (l : List Int) (m : Nat) : Prop where
  yes : lpow l m = iota n
  no : ∀ k, k < m → lpow l k ≠ iota n
theorem least_uniq {a b : Nat} (ha : Least n l a) (hb : Least n l b) : a = b := by
  rcases Nat.lt_trichotomy a b with h | h | h
  · exact absurd ha.yes (hb.no a h)
  · exact h
  · exact absurd hb.yes (ha.no b h)
theorem order (h : isT n l) (hn : n ≤ 7) : ∀ k, k ≤ n → ∃ N, 1 ≤ N ∧ N ≤ 7 ^ k ∧ ∀ x, x < k → itr (ent l) N x = x
  | 0, _ => ⟨1, Nat.le_refl _, Nat.le_refl _, fun x hx => absurd hx (Nat.not_lt_zero x)⟩
  | k + 1, hk => by
    obtain ⟨N, h1, h2, h3⟩ := order h hn k (by omega)
    obtain ⟨p, h4, h5, h6⟩ := period h (x := k) (by omega)
    refine ⟨N * p, Nat.mul_pos h1 h4, ?_, fun x hx => ?_⟩
    · rw [Nat.pow_succ]
      exact Nat.mul_le_mul h2 (by omega)
    · by_cases e : x = k
      · rw [e]
        exact itr_mul h6 N
      · rw [Nat.mul_comm]
        exact itr_mul (h3 x (by omega)) p
theorem comes_back (h : isT n l) (hn : n ≤ 7) : ∃ N, N ≤ 1000000 ∧ lpow l N = iota n := by
  obtain ⟨N, h1, h2, h3⟩ := order h hn n (Nat.le_refl _)
  refine ⟨N - 1, ?_, ?_⟩
  · have : 7 ^ n ≤ 7 ^ 7 := Nat.pow_le_pow_right (by decide) hn
    have e : 7 ^ 7 = 823543 := by decide
    omega
  · refine ext_ent (lpow_T h _).len (iota_len n) (lpow_T h _).ran (iota_in n) fun i hi => ?_
    rw [lpow_ent h hi, ent_iota hi]
    have e : N - 1 + 1 = N := by omega
    rw [e]
    exact h3 i hi
end
/-! ### rings that are laid make the turn -/
def Closed (l : List Int) (zs : List Int) : Prop := ∀ k, k < zs.length → (ent l (zs.getD k 0).toNat : Int) = zs.getD ((k + 1) % zs.length) 0
structure Laid (n : Nat) (l : List Int) (zss : List (List Int)) : Prop where
  ne : ∀ zs ∈ zss, 1 ≤ zs.length
  cl : ∀ zs ∈ zss, Closed l zs
  nod : zss.flatten.Nodup
  ran : ∀ z ∈ zss.flatten, 0 ≤ z ∧ z < (n : Int)
theorem setP_get : ∀ (ps : List (Int × Int)) (t : List Int) (i : Nat), (∀ p ∈ ps, p.1.toNat ≠ i) → (setP t ps).getD i 0 = t.getD i 0
  | [], t, i, _ => rfl
  | p :: ps, t, i, h => by
    show (setP (t.set p.1.toNat p.2) ps).getD i 0 = _
    rw [setP_get ps _ i fun q hq => h q (List.mem_cons_of_mem _ hq), List.getD_eq_getElem?_getD, List.getElem?_set_ne (h p List.mem_cons_self), ← List.getD_eq_getElem?_getD]
theorem setP_at : ∀ (ps : List (Int × Int)) (t : List Int) (p : Int × Int), p ∈ ps → (ps.map (·.1.toNat)).Nodup → p.1.toNat < t.length → (setP t ps).getD p.1.toNat 0 = p.2
  | q :: ps, t, p, hp, nd, hl => by
    rw [List.map_cons, List.nodup_cons] at nd
    show (setP (t.set q.1.toNat q.2) ps).getD p.1.toNat 0 = _
    rcases List.mem_cons.mp hp with rfl | hp
    · rw [setP_get ps _ _ fun r hr e => nd.1 (List.mem_map.mpr ⟨r, hr, e⟩), List.getD_eq_getElem?_getD, List.getElem?_set_self hl]
      rfl
    · exact setP_at ps _ p hp nd.2 (by rw [List.length_set]; exact hl)
theorem setR_out {t zs : List Int} {i : Nat} (h : ∀ z ∈ zs, z.toNat ≠ i) : (setR t zs).getD i 0 = t.getD i 0 := setP_get _ _ _ fun p hp => h _ (List.of_mem_zip (show (p.1, p.2) ∈ _ from hp)).1
theorem setR_in {n : Nat} {l t zs : List Int} (hl : t.length = n) (hr : ∀ z ∈ zs, 0 ≤ z ∧ z < (n : Int)) (nd : zs.Nodup) (hc : Closed l zs) {z : Int} (hz : z ∈ zs) : (setR t zs).getD z.toNat 0 = (ent l z.toNat : Int) := by
  obtain ⟨k, hk, e⟩ := List.getElem_of_mem hz
  have hk2 : k < (rotL zs).length := by rw [rotL_len]; exact hk
  have hp : (z, (rotL zs).getD k 0) ∈ zs.zip (rotL zs) := by
    have h1 : (zs.zip (rotL zs))[k]'(by rw [List.length_zip, rotL_len]; omega) = (zs[k], (rotL zs)[k]) := List.getElem_zip ..
    have h2 : (rotL zs).getD k 0 = (rotL zs)[k] := by rw [List.getD_eq_getElem?_getD, List.getElem?_eq_getElem hk2]; rfl
    rw [h2, ← e, ← h1]
    exact List.getElem_mem _
  have hz2 := hr z hz
  have := setP_at (zs.zip (rotL zs)) t _ hp ?_ (by show z.toNat < t.length; omega)
  · refine this.trans ?_
    show (rotL zs).getD k 0 = _
    rw [rot_at hk, ← hc k hk, List.getD_eq_getElem?_getD, List.getElem?_eq_getElem hk, e]
    rfl
  · have e3 : (zs.zip (rotL zs)).map (·.1.toNat) = zs.map Int.toNat := by
      have h4 : (zs.zip (rotL zs)).map Prod.fst = zs := List.map_fst_zip (by rw [rotL_len]; exact Nat.le_refl _)
      rw [show (fun p : Int × Int => p.1.toNat) = Int.toNat ∘ Prod.fst from rfl, ← List.map_map, h4]
    rw [e3]
    refine List.pairwise_iff_getElem.mpr fun i j hi hj hij q => ?_
    rw [List.length_map] at hi hj
    rw [List.getElem_map, List.getElem_map] at q
    have h5 := hr _ (List.getElem_mem hi)
    have h6 := hr _ (List.getElem_mem hj)
    exact List.pairwise_iff_getElem.mp nd i j hi hj hij (by omega)
theorem ring_ok {n : Nat} {fb : List Bool} {zs met : List Int} (hl : fb.length = n) (hf : FreeOf fb met) (h1 : 1 ≤ zs.length) (hr : ∀ z ∈ zs, 0 ≤ z ∧ z < (n : Int)) (nd : zs.Nodup) (hm : ∀ z ∈ zs, z ∉ met) : ringB fb (zs.map .int) = true := by
  have em : (zs.map PyData.int).map itD = zs := by
    rw [List.map_map]
    exact List.map_id zs
  unfold ringB
  rw [em, Bool.and_eq_true, Bool.and_eq_true, Bool.and_eq_true]
  refine ⟨?_, List.all_eq_true.mpr fun d hd => ?_, List.all_eq_true.mpr fun d hd => ?_, decide_eq_true nd⟩
  · cases zs with
    | nil => exact absurd h1 (by decide)
    | cons _ _ => rfl
  · obtain ⟨z, hz, rfl⟩ := List.mem_map.mp hd
    have := hr z hz
    show (decide (0 ≤ z) && decide (z < (fb.length : Int))) = true
    rw [Bool.and_eq_true, decide_eq_true_iff, decide_eq_true_iff]
    omega
  · obtain ⟨z, hz, rfl⟩ := List.mem_map.mp hd
    have := hr z hz
    show fb.getD z.toNat false = true
    rw [hf z this.1 (by omega), decide_eq_false (hm z hz)]
    rfl
theorem walk_laid {n : Nat} {l : List Int} : ∀ (zss : List (List Int)) (fb : List Bool) (tl met : List Int) (k : Nat), fb.length = n → tl.length = n → FreeOf fb met → Laid n l zss → (∀ z ∈ zss.flatten, z ∉ met) → ∃ tl', walkT fb tl k (zss.map fun zs => zs.map .int) = .inr tl' ∧ tl'.length = n ∧
    (∀ z ∈ zss.flatten, tl'.getD z.toNat 0 = (ent l z.toNat : Int)) ∧ ∀ i : Nat, ((i : Nat) : Int) ∉ zss.flatten → tl'.getD i 0 = tl.getD i 0
  | [], fb, tl, met, k, _, h2, _, _, _ => ⟨tl, rfl, h2, fun z hz => (by cases hz), fun _ _ => rfl⟩
  | zs :: r, fb, tl, met, k, h1, h2, hf, L, hm => by
    have em : (zs.map PyData.int).map itD = zs := by
      rw [List.map_map]
      exact List.map_id zs
    have nd := L.nod
    rw [List.flatten_cons, List.nodup_append] at nd
    have hr1 : ∀ z ∈ zs, 0 ≤ z ∧ z < (n : Int) := fun z hz => L.ran z (by rw [List.flatten_cons]; exact List.mem_append_left _ hz)
    have hb := ring_ok h1 hf (L.ne zs List.mem_cons_self) hr1 nd.1 fun z hz => hm z (by rw [List.flatten_cons]; exact List.mem_append_left _ hz)
    have L2 : Laid n l r := ⟨fun y hy => L.ne y (List.mem_cons_of_mem _ hy), fun y hy => L.cl y (List.mem_cons_of_mem _ hy), nd.2.1, fun z hz => L.ran z (by rw [List.flatten_cons]; exact List.mem_append_right _ hz)⟩
    have hf2 := free_step (fb := fb) (zs := zs) (met := met) (fun z hz => by rw [h1]; exact hr1 z hz) hf
    obtain ⟨tl', g1, g2, g3, g4⟩ := walk_laid r (freeR fb zs) (setR tl zs) (met ++ zs) (k + 1) (by rw [freeR_len]; exact h1) (by unfold setR; rw [setP_len]; exact h2) hf2 L2 fun z hz hmm => by
      rcases List.mem_append.mp hmm with q | q
      · exact hm z (by rw [List.flatten_cons]; exact List.mem_append_right _ hz) q
      · exact nd.2.2 z q z hz rfl
    refine ⟨tl', ?_, g2, fun z hz => ?_, fun i hi => ?_⟩
    · show (if ringB fb (zs.map .int) = true then walkT (freeR fb ((zs.map PyData.int).map itD)) (setR tl ((zs.map PyData.int).map itD)) (k + 1) (r.map fun zs => zs.map .int) else .inl k) = _
      rw [if_pos hb, em]
      exact g1
    · rw [List.flatten_cons] at hz
      rcases List.mem_append.mp hz with q | q
      · have hq := hr1 z q
        rw [g4 z.toNat (by rw [Int.toNat_of_nonneg hq.1]; exact fun w => nd.2.2 z q z w rfl)]
        exact setR_in h2 hr1 nd.1 (L.cl zs List.mem_cons_self) q
      · exact g3 z q
    · rw [List.flatten_cons, List.mem_append, not_or] at hi
      rw [g4 i hi.2]
      refine setR_out fun z hz e => hi.1 ?_
      have := hr1 z hz
      have e2 : z = (i : Int) := by omega
      rw [← e2]
      exact hz
/-- the turn comes of its rings; those of one thing may be left out -/
theorem laid_turn {n : Nat} {l : List Int} {zss : List (List Int)} (h : isT n l) (L : Laid n l zss) (hs : ∀ i, i < n → ((i : Nat) : Int) ∉ zss.flatten → ent l i = i) : walkT (List.replicate n true) (iota n) 0 (zss.map fun zs => zs.map .int) = .inr l := by
  obtain ⟨tl, g1, g2, g3, g4⟩ := walk_laid zss (List.replicate n true) (iota n) [] 0 (List.length_replicate) (iota_len n) (free0 n) L fun z _ hz => by cases hz
  rw [g1]
  congr 1
  refine List.ext_getElem (by rw [g2, h.len]) fun i h1 h2 => ?_
  have e1 : tl.getD i 0 = tl[i] := getD_ge h1
  have e2 : l.getD i 0 = l[i] := getD_ge h2
  rw [← e1, ← e2, ent_int h.ran h2]
  have hi : i < n := by omega
  by_cases hm : ((i : Nat) : Int) ∈ zss.flatten
  · have := g3 _ hm
    rw [Int.toNat_natCast] at this
    exact this
  · rw [g4 i hm, hs i hi hm]
    unfold iota
    rw [List.getD_eq_getElem?_getD, List.getElem?_map, List.getElem?_range hi]
    rfl
theorem rings_laid {n : Nat} {l : List Int} {zss : List (List Int)} (h : isT n l) (R : Rings n l n zss) : Laid n l zss := by
  refine ⟨fun zs hz => ?_, fun zs hz => ?_, R.nod, fun z hz => ?_⟩
  · obtain ⟨x, p, r, _⟩ := R.ring zs hz
    rw [r.len]
    exact r.p1
  · obtain ⟨x, p, r, _⟩ := R.ring zs hz
    exact fun k hk => r.step hk
  · obtain ⟨zs, hz, hx⟩ := List.mem_flatten.mp hz
    obtain ⟨x, p, r, _⟩ := R.ring zs hz
    exact r.inn h z hx
/-- a ring begun elsewhere -/
theorem closed_rot {l zs : List Int} {k : Nat} (hk : k < zs.length) (h : Closed l zs) : Closed l (zs.drop k ++ zs.take k) := by
  have hl : (zs.drop k ++ zs.take k).length = zs.length := by
    rw [List.length_append, List.length_drop, List.length_take]
    omega
  have at_ : ∀ j, j < zs.length → (zs.drop k ++ zs.take k).getD j 0 = zs.getD ((k + j) % zs.length) 0 := fun j hj => by
    rw [List.getD_eq_getElem?_getD, List.getD_eq_getElem?_getD]
    by_cases h1 : k + j < zs.length
    · rw [Nat.mod_eq_of_lt h1, List.getElem?_append_left (by rw [List.length_drop]; omega), List.getElem?_drop]
    · have e : (k + j) % zs.length = k + j - zs.length := by
        rw [Nat.mod_eq_sub_mod (by omega), Nat.mod_eq_of_lt (by omega)]
      rw [e, List.getElem?_append_right (by rw [List.length_drop]; omega), List.length_drop, List.getElem?_take, if_pos (by omega)]
      congr 2
      omega
  intro j hj
  rw [hl] at hj ⊢
  have hm : (k + j) % zs.length < zs.length := Nat.mod_lt _ (by omega)
  rw [at_ j hj, at_ _ (Nat.mod_lt _ (by omega)), h _ hm]
  congr 1
  rw [Nat.mod_add_mod, Nat.add_mod_mod, Nat.add_assoc]
end HM
namespace HM
open PySem PySem.Spec PyProof.Rows L2
theorem eqvAll_ints : ∀ (xs ys : List Int), PyData.eqvAll (xs.map .int) (ys.map .int) = decide (xs = ys)
  | [], [] => by simp [PyData.eqvAll]
  | [], y :: ys => by simp [PyData.eqvAll]
  | x :: xs, [] => by simp [PyData.eqvAll]
  | x :: xs, y :: ys => by
    rw [List.map_cons, List.map_cons]
    show (PyData.eqv (.int x) (.int y) && PyData.eqvAll (xs.map .int) (ys.map .int)) = _
    rw [eqvAll_ints xs ys, Bool.eq_iff_iff, Bool.and_eq_true, decide_eq_true_iff, decide_eq_true_iff, List.cons.injEq]
    have e : PyData.eqv (.int x) (.int y) = (x == y) := by simp [PyData.eqv]
    rw [e, beq_iff_eq]
theorem eqv_tu (xs ys : List Int) : PyData.eqv (dTu xs) (dTu ys) = decide (xs = ys) := eqvAll_ints xs ys
theorem eqv_li (xs ys : List Int) : PyData.eqv (.list (xs.map .int)) (.list (ys.map .int)) = decide (xs = ys) := eqvAll_ints xs ys
theorem isT_in100 {n : Nat} {zs : List Int} (h : isT n zs) (hn : n ≤ 7) : in100 zs := fun z hz => by
  have := h.ran z hz
  omega
/-- a list of ints, not at T -/
def RLs (H : Hp) (T : Addr) (v : V) (zs : List Int) : Prop := ∃ b : Addr, v = .ref b ∧ b ≠ T ∧ H b = some (.lst (zs.map V.int))
end HM
namespace HM
open PySem PySem.Spec PyProof.Rows L2
/-- a list of one to b lists of small things -/
def LB (K : PySem.W.Frag) (H : Hp) (b : Nat) (v : V) : Prop := ∃ (a : Addr) (us : List V) (dss : List (List PyData)), v = .ref a ∧ H a = some (.lst us) ∧ Paired (Rg K H) us dss ∧ RB b dss
/-- a list that may be asked about -/
def LR (K : PySem.W.Frag) (H : Hp) (v : V) : Prop := ∃ (a : Addr) (us : List V) (dss : List (List PyData)), v = .ref a ∧ SqL K H a us ∧ Paired (Rg K H) us dss ∧ RS dss
theorem LB.lr {K : PySem.W.Frag} {H : Hp} {b : Nat} {v : V} (h : LB K H b v) (hb : b ≤ 20) : LR K H v := by
  obtain ⟨a, us, dss, rfl, h1, h2, h3⟩ := h
  exact ⟨a, us, dss, rfl, .inl (.inl h1), h2, Nat.le_trans h3.2.1 hb, fun ds hds => ⟨Nat.le_trans (h3.2.2 ds hds).1 hb, (h3.2.2 ds hds).2⟩⟩
theorem LB.up {K : PySem.W.Frag} {H H' : Hp} {b : Nat} {v : V} (h : LB K H b v) (u : UpN H H') : LB K H' b v := by
  obtain ⟨a, us, dss, rfl, h1, h2, h3⟩ := h
  exact ⟨a, us, dss, rfl, u _ _ h1 (fun q z => by cases z), rgs_up u h2, h3⟩
theorem LR.up {K : PySem.W.Frag} {H H' : Hp} {v : V} (h : LR K H v) (u : UpN H H') : LR K H' v := by
  obtain ⟨a, us, dss, rfl, h1, h2, h3⟩ := h
  exact ⟨a, us, dss, rfl, sqL_up h1 u, rgs_up u h2, h3⟩
theorem rg_p {K : PySem.W.Frag} {H H' : Hp} {p : Addr} (hp : noPen p H) (u : UpP p H H') {v : V} {ds : List PyData} (h : Rg K H v ds) : Rg K H' v ds := by
  obtain ⟨a, xs, rfl, h1, h2, h3⟩ := h
  exact ⟨a, xs, rfl, sqL_p hp u h1, dps_p hp u h2, h3⟩
theorem LB.kept {K : PySem.W.Frag} {H H' : Hp} {b : Nat} {v : V} {p : Addr} {t : Int} (h : LB K H b v) (hp : isPen K H p t) (k : Kept p H H') : LB K H' b v := by
  obtain ⟨a, us, dss, rfl, h1, h2, h3⟩ := h
  exact ⟨a, us, dss, rfl, lst_p hp.noPen k.upP h1, paired_mono (fun x y g => rg_p hp.noPen k.upP g) h2, h3⟩
theorem LR.kept {K : PySem.W.Frag} {H H' : Hp} {v : V} {p : Addr} {t : Int} (h : LR K H v) (hp : isPen K H p t) (k : Kept p H H') : LR K H' v := by
  obtain ⟨a, us, dss, rfl, h1, h2, h3⟩ := h
  exact ⟨a, us, dss, rfl, sqL_p hp.noPen k.upP h1, paired_mono (fun x y g => rg_p hp.noPen k.upP g) h2, h3⟩
theorem add_rd {i j n : Int} {H : Hp} {Q : VK} (e : i + j = n) (q : Q (.int n) H) : rI0 (fun i j => V.int (i + j)) (.int i) (.int j) H Q := ⟨i, j, rfl, rfl, by show Q (V.int (i + j)) H; rw [e]; exact q⟩
theorem paired_rev {α β : Type} {R : α → β → Prop} : ∀ {xs : List α} {ys : List β}, Paired R xs ys → Paired R xs.reverse ys.reverse
  | _, _, .nil => .nil
  | _, _, .cons h t => by
    rw [List.reverse_cons, List.reverse_cons]
    exact paired_snoc h (paired_rev t)
end HM
namespace HM
open PySem PySem.Spec PyProof.Rows L2
theorem peW {X : Cx} {e : Expr} {t u : TE} (h : PE X e t) (k : ∀ σ H Q, u σ H Q → t σ H Q) : PE X e u := ⟨fun pins s σ H Q I q => h.run pins s σ H Q I (k σ H Q q)⟩
theorem fnW {P : Program} {w : World} {K : PySem.W.Frag} {mg : Str → Option Value} {base : Heap} {CX : CXT} {k : Nat} {f : Addr} {fd : FuncData} {ps : List Str} {sp sp' : Sp} (G : FnOk P w K mg base CX k f fd ps sp) (h : ∀ vs H Q E, sp' vs H Q E → sp vs H Q E) : FnOk P w K mg base CX k f fd ps sp' :=
  ⟨fun vs H Q E q => G.len vs H Q E (h _ _ _ _ q), fun A out s H args us vs Q E hr e0 hb r q => G.run A out s H args us vs Q E hr e0 hb r (h _ _ _ _ q)⟩
/-- a def that keeps sp, as a value -/
def FnV (P : Program) (w : World) (K : PySem.W.Frag) (mg : Str → Option Value) (base : Heap) (CX : CXT) (k : Nat) (sp : Sp) (v : V) : Prop := ∃ (f : Addr) (fd : FuncData) (ps : List Str), v = .ref f ∧ FnOk P w K mg base CX k f fd ps sp ∧ PySem.W.keepIn K (.ref f) = true ∧ Binds K fd ps []
/-- f(e, ..), f any expression -/
def tCallF (Pf : V → Prop) (sp : Sp) (E : XK) (tf : TE) (t : TA) : TE := fun σ H Q => tf σ H fun v H1 => Pf v ∧ t σ H1 fun vs H2 => sp vs H2 Q E
theorem pe_callF {X : Cx} {CX : CXT} {k : Nat} {sp : Sp} {E : XK} {fe e : Expr} {es : List Expr} {tf : TE} {t : TA} {pos : Pos} (hr : Room k X.A) (hx : Passes CX X E) (hf : PE X fe tf) (ha : PA X (e :: es) t)
    (he : starEach (e :: es) X.env = (false, eval e X.env) :: starEach es X.env := by rfl) (hpl : (backTo pos (starEach es X.env)).any (·.1) = false := by rfl)
    (hc : eval (.Call fe (e :: es) [] pos) X.env = (do callWith pos (← eval fe X.env) [] (backTo pos (starEach (e :: es) X.env)) (backToKw pos (keywordEach [] X.env))) := by rfl) : PE X (.Call fe (e :: es) [] pos) (tCallF (FnV X.prog X.w X.K X.mg X.base CX k sp) sp E tf t) := by
  refine ⟨fun pins s σ H Q I h => ?_⟩
  refine Call_ (thn (hf.run pins s σ H _ I h) fun fv s0 hx0 => ?_) hc
  obtain ⟨v, H0, I0, r0, ⟨f, fd, ps, rfl, G, hk, hb⟩, q0⟩ := hx0
  obtain rfl : fv = Value.ref f := r0
  refine PySem.W.callWith_K (h₀ := X.base) I0.ok.mod.kin hk (thn (ha.run pos pins s0 σ H0 _ I0 q0) fun us s1 hus => ?_) he hpl
  obtain ⟨vs, H1, I1, r, q⟩ := hus
  refine ⟨I1.kIn, ?_⟩
  have hl : us.length = ps.length := by rw [← r.length]; exact G.len _ _ _ _ q
  have hbs := hb s1 us I1.kIn (by rw [List.append_nil]; exact hl)
  rw [List.append_nil] at hbs
  refine wpAny_call (codeAny_mono (G.run X.A X.stack s1 H1 ⟨us, []⟩ us vs Q E hr I1.env0 hbs r q) fun r s' hq => ?_)
  match r, hq with
  | .error e, hq => exact hx pins σ H1 s1 e s' I1 hq
  | .ok (.ret u), hq => exact I1.after hq
  | .ok .next, hq => exact hq.elim
  | .ok .brk, hq => exact hq.elim
  | .ok .cont, hq => exact hq.elim
theorem rot_perm (zs : List Int) : (rotL zs).Perm zs := by
  unfold rotL
  refine List.perm_append_comm.trans ?_
  rw [List.take_append_drop]
theorem setR_map {n : Nat} {t zs : List Int} (hl : t.length = n) (hr : ∀ z ∈ zs, 0 ≤ z ∧ z < (n : Int)) (nd : zs.Nodup) : zs.map (fun z => (setR t zs).getD z.toNat 0) = rotL zs := by
  refine List.ext_getElem (by rw [List.length_map, rotL_len]) fun k h1 h2 => ?_
  rw [List.length_map] at h1
  rw [List.getElem_map]
  have hp : (zs[k], (rotL zs)[k]) ∈ zs.zip (rotL zs) := by
    have h3 : (zs.zip (rotL zs))[k]'(by rw [List.length_zip, rotL_len]; omega) = (zs[k], (rotL zs)[k]) := List.getElem_zip ..
    rw [← h3]
    exact List.getElem_mem _
  have hz2 := hr _ (List.getElem_mem h1)
  refine setP_at (zs.zip (rotL zs)) t _ hp ?_ (by show zs[k].toNat < t.length; omega)
  have e3 : (zs.zip (rotL zs)).map (·.1.toNat) = zs.map Int.toNat := by
    have h4 : (zs.zip (rotL zs)).map Prod.fst = zs := List.map_fst_zip (by rw [rotL_len]; exact Nat.le_refl _)
    rw [show (fun p : Int × Int => p.1.toNat) = Int.toNat ∘ Prod.fst from rfl, ← List.map_map, h4]
  rw [e3]
  refine List.pairwise_iff_getElem.mpr fun i j hi hj hij q => ?_
  rw [List.length_map] at hi hj
  rw [List.getElem_map, List.getElem_map] at q
  have h5 := hr _ (List.getElem_mem hi)
  have h6 := hr _ (List.getElem_mem hj)
  exact List.pairwise_iff_getElem.mp nd i j hi hj hij (by omega)
theorem laid_step {n : Nat} {fl done r : List Int} (hl : fl.length = n) (hr : ∀ z ∈ done ++ r, 0 ≤ z ∧ z < (n : Int)) (nd : (done ++ r).Nodup) (h : (done.map fun z => fl.getD z.toNat 0).Perm done) : ((done ++ r).map fun z => (setR fl r).getD z.toNat 0).Perm (done ++ r) := by
  rw [List.nodup_append] at nd
  rw [List.map_append, setR_map hl (fun z hz => hr z (List.mem_append_right _ hz)) nd.2.1]
  refine List.Perm.append ?_ (rot_perm r)
  have e : done.map (fun z => (setR fl r).getD z.toNat 0) = done.map fun z => fl.getD z.toNat 0 := by
    refine List.map_congr_left fun z hz => setR_out fun y hy q => ?_
    have h1 := hr z (List.mem_append_left _ hz)
    have h2 := hr y (List.mem_append_right _ hy)
    exact nd.2.2 z hz y hy (by omega)
  rw [e]
  exact h
theorem laid_end {n : Nat} {fl done : List Int} (hl : fl.length = n) (hd : done.Perm (iota n)) (h : (done.map fun z => fl.getD z.toNat 0).Perm done) : fl.Perm (iota n) := by
  have e : (iota n).map (fun z => fl.getD z.toNat 0) = fl := by
    unfold iota
    rw [List.map_map]
    refine List.ext_getElem (by rw [List.length_map, List.length_range, hl]) fun i h1 h2 => ?_
    rw [List.getElem_map, List.getElem_range]
    show fl.getD ((i : Nat) : Int).toNat 0 = fl[i]
    rw [Int.toNat_natCast, getD_ge h2]
  have h2 := hd.map fun z => fl.getD z.toNat 0
  rw [e] at h2
  exact h2.symm.trans (h.trans hd)
theorem rep_flat (n : Nat) : (List.replicate n [V.int 0]).flatten = (List.replicate n (0 : Int)).map V.int := by
  induction n with
  | zero => rfl
  | succ n ih => rw [List.replicate_succ, List.flatten_cons, ih, List.replicate_succ]; rfl
end HM
namespace K06
open PySem PySem.Spec PyProof.Rows L2 HM
def topS (i : Nat) : Stmt := PySem.Challenge.pw_heldmarks_k06_no_groups.main.body.getD i (.Pass ⟨0, 0, 0, 0⟩)
abbrev sWhole : Stmt := topS 14
abbrev sNumber : Stmt := topS 15
section
variable {P : Program} {w : World} {K : PySem.W.Frag} {mg : Str → Option Value} {base : Heap}
theorem raw_whole {f : Addr} {fd : FuncData} {A : Around} {E : Value → Shared → Prop} {s : Shared} {u : Value} {T : String} (F : Fun K "is_whole" "is_whole" sWhole f fd) (mi : mg "isinstance" = none) (mt : mg "int" = none) (mb : mg "bool" = none)
    (M : L2.Mod K mg s.heap) (hroom : A.depth < recursionLimit) (r : RTy s.heap u T) : wpAny (model P w) A (call (.ref f) [u]) (fun y s' => y = .bool (isW u) ∧ Keeps s s') E s := by
  refine raw_def (ps := ["thing"]) (R := fun y => y = .bool (isW u)) F M hroom rfl (fun _ _ _ _ _ _ => rfl) (by decide +kernel) (by decide +kernel) rfl rfl rfl fun env L e1 e2 e3 e4 => ?_
  have vT : ∀ {p : Pos}, RX P w (A.deeper env) env (FrS K mg s.heap L ((["thing"] : List Str).zip [u])) (.Name "thing" p) (fun y => y = u) := rx_par e1 e4 rfl rfl rfl
  suffices hf : ∃ b1 b2, kitB T "int" = some b1 ∧ kitB T "bool" = some b2 ∧ (b1 && !b2) = isW u by
    obtain ⟨b1, b2, h1, h2, h3⟩ := hf
    rw [← h3]
    refine rx_and frs_firm (rx_callB2 (id := "isinstance") frs_firm (rx_bn e1 e2 e3 rfl rfl mi (by decide +kernel)) vT (rx_bn (v := .type "int") e1 e2 e3 rfl rfl mt (by decide +kernel)) fun E s2 u2 v2 hs hu hv => ?_) fun _ => rx_one (rx_not (rx_callB2 (id := "isinstance") frs_firm (rx_bn e1 e2 e3 rfl rfl mi (by decide +kernel)) vT (rx_bn (v := .type "bool") e1 e2 e3 rfl rfl mb (by decide +kernel)) fun E s2 u2 v2 hs hu hv => ?_))
    · subst hu hv
      exact raw_isi hs.1.kin (r.up hs.2.1) h1
    · subst hu hv
      exact raw_isi hs.1.kin (r.up hs.2.1) h2
  cases r with
  | non => exact ⟨false, false, by decide +kernel, by decide +kernel, rfl⟩
  | bl b => exact ⟨true, true, by decide +kernel, by decide +kernel, rfl⟩
  | int i t => exact ⟨true, false, by decide +kernel, by decide +kernel, rfl⟩
  | str x t => exact ⟨false, false, by decide +kernel, by decide +kernel, rfl⟩
  | lst e c => exact ⟨false, false, by decide +kernel, by decide +kernel, rfl⟩
  | tup e c => exact ⟨false, false, by decide +kernel, by decide +kernel, rfl⟩
  | dct e c => exact ⟨false, false, by decide +kernel, by decide +kernel, rfl⟩
theorem raw_number {f fW : Addr} {fd fdW : FuncData} {A : Around} {E : Value → Shared → Prop} {s : Shared} {u : Value} {n : Int} {t : Tok} {T : String} (F : Fun K "is_number" "is_number" sNumber f fd) (FW : Fun K "is_whole" "is_whole" sWhole fW fdW) (gW : mg "is_whole" = some (.ref fW))
    (mi : mg "isinstance" = none) (mt : mg "int" = none) (mb : mg "bool" = none) (M : L2.Mod K mg s.heap) (hroom : A.depth + 1 < recursionLimit) (r : RTy s.heap u T) :
    wpAny (model P w) A (call (.ref f) [u, .int n t]) (fun y s' => y = .bool (isNum n u) ∧ Keeps s s') E s := by
  refine raw_def (ps := ["thing", "many"]) (R := fun y => y = .bool (isNum n u)) F M (by omega) rfl (fun _ _ _ _ _ _ => rfl) (by decide +kernel) (by decide +kernel) rfl rfl rfl fun env L e1 e2 e3 e4 => ?_
  have vT : ∀ {p : Pos}, RX P w (A.deeper env) env (FrS K mg s.heap L ((["thing", "many"] : List Str).zip [u, .int n t])) (.Name "thing" p) (fun y => y = u) := rx_par e1 e4 rfl rfl rfl
  have vM : ∀ {p : Pos}, RX P w (A.deeper env) env (FrS K mg s.heap L ((["thing", "many"] : List Str).zip [u, .int n t])) (.Name "many" p) (fun y => y = .int n t) := rx_par e1 e4 rfl rfl rfl
  suffices hf : ∃ b, (isW u = true → ∃ i t', u = .int i t' ∧ (decide (0 ≤ i) && decide (i < n)) = b) ∧ (isW u && b) = isNum n u by
    obtain ⟨b, h1, h2⟩ := hf
    rw [← h2]
    refine rx_and frs_firm (rx_callD1 frs_firm (fun h hs => hs.1.kin) FW.kp (rx_gn e1 e2 rfl rfl gW) vT fun E s2 u2 hs hu => ?_) fun hw => ?_
    · subst hu
      exact raw_whole FW mi mt mb hs.1 (by show A.depth + 1 < _; exact hroom) (r.up hs.2.1)
    · obtain ⟨i, t', rfl, h3⟩ := h1 hw
      rw [← h3]
      exact rx_one (rx_between frs_firm rx_int (rx_mono vT fun y e => ⟨t', e⟩) (rx_mono vM fun y e => ⟨t, e⟩))
  cases r with
  | int i t' => exact ⟨_, fun _ => ⟨i, t', rfl, rfl⟩, rfl⟩
  | non => exact ⟨false, fun h => absurd h (by decide), rfl⟩
  | bl b => exact ⟨false, fun h => absurd h (by simp [isW]), rfl⟩
  | str x t => exact ⟨false, fun h => absurd h (by simp [isW]), rfl⟩
  | lst e c => exact ⟨false, fun h => absurd h (by simp [isW]), rfl⟩
  | tup e c => exact ⟨false, fun h => absurd h (by simp [isW]), rfl⟩
  | dct e c => exact ⟨false, fun h => absurd h (by simp [isW]), rfl⟩
end
abbrev bn : List Str := ["min", "sorted", "isinstance", "int", "bool", "len", "abs", "list", "range", "tuple", "set", "all", "repr", "str", "dict", "enumerate", "ValueError", "zip"]
theorem emodb (x : Int) : -(2 ^ 64) < x % 2147483647 ∧ x % 2147483647 < 2 ^ 64 := ⟨by have := Int.emod_nonneg x (b := 2147483647) (by decide); omega, by have := Int.emod_lt_of_pos x (b := 2147483647) (by decide); omega⟩
abbrev sPen : Stmt := topS 29
abbrev sDraw : Stmt := topS 30
section
variable {P : Program} {w : World} {K : PySem.W.Frag} {mg : Str → Option Value} {base : Heap}
theorem scPen : FnScope ["_law_script"] ["_law_script"] (defScope sPen) := ⟨rfl, rfl, rfl, by decide +kernel, rfl, by decide +kernel, by decide +kernel⟩
def spPen : Sp := fun vs H Q _ => ∃ a : Addr, vs = [.ref a] ∧ ∀ p, H p = none → Q (.ref p) (upd H p (.dK (pk a 0 0)))
theorem ok_pen {f : Addr} {fd : FuncData} {k : Nat} (F : Fun K "_law_pen" "_law_pen" sPen f fd) : FnOk P w K mg base CX0 (k + 1) f fd ["_law_script"] spPen := by
  refine F.ok scPen (fun vs H Q E h => ?_) (fun cdv A outer s H vs Q E hr h => ?_)
  · obtain ⟨a, rfl, _⟩ := h
    rfl
  · obtain ⟨a, rfl, q⟩ := h
    refine ⟨_, pss_one (ps_ret (pe_disp (pps_cons pe_str (pv 0) (pps_cons pe_str pe_int (pps_cons pe_str pe_int pps_nil))) rfl rfl (by simp) (by decide))), ?_⟩
    refine fun p np => ⟨_, rfl, upd_same, pk a 0 0, rfl, by show 3 ≤ 15; decide, ?_⟩
    rw [upd_upd, pk_merge]
    exact q p np
theorem scDraw : FnScope ["_law_pen_here", "_law_most", "_law_script", "_law_at", "_law_cell", "_law_mixed", "_law_found"] ["_law_pen_here", "_law_most"] (defScope sDraw) := ⟨rfl, rfl, rfl, by decide +kernel, rfl, by decide +kernel, by decide +kernel⟩
def spDraw (K : PySem.W.Frag) : Sp := fun vs H Q _ => ∃ (p : Addr) (m t : Int), vs = [.ref p, .int m] ∧ isPen K H p t ∧ 0 < m ∧ m ≤ 10000 ∧ t ≤ 1000000 ∧
  ∀ (r t' : Int) (H' : Hp), 0 ≤ r → r < m → t ≤ t' → t' ≤ t + 1 → isPen K H' p t' → But p H H' → Q (.int r) H'
theorem ok_draw {f : Addr} {fd : FuncData} {k : Nat} (F : Fun K "_law_draw" "_law_draw" sDraw f fd) (mz : ∀ x ∈ bn, mg x = none) : FnOk P w K mg base CX0 (k + 1) f fd ["_law_pen_here", "_law_most"] (spDraw K) := by
  refine F.ok scDraw (fun vs H Q E h => ?_) (fun cdv A outer s H vs Q E hr h => ?_)
  · obtain ⟨p, m, t, rfl, _⟩ := h
    rfl
  · obtain ⟨p, m, t, rfl, ⟨a, ns, l, hp, hS, hlen, ht, hl⟩, hm0, hm1, ht1, q⟩ := h
    have hu := hu_of hr
    have ml := mz "len" (by decide)
    have ma := mz "abs" (by decide)
    refine ⟨_, pss_cons (ps_set (i := 2) scDraw.nd rfl (.inl rfl) (pe_dget hu (pv 0) pe_str (fun _ _ => rfl)))
      (pss_cons (ps_set (i := 3) scDraw.nd rfl (.inl rfl) (pe_dget hu (pv 0) pe_str (fun _ _ => rfl)))
      (pss_cons (ps_if (pt_cmpR op_eq (pe_dget hu (pv 0) pe_str (fun _ _ => rfl)) pe_int (nomark _))
        (pss_cons (ps_dput hu (pv 0) pe_str (pe_op op_add (pv 3) pe_int) rfl)
        (pss_cons (ps_set (i := 4) scDraw.nd rfl (.inl rfl) pe_int)
        (pss_cons (ps_if (pt_cmpR op_gt (pe_callB call_len_seq (by rfl) ml PySem.boot_len (pa_cons (pv 2) pa_nil)) pe_int (nomark _))
          (pss_one (ps_set (i := 4) scDraw.nd rfl (.inl rfl) (pe_ix ix_list (pv 2) (pe_op op_mod (pv 3) (pe_callB call_len_seq (by rfl) ml PySem.boot_len (pa_cons (pv 2) pa_nil))) (fun _ _ => rfl)))) pss_nil)
        (pss_cons (ps_if (pw_or (pt_cmpR op_ge (pv 3) (pe_callB call_len_seq (by rfl) ml PySem.boot_len (pa_cons (pv 2) pa_nil)) (nomark _)) (pw_or1 (pt_cmpR op_lt (pe_callB call_abs (by rfl) ma (by decide +kernel) (pa_cons (pv 4) pa_nil)) (pe_op op_pow pe_int pe_int) (nomark _)))).pt
          (pss_cons (ps_set (i := 5) scDraw.nd rfl (.inl rfl) (pe_op op_mod (pe_op op_mul (pe_op op_add (pe_op op_add (pe_op op_mod (pv 4) pe_int) (pe_op op_mul pe_int (pv 3))) pe_int) pe_int) pe_int))
          (pss_cons (ps_set (i := 5) scDraw.nd rfl (.inl rfl) (pe_op op_mod (pe_op op_add (pe_op op_add (pe_op op_mul (pv 5) (pv 5)) (pe_op op_mul pe_int (pv 5))) (pv 3)) pe_int))
          (pss_one (ps_ret (pe_op op_mod (pe_op op_fdiv (pv 5) pe_int) (pv 1)))))) pss_nil)
        (pss_one (ps_dput hu (pv 0) pe_str (pe_callB call_abs (by rfl) ma (by decide +kernel) (pa_cons (pv 4) pa_nil)) rfl)))))) pss_nil)
      (pss_cons (ps_set (i := 6) scDraw.nd rfl (.inl rfl) (pe_op op_mod (pe_dget hu (pv 0) pe_str (fun _ _ => rfl)) (pv 1)))
      (pss_cons (ps_dput hu (pv 0) pe_str (pe_op op_fdiv (pe_dget hu (pv 0) pe_str (fun _ _ => rfl)) (pv 1)) rfl)
      (pss_one (ps_ret (pv 6))))))), ?_⟩
    have gS : ∀ {H' : Hp} {t' l' : Int}, H' p = some (.dK (pk a t' l')) → DGet H' p (.str "script") (some (.ref a)) := fun {H' t' l'} e => pk_script a t' l' ▸ DGet.k (k := Sum.inr "script") e
    have gA : ∀ {H' : Hp} {t' l' : Int}, H' p = some (.dK (pk a t' l')) → DGet H' p (.str "at") (some (.int t')) := fun {H' t' l'} e => pk_at a t' l' ▸ DGet.k (k := Sum.inr "at") e
    have gL : ∀ {H' : Hp} {t' l' : Int}, H' p = some (.dK (pk a t' l')) → DGet H' p (.str "left") (some (.int l')) := fun {H' t' l'} e => pk_left a t' l' ▸ DGet.k (k := Sum.inr "left") e
    have pA : ∀ {H' : Hp} {t' l' v : Int}, H' p = some (.dK (pk a t' l')) → DPut H' p (.str "at") (.int v) (upd H' p (.dK (pk a v l'))) := fun {H' t' l' v} e => pk_put_at a t' l' v ▸ DPut.k (k := Sum.inr "at") e (by show 3 < sizeLine; decide)
    have pL : ∀ {H' : Hp} {t' l' v : Int}, H' p = some (.dK (pk a t' l')) → DPut H' p (.str "left") (.int v) (upd H' p (.dK (pk a t' v))) := fun {H' t' l' v} e => pk_put_left a t' l' v ▸ DPut.k (k := Sum.inr "left") e (by show 3 < sizeLine; decide)
    have sc : ∀ {o : List (Key × V)}, Scr K (upd H p (.dK o)) a ns := fun {o} => hS.up fun b ob u e => by
      rw [upd_ne (ne_of e hp (by intro z; cases z))]
      exact e
    have sq : ∀ {o : List (Key × V)}, SqL K (upd H p (.dK o)) a (ns.map V.int) := fun {o} => sc.sq
    have fin : ∀ (r t' l' : Int), 0 ≤ r → r < m → t ≤ t' → t' ≤ t + 1 → 0 ≤ l' → Q (.int r) (upd H p (.dK (pk a t' l'))) := fun r t' l' h1 h2 h3 h4 h5 =>
      q r t' _ h1 h2 h3 h4 ⟨a, ns, l', upd_same, sc, hlen, by omega, h5⟩ fun b hb => upd_ne hb
    have hne : ∀ (c : Int), 0 ≤ (if c < 0 then -c else c) := fun c => by split <;> omega
    refine ⟨.ref p, rfl, p, _, rfl, gS hp, .ref p, rfl, p, _, rfl, gA hp, .ref p, rfl, p, _, rfl, gL hp, rfl, _, rfl, ite2 (fun e => ?_) (fun e => ?_)⟩
    · -- nothing is left: the next number of the script
      refine ⟨.int t, rfl, t, 1, rfl, rfl, .ref p, rfl, p, _, rfl, pA hp, .ref a, rfl, a, _, rfl, .inl sq, _, _, rfl, rfl, _, rfl, ite2 (fun e1 => ?_) (fun e1 => ?_)⟩
      · have hpos : (0 : Int) < ((ns.map V.int).length : Int) := of_decide_eq_true e1
        have hb0 : 0 ≤ t % ((ns.map V.int).length : Int) := Int.emod_nonneg _ (by omega)
        have hb1 : t % ((ns.map V.int).length : Int) < ((ns.map V.int).length : Int) := Int.emod_lt_of_pos _ hpos
        have hj : (t % ((ns.map V.int).length : Int)).toNat < ns.length := by
          rw [List.length_map] at hb0 hb1 ⊢
          omega
        have hat : atI (ns.map V.int) (t % ((ns.map V.int).length : Int)) = some (.int (ns[(t % ((ns.map V.int).length : Int)).toNat]'hj)) := by
          refine at_of (j := (t % ((ns.map V.int).length : Int)).toNat) (by omega) ?_
          rw [List.getElem?_map, List.getElem?_eq_getElem hj]
          rfl
        refine ⟨.ref a, rfl, .int t, rfl, .ref a, rfl, a, _, rfl, .inl sq, _, _, rfl, rfl, hpos, a, _, _, _, rfl, rfl, sq, hat, ?_⟩
        generalize (ns[(t % ((ns.map V.int).length : Int)).toNat]'hj) = c
        refine ⟨.int t, rfl, .ref a, rfl, a, _, rfl, .inl sq, _, _, rfl, rfl, _, rfl, ite2 (fun e2 => ?_) (fun e2 => ⟨.int c, rfl, c, rfl, 10, 18, rfl, rfl, ⟨by decide, by decide, by decide⟩, _, _, rfl, rfl, _, rfl, ?_⟩)⟩
        · refine iteT ⟨.int c, rfl, _, _, rfl, rfl, (by show (0 : Int) < _; decide), .int t, rfl, _, _, rfl, rfl, .inl ⟨by decide, by decide⟩, _, _, rfl, rfl, _, _, rfl, rfl, _, _, rfl, rfl, .inr ⟨by decide, by decide⟩, _, _, rfl, rfl, (by show (0 : Int) < _; decide), ?_⟩
          refine ⟨.int _, rfl, .int _, rfl, _, _, rfl, rfl, .inl (emodb _), .int _, rfl, _, _, rfl, rfl, .inl ⟨by decide, by decide⟩, _, _, rfl, rfl, .int t, rfl, _, _, rfl, rfl, _, _, rfl, rfl, (by show (0 : Int) < _; decide), .int _, rfl, _, _, rfl, rfl, ⟨by decide, by decide⟩, .int m, rfl, _, _, rfl, rfl, hm0, ?_⟩
          exact fin _ (t + 1) l (Int.emod_nonneg _ (by omega)) (Int.emod_lt_of_pos _ hm0) (by omega) (by omega) hl
        · refine ite2 (fun e3 => ?_) (fun e3 => ?_)
          · refine ⟨.int c, rfl, _, _, rfl, rfl, (by show (0 : Int) < _; decide), .int t, rfl, _, _, rfl, rfl, .inl ⟨by decide, by decide⟩, _, _, rfl, rfl, _, _, rfl, rfl, _, _, rfl, rfl, .inr ⟨by decide, by decide⟩, _, _, rfl, rfl, (by show (0 : Int) < _; decide), ?_⟩
            refine ⟨.int _, rfl, .int _, rfl, _, _, rfl, rfl, .inl (emodb _), .int _, rfl, _, _, rfl, rfl, .inl ⟨by decide, by decide⟩, _, _, rfl, rfl, .int t, rfl, _, _, rfl, rfl, _, _, rfl, rfl, (by show (0 : Int) < _; decide), .int _, rfl, _, _, rfl, rfl, ⟨by decide, by decide⟩, .int m, rfl, _, _, rfl, rfl, hm0, ?_⟩
            exact fin _ (t + 1) l (Int.emod_nonneg _ (by omega)) (Int.emod_lt_of_pos _ hm0) (by omega) (by omega) hl
          · refine ⟨.int c, rfl, c, rfl, .ref p, rfl, p, _, rfl, pL upd_same, ?_⟩
            rw [upd_upd]
            refine ⟨.ref p, rfl, p, _, rfl, gL upd_same, .int m, rfl, _, _, rfl, rfl, hm0, .ref p, rfl, p, _, rfl, gL upd_same, .int m, rfl, _, _, rfl, rfl, ⟨hm0, by omega⟩, .ref p, rfl, p, _, rfl, pL upd_same, _, rfl, ?_⟩
            rw [upd_upd]
            exact fin _ (t + 1) _ (Int.emod_nonneg _ (by omega)) (Int.emod_lt_of_pos _ hm0) (by omega) (by omega) (Int.ediv_nonneg (hne c) (by omega))
      · refine ⟨.int t, rfl, .ref a, rfl, a, _, rfl, .inl sq, _, _, rfl, rfl, _, rfl, ite2 (fun e2 => ?_) (fun e2 => ⟨.int 7, rfl, 7, rfl, 10, 18, rfl, rfl, ⟨by decide, by decide, by decide⟩, _, _, rfl, rfl, _, rfl, ?_⟩)⟩
        · refine iteT ⟨.int 7, rfl, _, _, rfl, rfl, (by show (0 : Int) < _; decide), .int t, rfl, _, _, rfl, rfl, .inl ⟨by decide, by decide⟩, _, _, rfl, rfl, _, _, rfl, rfl, _, _, rfl, rfl, .inr ⟨by decide, by decide⟩, _, _, rfl, rfl, (by show (0 : Int) < _; decide), ?_⟩
          refine ⟨.int _, rfl, .int _, rfl, _, _, rfl, rfl, .inl (emodb _), .int _, rfl, _, _, rfl, rfl, .inl ⟨by decide, by decide⟩, _, _, rfl, rfl, .int t, rfl, _, _, rfl, rfl, _, _, rfl, rfl, (by show (0 : Int) < _; decide), .int _, rfl, _, _, rfl, rfl, ⟨by decide, by decide⟩, .int m, rfl, _, _, rfl, rfl, hm0, ?_⟩
          exact fin _ (t + 1) l (Int.emod_nonneg _ (by omega)) (Int.emod_lt_of_pos _ hm0) (by omega) (by omega) hl
        · refine ite2 (fun e3 => ?_) (fun e3 => ?_)
          · refine ⟨.int 7, rfl, _, _, rfl, rfl, (by show (0 : Int) < _; decide), .int t, rfl, _, _, rfl, rfl, .inl ⟨by decide, by decide⟩, _, _, rfl, rfl, _, _, rfl, rfl, _, _, rfl, rfl, .inr ⟨by decide, by decide⟩, _, _, rfl, rfl, (by show (0 : Int) < _; decide), ?_⟩
            refine ⟨.int _, rfl, .int _, rfl, _, _, rfl, rfl, .inl (emodb _), .int _, rfl, _, _, rfl, rfl, .inl ⟨by decide, by decide⟩, _, _, rfl, rfl, .int t, rfl, _, _, rfl, rfl, _, _, rfl, rfl, (by show (0 : Int) < _; decide), .int _, rfl, _, _, rfl, rfl, ⟨by decide, by decide⟩, .int m, rfl, _, _, rfl, rfl, hm0, ?_⟩
            exact fin _ (t + 1) l (Int.emod_nonneg _ (by omega)) (Int.emod_lt_of_pos _ hm0) (by omega) (by omega) hl
          · exact absurd (by decide +kernel) e3
    · refine ⟨.ref p, rfl, p, _, rfl, gL hp, .int m, rfl, _, _, rfl, rfl, hm0, .ref p, rfl, p, _, rfl, gL hp, .int m, rfl, _, _, rfl, rfl, ⟨hm0, by omega⟩, .ref p, rfl, p, _, rfl, pL hp, _, rfl, ?_⟩
      exact fin _ t _ (Int.emod_nonneg _ (by omega)) (Int.emod_lt_of_pos _ hm0) (by omega) (by omega) (Int.ediv_nonneg hl (by omega))
end
abbrev sAny : Stmt := topS 31
section
variable {P : Program} {w : World} {K : PySem.W.Frag} {mg : Str → Option Value} {base : Heap}
theorem scAny : FnScope ["_law_pen_here", "_law_many", "_law_left", "_law_k"] ["_law_pen_here", "_law_many"] (defScope sAny) := ⟨rfl, rfl, rfl, by decide +kernel, rfl, by decide +kernel, by decide +kernel⟩
def spAny (K : PySem.W.Frag) : Sp := fun vs H Q _ => ∃ (p : Addr) (n : Nat) (t : Int), vs = [.ref p, .int (n : Int)] ∧ isPen K H p t ∧ n ≤ 100 ∧ t ≤ 900000 ∧
  ∀ (q : Addr) (ns : List Int) (t' : Int) (H' : Hp), ns.Perm (iota n) → t ≤ t' → t' ≤ t + n → isPen K H' p t' → H q = none → TF H' q (ns.map V.int) → Kept p H H' → Q (.ref q) H'
theorem ok_any {f fD : Addr} {fd fdD : FuncData} {k : Nat} (F : Fun K "_law_any_turn" "_law_any_turn" sAny f fd) (FD : Fun K "_law_draw" "_law_draw" sDraw fD fdD) (bD : Binds K fdD ["_law_pen_here", "_law_most"] []) (gD : mg "_law_draw" = some (.ref fD))
    (mz : ∀ x ∈ bn, mg x = none) : FnOk P w K mg base CX0 (k + 2) f fd ["_law_pen_here", "_law_many"] (spAny K) := by
  have GD : FnOk P w K mg base CX0 (k + 1) fD fdD ["_law_pen_here", "_law_most"] (spDraw K) := ok_draw FD mz
  refine F.ok scAny (fun vs H Q E h => ?_) (fun cdv A outer s H vs Q E hr h => ?_)
  · obtain ⟨p, n, t, rfl, _⟩ := h
    rfl
  · obtain ⟨p, n, t, rfl, hp, hn, ht, q⟩ := h
    have ml := mz "len" (by decide)
    have mr := mz "range" (by decide)
    refine ⟨_, pss_cons (ps_set (i := 2) scAny.nd rfl (.inr rfl) (pe_listRg rfl (by rfl) (mz "list" (by decide)) (prg_1 (by rfl) mr (pv 1))))
      (pss_one (ps_ret (pe_tupOfF (by rfl) (mz "tuple" (by decide)) (pe_lc (own := [("_law_k", 3)]) (g := gName 3) (tt := tYes) (te := tBM K "list" rPopAt (tVar 2) (tCons (tCall (spDraw K) [] noX (tCons (tVar 0) (tCons (tCB (rLenS K) (tCons (tVar 2) tNil)) tNil))) tNil)) rfl scAny.nd (pi_range1 (by rfl) mr (pa_cons (pv 1) pa_nil)) (blkOk_by (N := ["_law_pen_here", "_law_many", "_law_left", "_law_k"]) (sc := defScope sAny) (by decide +kernel))
        (fun _ _ _ _ _ => pg_name (i := 3) scAny.nd rfl (.inl rfl)) (fun _ _ _ _ _ => pts_nil)
        (fun _ _ _ _ _ => pe_bm PySem.F.plainAttrs_list PySem.F.slot_list_pop PySem.F.type_list_pop mt_popAt (pv 2) (pa_cons (pe_call GD hr (by rfl) gD FD.kp bD .nil pass0 (pa_cons (pv 0) (pa_cons (pe_callB call_len_seq (by rfl) ml PySem.boot_len (pa_cons (pv 2) pa_nil)) pa_nil))) pa_nil)))))), ?_⟩
    -- left = list(range(many))
    refine ⟨_, rfl, n, rfl, RgOk.of_le (by decide) (by omega) (by decide) (by omega), fun L nL => ?_⟩
    rw [rgV0]
    have pk1 : isPen K (upd H L (.lst ((iota n).map V.int))) p t := hp.lay nL
    have k1 : Kept p H (upd H L (.lst ((iota n).map V.int))) := fun b o e _ => by rw [upd_ne (ne_of_none e nL)]; exact e
    refine ⟨_, rfl, (n : Int), rfl, by omega, by omega, fun D nD => ?_⟩
    have nDL : D ≠ L := fun z => by
      rw [z, upd_same] at nD
      cases nD
    have nD0 : H D = none := by
      rw [upd_ne nDL] at nD
      exact nD
    rw [Int.toNat_natCast]
    refine lc_range (n := n) (fun i H2 => ∃ (rem acc : List Int) (t' : Int), H2 L = some (.lst (rem.map V.int)) ∧ H2 D = some (.lst (acc.map V.int)) ∧ (acc ++ rem).Perm (iota n) ∧ acc.length = i ∧ t ≤ t' ∧ t' ≤ t + i ∧ isPen K H2 p t' ∧ Kept p H H2)
      ⟨iota n, [], t, by rw [upd_ne nDL.symm, upd_same], upd_same, List.Perm.refl _, rfl, by omega, by omega, pk1.lay nD, fun b o e n1 => by rw [upd_ne (ne_of_none e nD0)]; exact k1 b o e n1⟩ (fun i H2 hi hW => ?_) fun H2 hW => ?_
    · obtain ⟨rem, acc, t', eL, eD, hpm, hac, h1, h2, hpn, hk⟩ := hW
      have hlen : acc.length + rem.length = n := by
        have := hpm.length_eq
        rw [List.length_append, iota_len] at this
        exact this
      refine ⟨rfl, .ref L, rfl, .inl ⟨rfl, _, .inl (.inl eL)⟩, .ref p, rfl, .ref L, rfl, L, _, rfl, .inl (.inl (.inl eL)), p, _, t', rfl, hpn, by rw [List.length_map]; omega, by rw [List.length_map]; omega, by omega, fun r t2 H3 r0 r1 h3 h4 hpn3 hbut => ?_⟩
      rw [List.length_map] at r1
      have hpL : L ≠ p := fun z => by
        obtain ⟨_, _, _, e, _⟩ := hpn
        rw [z, e] at eL
        cases eL
      have hpD : D ≠ p := fun z => by
        obtain ⟨_, _, _, e, _⟩ := hpn
        rw [z, e] at eD
        cases eD
      have eL3 : H3 L = some (.lst (rem.map V.int)) := by rw [hbut L hpL]; exact eL
      have eD3 : H3 D = some (.lst (acc.map V.int)) := by rw [hbut D hpD]; exact eD
      have hr1 : r.toNat < rem.length := by omega
      refine ⟨L, _, r, r.toNat, _, rfl, rfl, eL3, by omega, by omega, by rw [List.length_map]; exact seqIx r0 r1, by rw [List.getElem?_map, List.getElem?_eq_getElem hr1]; rfl, acc.map V.int, by rw [upd_ne nDL]; exact eD3, by rw [List.length_map]; exact small1000 (by omega), ?_⟩
      rw [map_erzIx]
      refine ⟨rem.eraseIdx r.toNat, acc ++ [rem[r.toNat]], t2, by rw [upd_ne nDL.symm, upd_same], by rw [upd_same, List.map_append]; rfl, perm_step hpm hr1, by rw [List.length_append, hac]; rfl, by omega, by omega, ?_, fun b o e n1 => ?_⟩
      · exact (hpn3.put eL3).put (q := D) (by rw [upd_ne nDL]; exact eD3)
      · have hbL : b ≠ L := ne_of_none e nL
        have hbD : b ≠ D := ne_of_none e nD0
        rw [upd_ne hbD, upd_ne hbL, hbut b n1]
        exact hk b o e n1
    · obtain ⟨rem, acc, t', eL, eD, hpm, hac, h1, h2, hpn, hk⟩ := hW
      have hlen : acc.length + rem.length = n := by
        have := hpm.length_eq
        rw [List.length_append, iota_len] at this
        exact this
      have er : rem = [] := List.length_eq_zero_iff.mp (by omega)
      rw [er, List.append_nil] at hpm
      refine ⟨D, _, rfl, .inl (.inl eD), fun T oT nT hoT => ?_⟩
      have nT0 : H T = none := by
        cases e : H T with
        | none => rfl
        | some o =>
          by_cases z : T = p
          · obtain ⟨_, _, _, e2, _⟩ := hpn
            rw [z, e2] at nT
            cases nT
          · rw [hk T o e z] at nT
            cases nT
      exact q T acc t' _ hpm h1 (by omega) (hpn.lay nT) nT0 ⟨oT, hoT, upd_same⟩ fun b o e n1 => by rw [upd_ne (ne_of_none e nT0)]; exact hk b o e n1
end
abbrev sCan : Stmt := topS 19
section
variable {P : Program} {w : World} {K : PySem.W.Frag} {mg : Str → Option Value} {base : Heap}
theorem scWhole : FnScope ["thing"] ["thing"] (defScope sWhole) := ⟨rfl, rfl, rfl, by decide +kernel, rfl, by decide +kernel, by decide +kernel⟩
def spWhole : Sp := fun vs H Q _ => ∃ n : Int, vs = [.int n] ∧ Q (.bl true) H
theorem ok_whole {f : Addr} {fd : FuncData} {k : Nat} (F : Fun K "is_whole" "is_whole" sWhole f fd) (mz : ∀ x ∈ bn, mg x = none) : FnOk P w K mg base CX0 (k + 1) f fd ["thing"] spWhole := by
  refine F.ok scWhole (fun vs H Q E h => ?_) (fun cdv A outer s H vs Q E hr h => ?_)
  · obtain ⟨n, rfl, _⟩ := h
    rfl
  · obtain ⟨n, rfl, q⟩ := h
    have mi := mz "isinstance" (by decide)
    refine ⟨_, pss_one (ps_ret (pe_and (pe_callB call_isi (by rfl) mi boot_isinstance (pa_cons (pv 0) (pa_cons (pe_bltn (v := .ty "int") (by rfl) (mz "int" (by decide)) (by decide +kernel) rfl) pa_nil)))
      (pe_one (pe_not (pe_callB call_isi (by rfl) mi boot_isinstance (pa_cons (pv 0) (pa_cons (pe_bltn (v := .ty "bool") (by rfl) (mz "bool" (by decide)) (by decide +kernel) rfl) pa_nil))))))), ?_⟩
    refine ⟨_, rfl, _, _, _, _, _, rfl, .ty _, .base (.int n), kit_ty (r := true) (by decide +kernel), _, rfl, iteT ⟨_, rfl, _, _, _, _, _, rfl, .ty _, .base (.int n), kit_ty (r := false) (by decide +kernel), _, rfl, q⟩⟩
theorem scCan : FnScope ["many"] ["many"] (defScope sCan) := ⟨rfl, rfl, rfl, by decide +kernel, rfl, by decide +kernel, by decide +kernel⟩
def spCan : Sp := fun vs H Q _ => ∃ n : Int, vs = [.int n] ∧ Q (.bl (decide (1 ≤ n) && decide (n ≤ 7))) H
theorem ok_can {f fW : Addr} {fd fdW : FuncData} {k : Nat} {tM : Tok} (F : Fun K "can_be_turned" "can_be_turned" sCan f fd) (FW : Fun K "is_whole" "is_whole" sWhole fW fdW) (bW : Binds K fdW ["thing"] []) (gW : mg "is_whole" = some (.ref fW)) (gM : mg "MOST_THINGS" = some (.int 7 tM))
    (mz : ∀ x ∈ bn, mg x = none) : FnOk P w K mg base CX0 (k + 2) f fd ["many"] spCan := by
  have GW : FnOk P w K mg base CX0 (k + 1) fW fdW ["thing"] spWhole := ok_whole FW mz
  refine F.ok scCan (fun vs H Q E h => ?_) (fun cdv A outer s H vs Q E hr h => ?_)
  · obtain ⟨n, rfl, _⟩ := h
    rfl
  · obtain ⟨n, rfl, q⟩ := h
    refine ⟨_, pss_one (ps_ret (pe_and (pe_call GW hr (by rfl) gW FW.kp bW .nil pass0 (pa_cons (pv 0) pa_nil)) (pe_one (pe_chain op_le op_le pe_int (pv 0) (pe_glob (v := .int 7) (by rfl) gM ⟨_, rfl⟩))))), ?_⟩
    refine ⟨_, rfl, n, rfl, _, rfl, iteT ⟨_, rfl, _, _, rfl, rfl, _, rfl, ?_⟩⟩
    by_cases h1 : (1 : Int) ≤ n
    · rw [decide_eq_true h1] at q ⊢
      exact iteT ⟨_, _, rfl, rfl, q⟩
    · rw [decide_eq_false h1] at q ⊢
      exact iteF q
end
end K06
namespace K06
open PySem PySem.Spec PyProof.Rows L2 HM
abbrev sHas : Stmt := topS 16
section
variable {P : Program} {w : World} {K : PySem.W.Frag} {mg : Str → Option Value} {base : Heap}
theorem scHas : FnScope ["things", "many"] ["things", "many"] (defScope sHas) := ⟨rfl, rfl, rfl, by decide +kernel, rfl, by decide +kernel, by decide +kernel⟩
def spHas (K : PySem.W.Frag) (Pt : Addr) : Sp := fun vs H Q _ => ∃ (a : Addr) (n : Int) (xs : List V) (ds : List PyData), vs = [.ref a, .int n] ∧ SqT K H a xs ∧ DpAll K H xs ds ∧ GxR.TabG H Pt ∧ xs.length ≤ 4000 ∧
  ∀ H', GxR.Tabbed Pt H H' → Q (.bl (eachOnce ds n)) H'
theorem ok_has {f fN fW c Pt : Addr} {fd fdN fdW : FuncData} {k : Nat} (F : Fun K "has_each_once" "has_each_once" sHas f fd) (FN : Fun K "is_number" "is_number" sNumber fN fdN) (FW : Fun K "is_whole" "is_whole" sWhole fW fdW)
    (gN : mg "is_number" = some (.ref fN)) (gW : mg "is_whole" = some (.ref fW)) (mz : ∀ x ∈ bn, mg x = none) (hc : fd.code = .ref c) (TB : GxR.TabB base mg c Pt) : FnOk P w K mg base CX0 (k + 1) f fd ["things", "many"] (spHas K Pt) := by
  refine (pfn_of (gd := anyA) F scHas (fun vs H Q E h => ?_) (fun cdv A outer s H vs Q E hcd _ hr h => ?_)).ok
  · obtain ⟨a, n, xs, ds, rfl, _⟩ := h
    rfl
  · obtain ⟨a, n, xs, ds, rfl, hS, hD, tg, hlen, q⟩ := h
    have ml := mz "len" (by decide)
    have hcode : cdv = .ref c := hcd.symm.trans hc
    refine ⟨_, pss_cons (ps_if (pt_cmpR op_ne (pe_callB call_len_seq (by rfl) ml PySem.boot_len (pa_cons (pv 0) pa_nil)) (pv 1) (nomark _)) (pss_one (ps_ret pe_bl)) pss_nil)
      (pss_one (ps_ret (pe_and (pe_allG (c := c) (P := Pt) (Rr := fun σ v H1 m pb => ∃ (a : Addr) (n : Int) (xs : List V), v = .ref a ∧ SqT K H1 a xs ∧ (∀ x ∈ xs, ∃ T, VTy K H1 x T) ∧ σ[1]? = some (some (.int n)) ∧ m = xs.length ∧ pb = fun i => numV n (xs.getD i .non))
          hr (by rfl) (mz "all" (by decide)) TB hcode ⟨rfl, rfl, by decide +kernel, rfl, rfl, fun y hy e => cell_has (by revert y; decide +kernel)⟩ (pv 0) (fun _ => rfl) (fun pins σ v H1 s1 xv m pb I1 r1 tg1 hR => ?gen))
        (pe_one (pe_cmpR op_eq (pe_lenSetT (by rfl) ml (by rfl) (mz "set" (by decide)) (pv 0)) (pv 1) (nomark _)))))), ?_⟩
    case gen =>
      obtain ⟨a, n, xs, rfl, hS, hty, hσ, rfl, rfl⟩ := hR
      cases (show xv = Value.ref a from r1)
      obtain ⟨its, o, fp, St, rv, B⟩ := beg_tup I1 tg1 hS
      refine ⟨its, o, fp, St, rv.length.symm, B, fun A' cenv i u hA hdp hun e1 e2 e3 e4 hi => ?_⟩
      obtain ⟨x, hx, rx⟩ := vals_at rv hi
      obtain ⟨T, ty⟩ := hty x (List.mem_of_getElem? hx)
      have rt := ty.raw I1 rx
      have ex : xs.getD i .non = x := by
        rw [List.getD_eq_getElem?_getD, hx]
        all_goals rfl
      refine rx_mono (R := fun y => y = .bool (isNum n u)) ?_ fun y hy => by
        rw [hy]
        show Value.bool (isNum n u) = Value.bool (numV n (xs.getD i .non))
        rw [ex, rel_num rx rt]
      obtain ⟨ps, hPt, ht⟩ := _root_.id tg1
      have hPs : s1.heap.get? Pt = some { cls := .none, data := .fields ps } := I1.hok Pt _ hPt
      have fm : Firm (fun h => GrowsBut Pt s1.heap h ∧ ∃ m, h.Ns cenv.locals m ∧ m "thing" = some u) := fun h h' hs k => ⟨fun b ob hb e => k b ob (hs.1 b ob hb e), let ⟨m, h1, h2⟩ := hs.2; ⟨m, h1.keeps k, h2⟩⟩
      have hk : cenv.scope.kind = .function := by rw [e1]
      have hd := hr.dp
      have hdp2 : A'.depth ≤ (A.deeper (envOfC "has_each_once" (defScope sHas) s.heap.objs.size f cdv)).depth + 1 := hdp
      refine rx_callD2 fm (fun h hs => (mod_but I1 tg1 hs.1).kin) FN.kp (rx_glob hk (by show cenv.scope.names.lookup _ = _; rw [e1]; rfl) e2 (fun h hs => mod_but I1 tg1 hs.1) gN) (rx_local hk (by show cenv.scope.names.lookup _ = _; rw [e1]; rfl) fun h hs => hs.2)
        (Rb := fun y => ∃ t, y = .int n t) (fun E s2 hs => ?_) fun E s2 u2 v2 hs hu hv => ?_
      · obtain ⟨cc, uu, h1, h2, h3⟩ := free_cell (scope := _) (i := 1) (y := "many") (v := .int n) I1 tg1 hs.1 rfl hσ rfl fun c0 h0 => by
          rw [← e4]
          show cenv.cells.lookup _ = _
          rw [e4]
          show List.lookup _ [(_, (_ : Option Addr).getD 0)] = some c0
          rw [h0]
          rfl
        obtain ⟨t, rfl⟩ := (show ∃ t, uu = Value.int n t from h2)
        have fr : ∀ p, RX P w A' cenv (fun h => h.IsCell cc (some (.int n t))) (.Name "many" p) (fun y => y = .int n t) := fun p => rx_free hk (by show cenv.scope.names.lookup _ = _; rw [e1]; rfl) (by rw [e4]; exact h1) (fun h hh => hh)
        exact thn (fr _ E s2 h3) fun y s3 q => ⟨⟨t, q.1⟩, q.2⟩
      · subst hu
        obtain ⟨t, rfl⟩ := hv
        exact raw_number FN FW gW (mz "isinstance" (by decide)) (mz "int" (by decide)) (mz "bool" (by decide)) (mod_but I1 tg1 hs.1) (by omega) (rt.but hPs hs.1)
    -- the reading
    refine ⟨.ref a, rfl, a, xs, rfl, .inr hS, .int n, rfl, rfl, _, rfl, ite2 (fun e => ?_) (fun e => ?_)⟩
    · have e2 : ¬ ((xs.length : Int) = n) := fun z => by
        rw [z] at e
        simp at e
      have e3 : eachOnce ds n = false := by
        unfold eachOnce
        rw [decide_eq_false (by rw [← dps_len hD]; exact e2)]
        rfl
      rw [← e3]
      exact q H ⟨tg, fun _ _ => rfl⟩
    · have e2 : (xs.length : Int) = n := by
        have z : ¬ (!decide (V.int (xs.length : Int) = V.int n)) = true := e
        simp at z
        exact z
      refine ⟨.ref a, rfl, tg, _, _, ⟨a, n, xs, rfl, hS, dps_ty hD, rfl, rfl, rfl⟩, fun H2 hT => ⟨_, rfl, ?_⟩⟩
      rw [all_range V.non (numV n) xs, dps_num n hD]
      have e4 : eachOnce ds n = (ds.all (numD n) && decide (ds.map itD).Nodup) := by
        unfold eachOnce
        rw [decide_eq_true (by rw [← dps_len hD]; exact e2)]
        rfl
      by_cases ha : ds.all (numD n) = true
      · rw [if_pos ha]
        have hx := all_ints (n := n) (xs := xs) (by rw [dps_num n hD]; exact ha)
        refine ⟨.ref a, rfl, a, xs.map intV, rfl, by rw [← hx]; exact sqT_ne hS tg hT.2, by rw [List.length_map]; exact hlen, fun cc hcc => ⟨.int n, rfl, rfl, ?_⟩⟩
        have hq := q H2 hT
        rw [e4, ha, Bool.true_and] at hq
        have e5 : decide (V.int ((cc : Nat) : Int) = V.int n) = decide (ds.map itD).Nodup := by
          rw [← dps_int hD, decide_eq_decide, ← (dist_all hcc).2, List.length_map]
          constructor
          · intro z
            have z' := V.int.inj z
            omega
          · intro z
            rw [z, e2]
        rw [e5]
        exact hq
      · rw [if_neg ha]
        have hq := q H2 hT
        rw [e4, Bool.not_eq_true _ |>.mp ha, Bool.false_and] at hq
        exact hq
end
end K06
namespace K06
open PySem PySem.Spec PyProof.Rows L2 HM
abbrev sTurn : Stmt := topS 20
section
variable {P : Program} {w : World} {K : PySem.W.Frag} {mg : Str → Option Value} {base : Heap}
theorem scTurn : FnScope ["thing"] ["thing"] (defScope sTurn) := ⟨rfl, rfl, rfl, by decide +kernel, rfl, by decide +kernel, by decide +kernel⟩
def spTurn (K : PySem.W.Frag) (Pt : Addr) : Sp := fun vs H Q _ => ∃ (x : V) (d : PyData), vs = [x] ∧ TC K H x d ∧ GxR.TabG H Pt ∧ (∀ ds, d = .tuple ds → ds.length ≤ 4000) ∧ ∀ H', GxR.Tabbed Pt H H' → Q (.bl (turnD d)) H'
theorem ok_turn {f fH fN fW fC c Pt : Addr} {fd fdH fdN fdW fdC : FuncData} {k : Nat} {tM : Tok} (F : Fun K "is_turn" "is_turn" sTurn f fd) (FH : Fun K "has_each_once" "has_each_once" sHas fH fdH) (FN : Fun K "is_number" "is_number" sNumber fN fdN) (FW : Fun K "is_whole" "is_whole" sWhole fW fdW)
    (FC : Fun K "can_be_turned" "can_be_turned" sCan fC fdC) (bH : Binds K fdH ["things", "many"] []) (bW : Binds K fdW ["thing"] []) (bC : Binds K fdC ["many"] []) (gH : mg "has_each_once" = some (.ref fH)) (gN : mg "is_number" = some (.ref fN)) (gW : mg "is_whole" = some (.ref fW)) (gC : mg "can_be_turned" = some (.ref fC))
    (gM : mg "MOST_THINGS" = some (.int 7 tM)) (mz : ∀ x ∈ bn, mg x = none) (hc : fdH.code = .ref c) (TB : GxR.TabB base mg c Pt) : FnOk P w K mg base CX0 (k + 3) f fd ["thing"] (spTurn K Pt) := by
  have GH : FnOk P w K mg base CX0 (k + 2) fH fdH ["things", "many"] (spHas K Pt) := ok_has FH FN FW gN gW mz hc TB
  have GC : FnOk P w K mg base CX0 (k + 2) fC fdC ["many"] spCan := ok_can FC FW bW gW gM mz
  refine F.ok scTurn (fun vs H Q E h => ?_) (fun cdv A outer s H vs Q E hr h => ?_)
  · obtain ⟨x, d, rfl, _⟩ := h
    rfl
  · obtain ⟨x, d, rfl, hp, tg, hl, q⟩ := h
    have mi := mz "isinstance" (by decide)
    have ml := mz "len" (by decide)
    refine ⟨_, pss_one (ps_ret (pe_and (pe_callB call_isi (by rfl) mi boot_isinstance (pa_cons (pv 0) (pa_cons (pe_bltn (v := .ty "tuple") (by rfl) (mz "tuple" (by decide)) (by decide +kernel) rfl) pa_nil)))
      (pe_and (pe_call GC hr (by rfl) gC FC.kp bC .nil pass0 (pa_cons (pe_callB call_len_seq (by rfl) ml PySem.boot_len (pa_cons (pv 0) pa_nil)) pa_nil))
      (pe_one (pe_call GH hr (by rfl) gH FH.kp bH .nil pass0 (pa_cons (pv 0) (pa_cons (pe_callB call_len_seq (by rfl) ml PySem.boot_len (pa_cons (pv 0) pa_nil)) pa_nil))))))), ?_⟩
    rcases hp with ⟨a, xs, ds, rfl, rfl, hF, hD⟩ | ⟨T, ty, hk, ht⟩
    · have hS : SqT K H a xs := hF.sq
      have el := dps_len hD
      refine ⟨_, rfl, _, _, _, _, _, rfl, .ty _, (VTy.tup hS).tyx, kit_ty (r := true) (by decide +kernel), _, rfl, iteT ⟨_, rfl, a, xs, rfl, .inr hS, _, rfl, _, rfl, ?_⟩⟩
      have q1 : ∀ H', GxR.Tabbed Pt H H' → Q (.bl ((decide (1 ≤ ds.length) && decide (ds.length ≤ 7)) && eachOnce ds ds.length)) H' := q
      have e1 : (decide ((1 : Int) ≤ (xs.length : Int)) && decide ((xs.length : Int) ≤ 7)) = (decide (1 ≤ ds.length) && decide (ds.length ≤ 7)) := by
        rw [el]
        congr 1
        · exact decide_eq_decide.mpr (by omega)
        · exact decide_eq_decide.mpr (by omega)
      rw [e1]
      cases hb : (decide (1 ≤ ds.length) && decide (ds.length ≤ 7)) with
      | true =>
        rw [hb] at q1
        refine iteT ⟨_, rfl, _, rfl, a, xs, rfl, .inr hS, a, _, xs, ds, rfl, hS, hD, tg, by rw [el]; exact hl ds rfl, fun H' hT => ?_⟩
        have z := q1 H' hT
        rw [Bool.true_and] at z
        rw [el]
        exact z
      | false =>
        rw [hb, ] at q1
        refine iteF ?_
        have z := q1 H ⟨tg, fun _ _ => rfl⟩
        rw [Bool.false_and] at z
        exact z
    · refine ⟨_, rfl, _, _, _, _, _, rfl, .ty _, ty.tyx, kit_ty hk, _, rfl, iteF ?_⟩
      rw [← ht]
      exact q H ⟨tg, fun _ _ => rfl⟩
end
end K06
namespace K06
open PySem PySem.Spec PyProof.Rows L2 HM
abbrev sThen : Stmt := topS 22
section
variable {P : Program} {w : World} {K : PySem.W.Frag} {mg : Str → Option Value} {base : Heap}
abbrev sInit : Stmt := match topS 2 with | .ClassDef _ _ _ (s :: _) .. => s | s => s
theorem initS : InitS sInit where
  bd := ⟨_, _, _, _, _, _, _, _, _, _, _, _, _, _, _, by decide +kernel, rfl, fun env => ⟨_, rfl⟩⟩
  hp := ⟨_, rfl, rfl⟩
  bi := fun _ _ _ _ _ _ _ _ _ _ _ => rfl
  k := rfl
  co := rfl
  ge := rfl
  ce := by decide +kernel
  ks := rfl
  kc := rfl
  kf := rfl
  ka := rfl
end
end K06
namespace K06
open PySem PySem.Spec PyProof.Rows L2 HM
section
variable {P : Program} {w : World} {K : PySem.W.Frag} {mg : Str → Option Value} {base : Heap}
theorem scThen : FnScope ["one", "other"] ["one", "other"] (defScope sThen) := ⟨rfl, rfl, rfl, by decide +kernel, rfl, by decide +kernel, by decide +kernel⟩
def spThen (K : PySem.W.Frag) (Pt C : Addr) : Sp := fun vs H Q E => ∃ (a b : Addr) (xs ys : List Int), vs = [.ref a, .ref b] ∧ TF H a (xs.map V.int) ∧ TF H b (ys.map V.int) ∧ GxR.TabG H Pt ∧ xs.length ≤ 100 ∧ ys.length ≤ 100 ∧
  ((xs.length = ys.length ∧ inN xs ys.length ∧ ∀ H2, GxR.Tabbed Pt H H2 → newT ((thenI xs ys).map V.int) H2 Q) ∨ (xs.length ≠ ys.length ∧ ∀ d, H d = none → E (.ref C) (some d) (upd H d (.xd [("at", .int 1)]))))
theorem cell_then : ∀ y ∈ ([".0", "place", "other"] : List Str), True := fun _ _ => trivial
theorem ok_then {f c Pt C fI : Addr} {fd : FuncData} {k : Nat} {gd : Around → Prop} (F : Fun K "then" "then" sThen f fd) (N : NoT P sInit "NoTurn.__init__" K C fI) (gC : mg "NoTurn" = some (.ref C)) (mz : ∀ x ∈ bn, mg x = none) (hc : fd.code = .ref c) (TB : GxR.TabB base mg c Pt) :
    PFn gd P w K mg base (L2.CX P w) (k + 3) f fd ["one", "other"] (spThen K Pt C) := by
  refine pfnX_of F scThen (fun vs H Q E h => ?_) (fun cdv A outer s H vs Q E hcd _ hr h => ?_)
  · obtain ⟨a, b, xs, ys, rfl, _⟩ := h
    rfl
  · obtain ⟨a, b, xs, ys, rfl, hA, hB, tg, hl1, hl2, q⟩ := h
    have ml := mz "len" (by decide)
    have hcode : cdv = .ref c := hcd.symm.trans hc
    have tk : Takes (cxOf (L2.CX P w) P w K mg base ["one", "other"] "then" (defScope sThen) f cdv A outer s H E) (fun cls d _ H => E cls d H) := takes_of rfl rfl rfl rfl
    refine ⟨_, pss_cons (ps_if (pt_cmpR op_ne (pe_callB call_len_seq (by rfl) ml PySem.boot_len (pa_cons (pv 0) pa_nil)) (pe_callB call_len_seq (by rfl) ml PySem.boot_len (pa_cons (pv 1) pa_nil)) (nomark _)) (pss_one (ps_raise rfl tk (pmk_n N initS hr (by rfl) gC pe_int))) pss_nil)
      (pss_one (ps_ret (pe_tupG (c := c) (P := Pt) (Rr := fun σ v H1 zs => ∃ (a b : Addr) (xs ys : List Int), v = .ref a ∧ SqT K H1 a (xs.map V.int) ∧ SqT K H1 b (ys.map V.int) ∧ inN xs ys.length ∧ ys.length ≤ 100 ∧ σ[1]? = some (some (.ref b)) ∧ zs = (thenI xs ys).map V.int)
          hr (by rfl) (mz "tuple" (by decide)) TB hcode ⟨rfl, rfl, by decide +kernel, rfl, rfl, fun y hy e => cell_has (by revert y; decide +kernel)⟩ (pv 0) (fun _ => rfl) (fun pins σ v H1 s1 xv zs I1 r1 tg1 hR => ?gen)))), ?_⟩
    case gen =>
      obtain ⟨a, b, xs, ys, rfl, hS, hT, hin, hlz, hσ, rfl⟩ := hR
      cases (show xv = Value.ref a from r1)
      obtain ⟨its, o, fp, St, rv, B⟩ := beg_tup I1 tg1 hS
      obtain ⟨itb, rb, pb, hzb⟩ := I1.tuple hT
      refine ⟨its, o, fp, St, by rw [List.length_map, then_len, ← rv.length, List.length_map], B, fun A' cenv i u hA hdp hun e1 e2 e3 e4 hi => ?_⟩
      obtain ⟨x, hx, rx⟩ := vals_at rv hi
      rw [List.getElem?_map] at hx
      obtain ⟨z, hz, rfl⟩ := Option.map_eq_some_iff.mp hx
      obtain ⟨tk, rfl⟩ := rx
      have hzin := hin z (List.mem_of_getElem? hz)
      have hjl : z.toNat < ys.length := by omega
      have hlb : itb.length = ys.length := by rw [← rb.length, List.length_map]
      have hy : (ys.map V.int)[z.toNat]? = some (.int (ys[z.toNat]'hjl)) := by rw [List.getElem?_map, List.getElem?_eq_getElem hjl]; rfl
      obtain ⟨ub, eb, rub⟩ := rb.get hy
      obtain ⟨ps, hPt, ht⟩ := _root_.id tg1
      have hPs : s1.heap.get? Pt = some { cls := .none, data := .fields ps } := I1.hok Pt _ hPt
      have fm : Firm (fun h => GrowsBut Pt s1.heap h ∧ ∃ m, h.Ns cenv.locals m ∧ m "place" = some (.int z tk)) := fun h h' hs k => ⟨fun b ob hb e => k b ob (hs.1 b ob hb e), let ⟨m, h1, h2⟩ := hs.2; ⟨m, h1.keeps k, h2⟩⟩
      have hk : cenv.scope.kind = .function := by rw [e1]
      refine rx_mono (R := fun y => y = ub) (rx_ixT (t := b) (items := itb.toArray) (i := z) (j := z.toNat) fm (fun E s2 hs => ?_) (rx_mono (rx_local hk (by show cenv.scope.names.lookup _ = _; rw [e1]; rfl) fun h hs => hs.2) fun y e => ⟨tk, e⟩) (fun h hs => ?_) (by omega) (by omega) (by rw [List.size_toArray, hlb]; exact seqIx hzin.1 hzin.2) (by simpa using eb)) fun y e => ⟨.int (ys[z.toNat]'hjl), ?_, by rw [e]; exact rub⟩
      · obtain ⟨cc, uu, h1, h2, h3⟩ := free_cell (scope := _) (i := 1) (y := "other") (v := .ref b) I1 tg1 hs.1 rfl hσ rfl fun c0 h0 => by
          rw [← e4]
          show cenv.cells.lookup _ = _
          rw [e4]
          show List.lookup _ [(_, (_ : Option Addr).getD 0)] = some c0
          rw [h0]
          rfl
        obtain rfl := (show uu = Value.ref b from h2)
        have fr : ∀ p, RX P w A' cenv (fun h => h.IsCell cc (some (.ref b))) (.Name "other" p) (fun y => y = .ref b) := fun p => rx_free hk (by show cenv.scope.names.lookup _ = _; rw [e1]; rfl) (by rw [e4]; exact h1) (fun h hh => hh)
        exact fr _ E s2 h3
      · obtain ⟨ob, e, r⟩ := _root_.id pb
        exact ⟨ob, hs.1 b ob (fun zz => by
          rw [zz, hPs] at e
          cases e
          cases r.1) e, r⟩
      · rw [List.getElem?_map]
        unfold thenI
        rw [List.getElem?_map, hz]
        show some (V.int (ys.getD z.toNat 0)) = _
        rw [List.getD_eq_getElem?_getD, List.getElem?_eq_getElem hjl]
        rfl
    refine ⟨.ref a, rfl, a, _, rfl, .inr hA.sq, .ref b, rfl, b, _, rfl, .inr hB.sq, rfl, _, rfl, ite2 (fun e => ?_) (fun e => ?_)⟩
    · rcases q with ⟨h1, _⟩ | ⟨h1, q⟩
      · exfalso
        have e2 : (!decide (V.int ((xs.map V.int).length : Int) = V.int ((ys.map V.int).length : Int))) = true := e
        rw [List.length_map, List.length_map, h1] at e2
        simp at e2
      · exact ⟨1, rfl, by decide, by decide +kernel, fun d hd => q d hd⟩
    · rcases q with ⟨h1, h2, q⟩ | ⟨h1, _⟩
      · exact ⟨.ref a, rfl, tg, _, ⟨a, b, xs, ys, rfl, hA.sq, hB.sq, h2, hl2, rfl, rfl⟩, by rw [List.length_map, then_len, sizeLine_eq]; omega, q⟩
      · exfalso
        have e2 : ¬ (!decide (V.int ((xs.map V.int).length : Int) = V.int ((ys.map V.int).length : Int))) = true := e
        rw [List.length_map, List.length_map] at e2
        simp at e2
        omega
end
end K06
namespace K06
open PySem PySem.Spec PyProof.Rows L2 HM
abbrev sSame : Stmt := topS 32
section
variable {P : Program} {w : World} {K : PySem.W.Frag} {mg : Str → Option Value} {base : Heap}
theorem scSame : FnScope ["_law_found", "_law_due"] ["_law_found", "_law_due"] (defScope sSame) := ⟨rfl, rfl, rfl, by decide +kernel, rfl, by decide +kernel, by decide +kernel⟩
/-- two things that are the same data -/
def spSame (K : PySem.W.Frag) : Sp := fun vs H Q _ => ∃ (x y : V) (d : PyData), vs = [x, y] ∧ Dp K H x d ∧ Dp K H y d ∧ SeqAt.shaped d = true ∧ d.hasDict = false ∧ d.showable = true ∧ d.depth ≤ 40 ∧ d.shown.length ≤ sizeLine ∧ PyData.eqv d d = true ∧ Q (.bl true) H
theorem ok_same {f : Addr} {fd : FuncData} {k : Nat} (F : Fun K "_law_same" "_law_same" sSame f fd) (mz : ∀ x ∈ bn, mg x = none) : PFn noRepr P w K mg base CX0 (k + 1) f fd ["_law_found", "_law_due"] (spSame K) := by
  refine pfn_of F scSame (fun vs H Q E h => ?_) (fun cdv A outer s H vs Q E hcd hgd hr h => ?_)
  · obtain ⟨x, y, d, rfl, _⟩ := h
    rfl
  · obtain ⟨x, y, d, rfl, hx, hy, h1, h2, h3, h4, h5, h6, q⟩ := h
    have hg : (A.deeper (envOfC "_law_same" (defScope sSame) s.heap.objs.size f cdv)).guards = some [] := hgd
    have hu := hr.units
    have mp := mz "repr" (by decide)
    refine ⟨_, pss_one (ps_ret (pe_and (pe_cmpR (op_eqD hu) (pv 0) (pv 1) (nomark _)) (pe_one (pe_cmpR op_eq (pe_callB (call_reprD hg hr) (by rfl) mp (by decide +kernel) (pa_cons (pv 0) pa_nil)) (pe_callB (call_reprD hg hr) (by rfl) mp (by decide +kernel) (pa_cons (pv 1) pa_nil)) (nomark _))))), ?_⟩
    refine ⟨x, rfl, y, rfl, d, d, hx, hy, h1, h1, _, rfl, ?_⟩
    rw [h6]
    refine iteT ⟨x, rfl, x, d, rfl, .flat hx h2, h3, h4, h5, y, rfl, y, d, rfl, .flat hy h2, h3, h4, h5, rfl, ?_⟩
    rw [decide_eq_true rfl]
    exact q
end
end K06
namespace K06
open PySem PySem.Spec PyProof.Rows L2 HM
abbrev sStay : Stmt := topS 21
section
variable {P : Program} {w : World} {K : PySem.W.Frag} {mg : Str → Option Value} {base : Heap}
theorem scStay : FnScope ["many"] ["many"] (defScope sStay) := ⟨rfl, rfl, rfl, by decide +kernel, rfl, by decide +kernel, by decide +kernel⟩
def spStay : Sp := fun vs H Q _ => ∃ n : Nat, vs = [.int (n : Int)] ∧ n ≤ 100 ∧ newT ((iota n).map V.int) H Q
theorem ok_stay {f : Addr} {fd : FuncData} {k : Nat} (F : Fun K "stay_of" "stay_of" sStay f fd) (mz : ∀ x ∈ bn, mg x = none) : FnOk P w K mg base CX0 (k + 1) f fd ["many"] spStay := by
  refine F.ok scStay (fun vs H Q E h => ?_) (fun cdv A outer s H vs Q E hr h => ?_)
  · obtain ⟨n, rfl, _⟩ := h
    rfl
  · obtain ⟨n, rfl, hn, q⟩ := h
    refine ⟨_, pss_one (ps_ret (pe_tupRgF rfl (by rfl) (mz "tuple" (by decide)) (prg_1 (by rfl) (mz "range" (by decide)) (pv 0)))), ?_⟩
    refine ⟨_, rfl, (n : Int), rfl, RgOk.of_le (by decide) (by omega) (by decide) (by omega), ?_⟩
    rw [rgV0]
    exact q
end
end K06
namespace HM
open PySem PySem.Spec PyProof.Rows L2
/-- d is a turn of n things -/
def goodD (n : Int) : PyData → Bool
  | .tuple ds => turnD (.tuple ds) && decide ((ds.length : Int) = n)
  | _ => false
/-- the first thing that is no turn of n things -/
def firstBad (n : Int) : Nat → List PyData → Option Nat
  | _, [] => none
  | k, d :: r => if goodD n d = true then firstBad n (k + 1) r else some k
/-- a thing that may be asked whether it is a turn -/
def Itm (K : PySem.W.Frag) (H : Hp) (x : V) (d : PyData) : Prop := TC K H x d ∧ ∀ ds, d = .tuple ds → ds.length ≤ 4000
theorem Itm.up {K : PySem.W.Frag} {H H' : Hp} {x : V} {d : PyData} (h : Itm K H x d) (u : UpN H H') : Itm K H' x d := ⟨tc_up h.1 u, h.2⟩
theorem firstBad_lt : ∀ {n : Int} {ds : List PyData} {k i : Nat}, firstBad n k ds = some i → i < k + ds.length
  | _, [], _, _, h => by cases h
  | n, d :: r, k, i, h => by
    have h' : (if goodD n d = true then firstBad n (k + 1) r else some k) = some i := h
    rw [List.length_cons]
    by_cases g : goodD n d = true
    · rw [if_pos g] at h'
      have := firstBad_lt h'
      omega
    · rw [if_neg g] at h'
      cases h'
      omega
theorem goodD_turn {n : Nat} {d : PyData} (h : goodD n d = true) : ∃ ds, d = .tuple ds ∧ turnD (.tuple ds) = true ∧ ds.length = n := by
  cases d with
  | tuple ds =>
    have h2 : (turnD (.tuple ds) && decide ((ds.length : Int) = (n : Int))) = true := h
    rw [Bool.and_eq_true, decide_eq_true_iff] at h2
    exact ⟨ds, rfl, h2.1, by omega⟩
  | _ => cases h
end HM
namespace K06
open PySem PySem.Spec PyProof.Rows L2 HM
abbrev sChk : Stmt := topS 25
section
variable {P : Program} {w : World} {K : PySem.W.Frag} {mg : Str → Option Value} {base : Heap}
abbrev NCh : List Str := ["many", "turns", "at", "turn"]
theorem scChk : FnScope NCh ["many", "turns"] (defScope sChk) := ⟨rfl, rfl, rfl, by decide +kernel, rfl, by decide +kernel, by decide +kernel⟩
def spChk (K : PySem.W.Frag) (Pt C : Addr) : Sp := fun vs H Q E => ∃ (n : Int) (T : Addr) (xs : List V) (ds : List PyData), vs = [.int n, .ref T] ∧ SqL K H T xs ∧ Paired (Itm K H) xs ds ∧ xs.length ≤ 100 ∧ GxR.TabG H Pt ∧
  (firstBad n 0 ds = none → ∀ H', UpK Pt H H' → GxR.TabG H' Pt → Q .non H') ∧ (∀ i, firstBad n 0 ds = some i → ∀ (H' : Hp) (d : Addr), UpK Pt H H' → GxR.TabG H' Pt → H' d = none → E (.ref C) (some d) (upd H' d (.xd [("at", .int (i : Nat))])))
theorem ok_chk {f fT Pt C fI : Addr} {fd fdT : FuncData} {k : Nat} {gd : Around → Prop} (F : Fun K "check_turns" "check_turns" sChk f fd) (GT : FnOk P w K mg base CX0 (k + 2) fT fdT ["thing"] (spTurn K Pt)) (gT : mg "is_turn" = some (.ref fT)) (kT : PySem.W.keepIn K (.ref fT) = true) (bT : Binds K fdT ["thing"] [])
    (N : NoT P sInit "NoTurn.__init__" K C fI) (gC : mg "NoTurn" = some (.ref C)) (mz : ∀ x ∈ bn, mg x = none) : PFn gd P w K mg base (L2.CX P w) (k + 3) f fd ["many", "turns"] (spChk K Pt C) := by
  refine pfnX_of F scChk (fun vs H Q E h => ?_) (fun cdv A outer s H vs Q E hcd _ hr h => ?_)
  · obtain ⟨n, T, xs, ds, rfl, _⟩ := h
    rfl
  · obtain ⟨n, T, xs, ds, rfl, hT, hP, hl, tg, qy, qn⟩ := h
    have ml := mz "len" (by decide)
    have tk : Takes (cxOf (L2.CX P w) P w K mg base NCh "check_turns" (defScope sChk) f cdv A outer s H E) (fun cls d _ H => E cls d H) := takes_of rfl rfl rfl rfl
    refine ⟨_, pss_one (ps_for (passes_of rfl) rfl (pi_enum (by rfl) (mz "enumerate" (by decide)) (pa_cons (pv 1) pa_nil)) (pg_tup rfl (pgs_cons (pg_name (i := 2) scChk.nd rfl (.inl rfl)) (pgs_cons (pg_name (i := 3) scChk.nd rfl (.inl rfl)) pgs_nil)))
        (pss_one (ps_if (pw_or (pt_not (pt_val (pe_call GT hr (by rfl) gT kT bT .nil pass0 (pa_cons (pv 3) pa_nil)))) (pw_or1 (pt_cmpR op_ne (pe_callB call_len_seq (by rfl) ml PySem.boot_len (pa_cons (pv 3) pa_nil)) (pv 0) (nomark _)))).pt
          (pss_one (ps_raise rfl tk (pmk_n N initS hr (by rfl) gC (pv 2)))) pss_nil))), ?_⟩
    have hlen := hP.length
    refine ⟨_, rfl, T, xs, rfl, hT, for_it (n := xs.length) (walk_enum (xs := xs)) (fun i σ J => UpK Pt H J ∧ GxR.TabG J Pt ∧ firstBad n 0 ds = firstBad n i (ds.drop i) ∧ ∃ y2 y3, σ = [some (.int n), some (.ref T), y2, y3]) ⟨UpK.refl _ _, tg, rfl, none, none, rfl⟩
      (fun i σ J _ hP2 => sqL_up hT (hP2.1.n tg)) (fun i v σ J J2 hi hPv hY => ?_) (fun σ J hPv => ?_)⟩
    · obtain ⟨u, tgJ, hf, y2, y3, rfl⟩ := hPv
      obtain ⟨Tp, x, y, rfl, nTp, rfl, ex, ey⟩ := hY
      cases ex
      obtain ⟨d, hd, hI⟩ := pair_at hP ey
      have uP : UpK Pt H (upd J Tp (.tup [.int (i : Nat), y])) := u.lay nTp
      have tgP : GxR.TabG (upd J Tp (.tup [.int (i : Nat), y])) Pt := tab_lay tgJ nTp
      rw [drop_at hd] at hf
      have hI2 := hI.up (uP.n tg)
      refine ⟨Tp, _, rfl, .inl (.inl upd_same), rfl, _, _, rfl, _, _, rfl, rfl, ?_⟩
      refine ⟨_, rfl, y, d, rfl, hI2.1, tgP, hI2.2, fun J3 hT3 => ⟨_, rfl, ?_⟩⟩
      have u3 := uP.trans (UpK.of_tab tgP hT3)
      have bad : goodD n d = false → ∀ (d' : Addr), J3 d' = none → E (.ref C) (some d') (upd J3 d' (.xd [("at", .int (i : Nat))])) := fun hg d' nd => by
        have hf2 : firstBad n i (d :: ds.drop (i + 1)) = some i := if_neg (by rw [hg]; exact Bool.false_ne_true)
        exact qn i (hf.trans hf2) J3 d' u3 hT3.1 nd
      cases ht : turnD d with
      | false =>
        have hg : goodD n d = false := by
          cases d with
          | tuple ds' =>
            show (turnD (.tuple ds') && _) = false
            rw [ht]
            rfl
          | _ => rfl
        exact iteT (iteT ⟨_, rfl, _, rfl, (small_txt i (by omega)).1, (small_txt i (by omega)).2, fun d' nd => bad hg d' nd⟩)
      | true =>
        rcases hI2.1 with ⟨ya, ys, ds', rfl, rfl, hF, hD⟩ | ⟨T0, _, _, h3⟩
        · have hF3 := hF.up (UpN.of_tab tgP hT3)
          have hyl := dps_len hD
          refine iteF ⟨_, rfl, ya, _, rfl, .inr hF3.sq, _, rfl, rfl, _, rfl, ?_⟩
          by_cases hn : (ys.length : Int) = n
          · have hg : goodD n (.tuple ds') = true := by
              show (turnD (.tuple ds') && decide ((ds'.length : Int) = n)) = true
              rw [ht, ← hyl, decide_eq_true hn]
              rfl
            have hf2 : firstBad n i (PyData.tuple ds' :: ds.drop (i + 1)) = firstBad n (i + 1) (ds.drop (i + 1)) := if_pos hg
            rw [decide_eq_true (congrArg V.int hn)]
            exact iteF ⟨u3, hT3.1, hf.trans hf2, _, _, rfl⟩
          · have hg : goodD n (.tuple ds') = false := by
              show (turnD (.tuple ds') && decide ((ds'.length : Int) = n)) = false
              rw [← hyl, decide_eq_false hn, Bool.and_false]
            rw [decide_eq_false fun z => hn (V.int.inj z)]
            exact iteT ⟨_, rfl, _, rfl, (small_txt i (by omega)).1, (small_txt i (by omega)).2, fun d' nd => bad hg d' nd⟩
        · rw [ht] at h3
          cases h3
    · obtain ⟨u, tgJ, hf, y2, y3, rfl⟩ := hPv
      rw [List.drop_of_length_le (by omega)] at hf
      exact qy hf J u tgJ
end
end K06
namespace HM
open PySem PySem.Spec PyProof.Rows L2
theorem kds_of {K : PySem.W.Frag} {x qual : Str} {st : Stmt} {f : Addr} {fd : FuncData} (F : Fun K x qual st f fd) : PySem.W.kdsCode K fd.code = true := by
  obtain ⟨oc, od, kV, doc, pm, an, cdv, ct, osl, rfl, lk, hcd⟩ := F.ex
  exact kdsCode_of hcd
/-- how far the turns are grown -/
structure Grow (n : Nat) (gs : List (List Int)) (F : List (Addr × List Int)) (at_ : Nat) : Prop where
  nod : (F.map (·.2)).Nodup
  rch : ∀ x ∈ F.map (·.2), Reach n gs x
  one : iota n ∈ F.map (·.2)
  cl : ∀ (i : Nat) (p : Addr × List Int), i < at_ → F[i]? = some p → ∀ g ∈ gs, thenI p.2 g ∈ F.map (·.2)
  few : F.length ≤ 60
theorem Grow.closure {n : Nat} {gs : List (List Int)} {F : List (Addr × List Int)} (h : Grow n gs F F.length) : Closure n gs (F.map (·.2)) :=
  ⟨h.nod, h.rch, h.one, fun x hx g hg => by
    obtain ⟨p, hp, rfl⟩ := List.mem_map.mp hx
    obtain ⟨i, hi, e⟩ := List.getElem_of_mem hp
    exact h.cl i p hi (by rw [List.getElem?_eq_getElem hi, e]) g hg, by rw [List.length_map]; exact h.few⟩
theorem Grow.more {n : Nat} {gs : List (List Int)} {F : List (Addr × List Int)} {at_ : Nat} {r : Addr} {x : List Int} (h : Grow n gs F at_) (ha : at_ ≤ F.length) (hx : x ∉ F.map (·.2)) (rx : Reach n gs x) (hl : F.length < 60) : Grow n gs (F ++ [(r, x)]) at_ := by
  have e : (F ++ [(r, x)]).map (·.2) = F.map (·.2) ++ [x] := by rw [List.map_append]; rfl
  refine ⟨?_, fun y hy => ?_, ?_, fun i p hi hp g hg => ?_, by rw [List.length_append]; exact hl⟩
  · rw [e, List.nodup_append]
    exact ⟨h.nod, by simp, fun a ha b hb z => hx (by rw [List.mem_singleton.mp hb] at z; rw [← z]; exact ha)⟩
  · rw [e] at hy
    rcases List.mem_append.mp hy with hy | hy
    · exact h.rch y hy
    · rw [List.mem_singleton.mp hy]
      exact rx
  · rw [e]
    exact List.mem_append_left _ h.one
  · rw [e]
    rw [List.getElem?_append_left (by omega)] at hp
    exact List.mem_append_left _ (h.cl i p hi hp g hg)
end HM
namespace K06
open PySem PySem.Spec PyProof.Rows L2 HM
abbrev sGrow : Stmt := topS 26
section
variable {P : Program} {w : World} {K : PySem.W.Frag} {mg : Str → Option Value} {base : Heap}
abbrev NGr : List Str := ["many", "turns", "stay", "found", "seen", "at", "turn", "grown"]
theorem scGrow : FnScope NGr ["many", "turns"] (defScope sGrow) := ⟨rfl, rfl, rfl, by decide +kernel, rfl, by decide +kernel, by decide +kernel⟩
/-- what is known of TooMany -/
structure TmOk (K : PySem.W.Frag) (mg : Str → Option Value) (C : Addr) : Prop where
  q : PySem.W.excIn K C [.type "ValueError", .type "Exception", .type "BaseException", .type "object"] "ValueError.__new__" = true
  g : mg "TooMany" = some (.ref C)
  k : PySem.W.keepIn K (.ref C) = true
  s : PySem.W.subIn K (.ref C) (.type "BaseException") = some true
  t : PySem.W.typeIn K (.ref C) = some (.type "type")
def spGrow (K : PySem.W.Frag) (Pt CT : Addr) : Sp := fun vs H Q E => ∃ (n : Nat) (T : Addr) (gs : List (Addr × List Int)), vs = [.int (n : Int), .ref T] ∧ SqL K H T (refsOf gs) ∧ TupsF H gs ∧ (∀ g ∈ gs, isT n g.2) ∧ n ≤ 7 ∧ GxR.TabG H Pt ∧
  (∀ (Fd : Addr) (F : List (Addr × List Int)) (H' : Hp), UpK Pt H H' → GxR.TabG H' Pt → H' Fd = some (.lst (refsOf F)) → TupsF H' F → Closure n (gs.map (·.2)) (F.map (·.2)) → Q (.ref Fd) H') ∧
  (Big n (gs.map (·.2)) → ∀ (H' : Hp), UpK Pt H H' → GxR.TabG H' Pt → E (.ref CT) none H')
theorem ok_grow {f fS fT Pt C CT : Addr} {fd fdS fdT : FuncData} {k : Nat} {gd : Around → Prop} {tM : Tok} (F : Fun K "turns_grown" "turns_grown" sGrow f fd) (GS : FnOk P w K mg base CX0 (k + 3) fS fdS ["many"] spStay) (GT : PFn anyA P w K mg base (L2.CX P w) (k + 3) fT fdT ["one", "other"] (spThen K Pt C))
    (gS : mg "stay_of" = some (.ref fS)) (gT : mg "then" = some (.ref fT)) (kS : PySem.W.keepIn K (.ref fS) = true) (kT : PySem.W.keepIn K (.ref fT) = true) (bS : Binds K fdS ["many"] []) (bT : Binds K fdT ["one", "other"] []) (gM : mg "MOST_TURNS" = some (.int 60 tM)) (TM : TmOk K mg CT) (mz : ∀ x ∈ bn, mg x = none) :
    PFn gd P w K mg base (L2.CX P w) (k + 4) f fd ["many", "turns"] (spGrow K Pt CT) := by
  refine pfnX_of F scGrow (fun vs H Q E h => ?_) (fun cdv A outer s H vs Q E hcd _ hr h => ?_)
  · obtain ⟨n, T, gs, rfl, _⟩ := h
    rfl
  · obtain ⟨n, T, gs, rfl, hT, hTF, hgs, hn, tg, qy, qb⟩ := h
    have ml := mz "len" (by decide)
    have hu := hr.units
    have hkd : PySem.W.kdsCode K cdv = true := by rw [← hcd]; exact kds_of F
    have tk : Takes (cxOf (L2.CX P w) P w K mg base NGr "turns_grown" (defScope sGrow) f cdv A outer s H E) (fun cls d _ H => E cls d H) := takes_of rfl rfl rfl rfl
    refine ⟨_, pss_cons (ps_set (i := 2) scGrow.nd rfl (.inl rfl) (pe_call GS hr (by rfl) gS kS bS .nil pass0 (pa_cons (pv 0) pa_nil)))
      (pss_cons (ps_set (i := 3) scGrow.nd rfl (.inl rfl) (pe_lst (pa_cons (pv 2) pa_nil)))
      (pss_cons (ps_set (i := 4) scGrow.nd rfl (.inl rfl) (pe_setOne hu hkd (pv 2) : PE _ _ (tSetOne K P w (tVar 2))))
      (pss_cons (ps_set (i := 5) scGrow.nd rfl (.inl rfl) pe_int)
      (pss_cons (ps_while (passes_of rfl) (pt_cmpR op_lt (pv 5) (pe_callB call_len_seq (by rfl) ml PySem.boot_len (pa_cons (pv 3) pa_nil)) (nomark _))
        (pss_cons (ps_for (passes_of rfl) rfl (pi_list (pv 1)) (pg_name (i := 6) scGrow.nd rfl (.inl rfl))
          (pss_cons (ps_set (i := 7) scGrow.nd rfl (.inl rfl) (pe_callP GT trivial hr (by rfl) gT kT bT passX (pa_cons (pe_ix ix_list (pv 3) (pv 5) (fun _ _ => rfl)) (pa_cons (pv 6) pa_nil))))
          (pss_one (ps_if (pt_cmpR (or_notinT hu) (pv 7) (pv 4) (by first | rfl | with_unfolding_all rfl))
            (pss_cons (ps_if (pt_cmpR op_eq (pe_callB call_len_seq (by rfl) ml PySem.boot_len (pa_cons (pv 3) pa_nil)) (pe_glob (v := .int 60) (by rfl) gM ⟨_, rfl⟩) (nomark _)) (pss_one (ps_raise rfl tk (pmk_own0 PySem.F.excBase_ValueError TM.q TM.g TM.k (raises_own TM.s TM.t) (by rfl)))) pss_nil)
            (pss_cons (ps_expr (pe_addT hu (pv 4) (pa_cons (pv 7) pa_nil) : PE _ _ (tAddT K P w (tVar 4) (tCons (tVar 7) tNil))))
            (pss_one (ps_expr (pe_bm PySem.F.plainAttrs_list PySem.F.slot_list_append PySem.F.type_list_append mt_append (pv 3) (pa_cons (pv 7) pa_nil)))))) pss_nil))))
        (pss_one (ps_aug (i := 5) scGrow.nd rfl (.inl rfl) pe_int ip_add))))
      (pss_one (ps_ret (pv 3))))))), ?_⟩
    obtain ⟨gs', egs⟩ : ∃ gs', gs' = gs.map (·.2) := ⟨_, rfl⟩
    rw [← egs] at qy qb
    have hgs' : ∀ g ∈ gs', isT n g := fun g hg => by
      rw [egs] at hg
      obtain ⟨p, hp, rfl⟩ := List.mem_map.mp hg
      exact hgs p hp
    refine ⟨_, rfl, n, rfl, by omega, new_rd fun S H1 s1 nS _ tS => ?_⟩
    refine ⟨_, rfl, by show 1 ≤ sizeLine; decide, fun Fd nF => ?_⟩
    intro Sd nSd
    have nSF : Sd ≠ Fd := fun z => by
      rw [z, upd_same] at nSd
      cases nSd
    obtain ⟨H2, eH2⟩ : ∃ H2, H2 = upd (upd H1 Fd (.lst [.ref S])) Sd (SetTO P w Sd []) := ⟨_, rfl⟩
    have s2 : Same H1 H2 := fun b o e => by rw [eH2]; exact same_lay nSd _ _ (same_lay nF _ _ e)
    have tS2 := tS.up (.of_same s2)
    refine ⟨.ref S, rfl, S, iota n, rfl, (by rw [← eH2]; exact tS2.sq), upd_same, ?_⟩
    rw [upd_upd]
    obtain ⟨H3, eH3⟩ : ∃ H3, H3 = upd (upd H1 Fd (.lst [.ref S])) Sd (SetTO P w Sd [(S, iota n)]) := ⟨_, rfl⟩
    rw [← eH3]
    have s3 : Same H1 H3 := fun b o e => by rw [eH3]; exact same_lay nSd _ _ (same_lay nF _ _ e)
    have sH3 : Same H H3 := fun b o e => s3 _ _ (s1 _ _ e)
    have eF3 : H3 Fd = some (.lst [.ref S]) := by rw [eH3, upd_ne nSF.symm]; exact upd_same
    have eS3 : H3 Sd = some (SetTO P w Sd [(S, iota n)]) := by rw [eH3]; exact upd_same
    have nFH : H Fd = none := by
      cases e : H Fd with
      | none => rfl
      | some o =>
        rw [s1 _ _ e] at nF
        cases nF
    have nSH : H Sd = none := by
      cases e : H Sd with
      | none => rfl
      | some o =>
        rw [same_lay nF _ _ (s1 _ _ e)] at nSd
        cases nSd
    have tS3 := tS.up (.of_same s3)
    -- what holds all along
    let I : List (Addr × List Int) → Nat → Hp → Prop := fun Fl at_ J => ∃ Ls, J Fd = some (.lst (refsOf Fl)) ∧ J Sd = some (SetTO P w Sd Ls) ∧ Ls.Perm Fl ∧ TupsF J Fl ∧ Grow n gs' Fl at_ ∧ UpK Pt H J ∧ GxR.TabG J Pt
    refine ⟨fun m σ J => ∃ (Fl : List (Addr × List Int)) (at_ : Nat) (y6 y7 : Option V), σ = [some (.int (n : Int)), some (.ref T), some (.ref S), some (.ref Fd), some (.ref Sd), some (.int (at_ : Int)), y6, y7] ∧ m = 61 - at_ ∧ at_ ≤ Fl.length ∧ I Fl at_ J,
      ⟨_, [(S, iota n)], 0, none, none, rfl, rfl, Nat.zero_le _, [(S, iota n)], eF3, eS3, List.Perm.refl _, fun p hp => by rw [List.mem_singleton.mp hp]; exact tS3, ⟨by simp, fun x hx => by rw [List.mem_singleton.mp hx]; exact .stay, by simp, fun i p hi => absurd hi (Nat.not_lt_zero i), by show 1 ≤ 60; decide⟩, .of_same sH3, tab_same tg sH3⟩, fun m σ J hW => ?_⟩
    obtain ⟨Fl, at_, y6, y7, rfl, rfl, hat, Ls, eF, eS, hpm, hTFl, hG, uJ, tgJ⟩ := hW
    have hfew := hG.few
    refine ⟨_, rfl, _, rfl, Fd, _, rfl, .inl (.inl (.inl eF)), _, _, rfl, rfl, _, rfl, ite2 (fun e => ?_) (fun e => ?_)⟩
    · have hlt : at_ < Fl.length := by
        have := of_decide_eq_true e
        rw [List.length_map] at this
        omega
      obtain ⟨p0, hp0⟩ : ∃ p0, Fl[at_]? = some p0 := ⟨_, List.getElem?_eq_getElem hlt⟩
      have hr0 : Reach n gs' p0.2 := hG.rch _ (List.mem_map.mpr ⟨p0, List.mem_of_getElem? hp0, rfl⟩)
      have hT0 := hr0.isT hgs'
      refine ⟨fun σ' J' => ∃ m', m' < 61 - at_ ∧ _, fun σ' J' h => h, ?_⟩
      refine ⟨_, rfl, T, rfl, ⟨_, sqL_up hT (uJ.n tg)⟩, for_list (xs := refsOf gs) (fun j σ J2 => ∃ (F2 ext : List (Addr × List Int)) (y6 y7 : Option V), σ = [some (.int (n : Int)), some (.ref T), some (.ref S), some (.ref Fd), some (.ref Sd), some (.int (at_ : Int)), y6, y7] ∧ F2 = Fl ++ ext ∧ I F2 at_ J2 ∧ ∀ g ∈ gs'.take j, thenI p0.2 g ∈ F2.map (·.2))
        ⟨Fl, [], y6, y7, rfl, by rw [List.append_nil], ⟨Ls, eF, eS, hpm, hTFl, hG, uJ, tgJ⟩, fun g hg => by rw [List.take_zero] at hg; cases hg⟩ (fun j σ J2 _ hW2 => ?_) (fun j x σ J2 hx hW2 => ?_) (fun σ J2 hW2 => ?_)⟩
      · obtain ⟨_, _, _, _, _, _, ⟨_, _, _, _, _, _, u2, _⟩, _⟩ := hW2
        exact sqL_up hT (u2.n tg)
      · obtain ⟨F2, ext, y6, y7, rfl, eF2, ⟨L2, eFd, eSd, hp2, hTF2, hG2, u2, tg2⟩, hcl⟩ := hW2
        rw [List.getElem?_map] at hx
        obtain ⟨gp, hgp, rfl⟩ := Option.map_eq_some_iff.mp hx
        have hTg := hgs gp (List.mem_of_getElem? hgp)
        have hgm : gs'[j]? = some gp.2 := by rw [egs, List.getElem?_map, hgp]; rfl
        have hp02 : F2[at_]? = some p0 := by rw [eF2, List.getElem?_append_left hlt]; exact hp0
        have hat2 : atI (refsOf F2) ((at_ : Nat) : Int) = some (.ref p0.1) := atI_nat (by rw [List.getElem?_map, hp02]; rfl)
        have hTFp := hTF2 p0 (List.mem_of_getElem? hp02)
        have hTFg := hTF.up (u2.n tg) gp (List.mem_of_getElem? hgp)
        have hfew2 := hG2.few
        refine ⟨_, rfl, _, rfl, Fd, _, _, _, rfl, rfl, .inl (.inl eFd), hat2, _, rfl, p0.1, gp.1, p0.2, gp.2, rfl, hTFp, hTFg, tg2, by rw [hT0.len]; omega, by rw [hTg.len]; omega, .inl ⟨by rw [hT0.len, hTg.len], by rw [hTg.len]; exact hT0.ran, fun J3 hJ3 => new_rd fun r J4 s4 nr hk4 t4 => ?_⟩⟩
        have u24 : UpN J2 J4 := (UpN.of_tab tg2 hJ3).trans (.of_same s4)
        have uH4 : UpK Pt H J4 := (u2.trans (UpK.of_tab tg2 hJ3)).trans (.of_same s4)
        have tg4 := tab_same hJ3.1 s4
        have eFd4 : J4 Fd = some (.lst (refsOf F2)) := u24 _ _ eFd fun q z => by cases z
        have eSd4 : J4 Sd = some (SetTO P w Sd L2) := u24 _ _ eSd fun q z => by cases z
        have hTF4 := hTF2.up u24
        have hTL4 : TupsF J4 L2 := fun p hp => hTF4 p (hp2.mem_iff.mp hp)
        have hrn : Reach n gs' (thenI p0.2 gp.2) := .step hr0 (List.mem_of_getElem? hgm)
        have hmem : thenI p0.2 gp.2 ∈ L2.map (·.2) ↔ thenI p0.2 gp.2 ∈ F2.map (·.2) := (hp2.map (·.2)).mem_iff
        refine ⟨_, rfl, _, rfl, r, Sd, thenI p0.2 gp.2, L2, rfl, rfl, t4.sq, eSd4, hTL4.sq, _, rfl, ?_⟩
        by_cases hin : thenI p0.2 gp.2 ∈ L2.map (·.2)
        · rw [decide_eq_true hin]
          refine iteF ⟨F2, ext, _, _, rfl, eF2, ⟨L2, eFd4, eSd4, hp2, hTF4, hG2, uH4, tg4⟩, fun g hg => ?_⟩
          rw [take_snoc hgm] at hg
          rcases List.mem_append.mp hg with hg | hg
          · exact hcl g hg
          · rw [List.mem_singleton.mp hg]
            exact hmem.mp hin
        · rw [decide_eq_false hin]
          have hnin : thenI p0.2 gp.2 ∉ F2.map (·.2) := fun z => hin (hmem.mpr z)
          refine iteT ⟨_, rfl, Fd, _, rfl, .inl (.inl (.inl eFd4)), rfl, _, rfl, ite2 (fun e60 => ?_) (fun e60 => ?_)⟩
          · have h60 : F2.length = 60 := by
              have := V.int.inj (of_decide_eq_true e60)
              rw [List.length_map] at this
              omega
            refine qb ⟨F2.map (·.2) ++ [thenI p0.2 gp.2], ?_, by rw [List.length_append, List.length_map, h60]; rfl, fun x hx => ?_⟩ J4 uH4 tg4
            · rw [List.nodup_append]
              exact ⟨hG2.nod, by simp, fun a ha b hb z => hnin (by rw [List.mem_singleton.mp hb] at z; rw [← z]; exact ha)⟩
            · rcases List.mem_append.mp hx with hx | hx
              · exact hG2.rch x hx
              · rw [List.mem_singleton.mp hx]
                exact hrn
          · have h60 : F2.length < 60 := by
              have : ¬ F2.length = 60 := fun z => e60 (decide_eq_true (by rw [List.length_map, z]; rfl))
              omega
            have hL60 : L2.length = F2.length := hp2.length_eq
            refine ⟨_, rfl, ⟨Sd, L2, rfl, eSd4, hTL4.sq⟩, _, rfl, r, Sd, thenI p0.2 gp.2, L2, rfl, rfl, t4.sq, eSd4, hTL4.sq, by omega, fun L3 _ hL3 => ?_⟩
            have hL3' := hL3 hin
            obtain ⟨J5, eJ5⟩ : ∃ J5, J5 = upd J4 Sd (SetTO P w Sd L3) := ⟨_, rfl⟩
            rw [← eJ5]
            have eFd5 : J5 Fd = some (.lst (refsOf F2)) := by rw [eJ5, upd_ne nSF.symm]; exact eFd4
            refine ⟨_, rfl, .inl ⟨rfl, _, .inl (.inl eFd5)⟩, _, rfl, Fd, _, _, rfl, rfl, eFd5, small1000 (by rw [List.length_map]; omega), ?_⟩
            obtain ⟨J6, eJ6⟩ : ∃ J6, J6 = upd J5 Fd (.lst (refsOf F2 ++ [.ref r])) := ⟨_, rfl⟩
            rw [← eJ6]
            have tf6 : ∀ {b : Addr} {xs : List V}, TF J4 b xs → TF J6 b xs := fun {b xs} h => by
              obtain ⟨o, g1, g2⟩ := h
              refine ⟨o, g1, ?_⟩
              rw [eJ6, upd_ne (fun z => by rw [z, eFd4] at g2; cases g2), eJ5, upd_ne (fun z => by rw [z, eSd4] at g2; cases g2)]
              exact g2
            have eS6 : J6 Sd = some (SetTO P w Sd L3) := by rw [eJ6, upd_ne nSF, eJ5]; exact upd_same
            have eF6 : J6 Fd = some (.lst (refsOf (F2 ++ [(r, thenI p0.2 gp.2)]))) := by rw [eJ6, upd_same]; simp [refsOf]
            have uH6 : UpK Pt H J6 := by rw [eJ6, eJ5]; exact (uH4.set nSH).set nFH
            have tg6 : GxR.TabG J6 Pt := by
              obtain ⟨ps, e1, e2⟩ := tg4
              refine ⟨ps, ?_, e2⟩
              rw [eJ6, upd_ne (fun z => by rw [z, eFd4] at e1; cases e1), eJ5, upd_ne (fun z => by rw [z, eSd4] at e1; cases e1)]
              exact e1
            refine ⟨F2 ++ [(r, thenI p0.2 gp.2)], ext ++ [(r, thenI p0.2 gp.2)], _, _, rfl, by rw [eF2, List.append_assoc], ⟨L3, eF6, eS6, hL3'.trans ?_, fun p hp => ?_, hG2.more (by rw [eF2, List.length_append]; omega) hnin hrn h60, uH6, tg6⟩, fun g hg => ?_⟩
            · exact ((List.Perm.cons _ hp2).trans (List.perm_append_singleton _ _).symm)
            · rcases List.mem_append.mp hp with hp | hp
              · exact tf6 (hTF4 p hp)
              · rw [List.mem_singleton.mp hp]
                exact tf6 t4
            · rw [List.map_append]
              rw [take_snoc hgm] at hg
              rcases List.mem_append.mp hg with hg | hg
              · exact List.mem_append_left _ (hcl g hg)
              · rw [List.mem_singleton.mp hg]
                exact List.mem_append_right _ (List.mem_singleton.mpr rfl)
      · obtain ⟨F2, ext, y6, y7, rfl, eF2, ⟨L2, eFd, eSd, hp2, hTF2, hG2, u2, tg2⟩, hcl⟩ := hW2
        have hlg : (refsOf gs).length = gs'.length := by rw [egs, List.length_map, List.length_map]
        rw [hlg, List.take_of_length_le (Nat.le_refl _)] at hcl
        have hlF2 : Fl.length ≤ F2.length := by rw [eF2, List.length_append]; omega
        refine ⟨.int (at_ : Int), rfl, _, _, rfl, rfl, 61 - (at_ + 1), by omega, F2, at_ + 1, _, _, rfl, rfl, by omega, L2, eFd, eSd, hp2, hTF2, ⟨hG2.nod, hG2.rch, hG2.one, fun i p hi hp g hg => ?_, hG2.few⟩, u2, tg2⟩
        by_cases z : i = at_
        · subst z
          have hp02 : F2[i]? = some p0 := by rw [eF2, List.getElem?_append_left hlt]; exact hp0
          rw [hp02] at hp
          cases hp
          exact hcl g hg
        · exact hG2.cl i p (by omega) hp g hg
    · have hge : at_ = Fl.length := by
        have : ¬ (at_ : Int) < ((refsOf Fl).length : Int) := fun z => e (decide_eq_true z)
        rw [List.length_map] at this
        omega
      subst hge
      exact ⟨_, rfl, qy Fd Fl J uJ tgJ eF hTFl hG.closure⟩
end
end K06
namespace HM
open PySem PySem.Spec PyProof.Rows L2
theorem perm_inv {α β : Type} {f : α → β} : ∀ {F : List α} {ys : List β}, ys.Perm (F.map f) → ∃ F' : List α, F'.Perm F ∧ ys = F'.map f
  | [], ys, h => ⟨[], List.Perm.refl _, List.Perm.eq_nil h⟩
  | a :: F, ys, h => by
    have hm : f a ∈ ys := h.mem_iff.mpr List.mem_cons_self
    obtain ⟨l1, l2, rfl⟩ := List.append_of_mem hm
    have h2 : (l1 ++ l2).Perm (F.map f) := List.Perm.cons_inv (List.perm_middle.symm.trans h)
    obtain ⟨F', g1, g2⟩ := perm_inv h2
    obtain ⟨A, B, rfl, e1, e2⟩ := List.map_eq_append_iff.mp g2.symm
    exact ⟨A ++ a :: B, List.perm_middle.trans (List.Perm.cons _ g1), by rw [List.map_append, List.map_cons, e1, e2]⟩
theorem closure_congr {n : Nat} {a b F : List (List Int)} (h : ∀ g, g ∈ a ↔ g ∈ b) (c : Closure n a F) : Closure n b F :=
  ⟨c.nod, fun x hx => (c.rch x hx).mono fun g hg => (h g).mp hg, c.one, fun x hx g hg => c.cl x hx g ((h g).mpr hg), c.few⟩
theorem closure_perm {n : Nat} {a F F' : List (List Int)} (h : F'.Perm F) (c : Closure n a F) : Closure n a F' :=
  ⟨h.nodup_iff.mpr c.nod, fun x hx => c.rch x (h.mem_iff.mp hx), h.mem_iff.mpr c.one, fun x hx g hg => h.mem_iff.mpr (c.cl x (h.mem_iff.mp hx) g hg), by rw [h.length_eq]; exact c.few⟩
theorem big_congr {n : Nat} {a b : List (List Int)} (h : ∀ g, g ∈ a ↔ g ∈ b) (c : Big n a) : Big n b := let ⟨l, h1, h2, h3⟩ := c; ⟨l, h1, h2, fun x hx => (h3 x hx).mono fun g hg => (h g).mp hg⟩
theorem turn_isT {n : Nat} {ds : List PyData} (h : turnD (.tuple ds) = true) (hl : ds.length = n) : isT n (ds.map itD) ∧ ds.all (numD n) = true := by
  have h2 : eachOnce ds ds.length = true := by
    unfold turnD at h
    rw [Bool.and_eq_true] at h
    exact h.2
  unfold eachOnce at h2
  rw [Bool.and_eq_true, Bool.and_eq_true, decide_eq_true_iff (p := (ds.map itD).Nodup)] at h2
  rw [hl] at h2
  refine ⟨⟨by rw [List.length_map]; exact hl, fun z hz => ?_, h2.2.2⟩, h2.2.1⟩
  obtain ⟨d, hd, rfl⟩ := List.mem_map.mp hz
  have h3 := List.all_eq_true.mp h2.2.1 d hd
  cases d with
  | int i =>
    have h4 : (decide (0 ≤ i) && decide (i < (n : Int))) = true := h3
    rw [Bool.and_eq_true, decide_eq_true_iff, decide_eq_true_iff] at h4
    exact h4
  | _ => cases h3
theorem good_all {K : PySem.W.Frag} {H : Hp} {n : Nat} : ∀ {xs : List V} {ds : List PyData} {k : Nat}, Paired (Itm K H) xs ds → firstBad n k ds = none → ∃ gs : List (Addr × List Int), xs = refsOf gs ∧ TupsF H gs ∧ (∀ g ∈ gs, isT n g.2)
  | _, _, _, .nil, _ => ⟨[], rfl, fun p hp => (by cases hp), fun g hg => (by cases hg)⟩
  | x :: xs, d :: ds, k, .cons h t, hf => by
    have h' : (if goodD n d = true then firstBad n (k + 1) ds else some k) = none := hf
    by_cases hg : goodD n d = true
    · rw [if_pos hg] at h'
      obtain ⟨gs, e, g1, g2⟩ := good_all t h'
      obtain ⟨ds', rfl, ht, hl⟩ := goodD_turn hg
      obtain ⟨hT, hnum⟩ := turn_isT ht hl
      rcases h.1 with ⟨ya, ys, ds2, rfl, e2, hF, hD⟩ | ⟨T0, _, _, h3⟩
      · cases e2
        have hx : ys = (ds'.map itD).map V.int := by
          have h5 := all_ints (n := n) (xs := ys) (by rw [dps_num n hD]; exact hnum)
          rw [dps_int hD] at h5
          exact h5
        rw [hx] at hF
        refine ⟨(ya, ds'.map itD) :: gs, by rw [e]; rfl, fun p hp => ?_, fun g hg => ?_⟩
        · rcases List.mem_cons.mp hp with rfl | hp
          · exact hF
          · exact g1 p hp
        · rcases List.mem_cons.mp hg with rfl | hg
          · exact hT
          · exact g2 g hg
      · rw [ht] at h3
        cases h3
    · rw [if_neg hg] at h'
      cases h'
theorem bd8 {n : Nat} {l : List Int} (h : isT n l) (hn : n ≤ 7) : TS.Bd 8 l := fun z hz => by
  have := h.ran z hz
  omega
end HM
namespace K06
open PySem PySem.Spec PyProof.Rows L2 HM
abbrev sGof : Stmt := topS 27
section
variable {P : Program} {w : World} {K : PySem.W.Frag} {mg : Str → Option Value} {base : Heap}
theorem scGof : FnScope ["many", "turns"] ["many", "turns"] (defScope sGof) := ⟨rfl, rfl, rfl, by decide +kernel, rfl, by decide +kernel, by decide +kernel⟩
/-- kept but for the two tables, which stay tables -/
structure Up2 (PH PT : Addr) (H H' : Hp) : Prop where
  u : UpN H H'
  h : GxR.TabG H' PH
  t : GxR.TabG H' PT
def spGof (K : PySem.W.Frag) (PH PT C CT : Addr) : Sp := fun vs H Q E => ∃ (n : Int) (T : Addr) (xs : List V) (ds : List PyData), vs = [.int n, .ref T] ∧ SqL K H T xs ∧ Paired (Itm K H) xs ds ∧ xs.length < 64 ∧ GxR.TabG H PH ∧ GxR.TabG H PT ∧
  (¬ (1 ≤ n ∧ n ≤ 7) → ∀ d, H d = none → E (.ref C) (some d) (upd H d (.xd [("at", .int (-1))]))) ∧
  (1 ≤ n → n ≤ 7 → (∀ i, firstBad n 0 ds = some i → ∀ (H' : Hp) (d : Addr), Up2 PH PT H H' → H' d = none → E (.ref C) (some d) (upd H' d (.xd [("at", .int (i : Nat))]))) ∧
    (firstBad n 0 ds = none → ∀ gs : List (Addr × List Int), xs = refsOf gs → TupsF H gs → (∀ g ∈ gs, isT n.toNat g.2) →
      (∀ (R : Addr) (F : List (Addr × List Int)) (H' : Hp), Up2 PH PT H H' → TF H' R (refsOf F) → TupsF H' F → Closure n.toNat (gs.map (·.2)) (F.map (·.2)) → F.Pairwise (fun q r => TS.code 8 q.2 ≤ TS.code 8 r.2) → Q (.ref R) H') ∧
      (Big n.toNat (gs.map (·.2)) → ∀ H', Up2 PH PT H H' → E (.ref CT) none H')))
theorem ok_gof {f fC fK fG PH PT C CT fI : Addr} {fd fdC fdK fdG : FuncData} {k : Nat} {gd : Around → Prop} (F : Fun K "group_of" "group_of" sGof f fd) (GC : FnOk P w K mg base CX0 (k + 4) fC fdC ["many"] spCan) (GK : PFn anyA P w K mg base (L2.CX P w) (k + 4) fK fdK ["many", "turns"] (spChk K PH C)) (GG : PFn anyA P w K mg base (L2.CX P w) (k + 4) fG fdG ["many", "turns"] (spGrow K PT CT))
    (gCn : mg "can_be_turned" = some (.ref fC)) (gK : mg "check_turns" = some (.ref fK)) (gG : mg "turns_grown" = some (.ref fG)) (kC : PySem.W.keepIn K (.ref fC) = true) (kK : PySem.W.keepIn K (.ref fK) = true) (kG : PySem.W.keepIn K (.ref fG) = true)
    (bC : Binds K fdC ["many"] []) (bK : Binds K fdK ["many", "turns"] []) (bG : Binds K fdG ["many", "turns"] []) (N : NoT P sInit "NoTurn.__init__" K C fI) (gC : mg "NoTurn" = some (.ref C)) (mz : ∀ x ∈ bn, mg x = none) :
    PFn gd P w K mg base (L2.CX P w) (k + 5) f fd ["many", "turns"] (spGof K PH PT C CT) := by
  refine pfnX_of F scGof (fun vs H Q E h => ?_) (fun cdv A outer s H vs Q E hcd _ hr h => ?_)
  · obtain ⟨n, T, xs, ds, rfl, _⟩ := h
    rfl
  · obtain ⟨n, T, xs, ds, rfl, hT, hP, hl, tgH, tgT, qn, qy⟩ := h
    have hu := hr.units
    have ms := mz "sorted" (by decide)
    have tk : Takes (cxOf (L2.CX P w) P w K mg base ["many", "turns"] "group_of" (defScope sGof) f cdv A outer s H E) (fun cls d _ H => E cls d H) := takes_of rfl rfl rfl rfl
    obtain ⟨dd, hdd, hdn⟩ : ∃ dd : Nat, 1 ≤ dd ∧ (1 ≤ n → dd = n.toNat) := by
      by_cases h1 : 1 ≤ n
      · exact ⟨n.toNat, by omega, fun _ => rfl⟩
      · exact ⟨1, Nat.le_refl _, fun z => absurd z h1⟩
    refine ⟨_, pss_cons (ps_if (pt_not (pt_val (pe_call GC hr (by rfl) gCn kC bC .nil pass0 (pa_cons (pv 0) pa_nil)))) (pss_one (ps_raise rfl tk (pmk_n N initS hr (by rfl) gC (pe_un un_neg pe_int)))) pss_nil)
      (pss_cons (ps_expr (pe_callP GK trivial hr (by rfl) gK kK bK (passes_call tk fun _ _ _ _ h => h) (pa_cons (pv 0) (pa_cons (pv 1) pa_nil))))
      (pss_one (ps_ret (pe_tupOfF (by rfl) (mz "tuple" (by decide)) (pe_callB (cr_sortT (d := dd) (B := 8) hdd) (by rfl) ms (by decide +kernel) (pa_cons (pe_callP GG trivial hr (by rfl) gG kG bG (passes_call tk fun _ _ _ _ h => h)
        (pa_cons (pv 0) (pa_cons (pe_callB (cr_sortedT rfl) (by rfl) ms (by decide +kernel) (pa_cons (pe_callTy (cr_setOfT rfl hu) (by rfl) (mz "set" (by decide)) (by decide +kernel) (pa_cons (pv 1) pa_nil)) pa_nil)) pa_nil))) pa_nil)))))), ?_⟩
    refine ⟨_, rfl, n, rfl, _, rfl, ?_⟩
    by_cases hn : ¬ (1 ≤ n ∧ n ≤ 7)
    · have e1 : (decide (1 ≤ n) && decide (n ≤ 7)) = false := by
        by_cases h1 : 1 ≤ n
        · rw [decide_eq_true h1, Bool.true_and]
          exact decide_eq_false fun h2 => hn ⟨h1, h2⟩
        · rw [decide_eq_false h1, Bool.false_and]
      rw [e1]
      exact iteT ⟨1, rfl, -1, rfl, by decide, by decide +kernel, fun d hd => qn hn d hd⟩
    replace hn := Decidable.not_not.mp hn
    rw [decide_eq_true hn.1, decide_eq_true hn.2]
    refine iteF ?_
    obtain ⟨q1, q2⟩ := qy hn.1 hn.2
    obtain ⟨m, rfl⟩ : ∃ m : Nat, n = (m : Int) := ⟨n.toNat, by omega⟩
    have hdm : dd = m := by rw [hdn hn.1, Int.toNat_natCast]
    subst hdm
    rw [Int.toNat_natCast] at q2
    refine ⟨_, rfl, _, rfl, (dd : Int), T, xs, ds, rfl, hT, hP, by omega, tgH, fun hf J1 u1 tg1 => ?_, fun i hf J1 d u1 tg1 nd => ?_⟩
    · obtain ⟨gs, egs, hTF, hgs⟩ := good_all hP hf
      obtain ⟨q3, q4⟩ := q2 hf gs egs hTF hgs
      have n1 := u1.n tgH
      have tgT1 := u1.tab tg1 tgT
      have hT1 : SqL K J1 T (refsOf gs) := by rw [← egs]; exact sqL_up hT n1
      have hTF1 := hTF.up n1
      have hgl : gs.length < 64 := by rw [egs, List.length_map] at hl; exact hl
      refine ⟨_, rfl, _, rfl, T, gs, rfl, hT1, hTF1.sq, hgl, fun Sa L nSa hL1 hL2 => ?_⟩
      have s2 : Same J1 (upd J1 Sa (SetTO P w Sa L)) := same_lay nSa
      have hTL : TupsF J1 L := fun p hp => hTF1 p (hL1 p hp)
      refine ⟨Sa, L, dd, 8, rfl, upd_same, (hTL.up (.of_same s2)).sq, hdd, fun p hp => ⟨(hgs p (hL1 p hp)).len, bd8 (hgs p (hL1 p hp)) (by omega)⟩, fun L' T2 hpm _ _ _ nT2 => ?_⟩
      obtain ⟨J2, eJ2⟩ : ∃ J2, J2 = upd (upd J1 Sa (SetTO P w Sa L)) T2 (.lst (refsOf L')) := ⟨_, rfl⟩
      have sJ2 : Same J1 J2 := fun b o e => by rw [eJ2]; exact same_lay nT2 _ _ (s2 _ _ e)
      have tg2H := tab_same tg1 sJ2
      have tg2T := tab_same tgT1 sJ2
      have hmem : ∀ g, g ∈ L'.map (·.2) ↔ g ∈ gs.map (·.2) := fun g => by
        rw [(hpm.map (·.2)).mem_iff]
        constructor
        · intro h
          obtain ⟨p, hp, rfl⟩ := List.mem_map.mp h
          exact List.mem_map.mpr ⟨p, hL1 p hp, rfl⟩
        · intro h
          obtain ⟨p, hp, rfl⟩ := List.mem_map.mp h
          exact hL2 p hp
      have hTL2 : TupsF J2 L' := fun p hp => (hTL p (hpm.mem_iff.mp hp)).up (.of_same sJ2)
      have e2T : J2 T2 = some (.lst (refsOf L')) := by rw [eJ2]; exact upd_same
      have key : spGrow K PT CT [.int (dd : Int), .ref T2] J2 (fun v H' => ∃ (a : Addr) (xs : List V), [v] = [V.ref a] ∧ SqL K H' a xs ∧ xs.length < 64 ∧ (∀ x ∈ xs, ∃ ns, TupI K H' x ns ∧ ns.length = dd ∧ TS.Bd 8 ns) ∧
          ∀ (ys : List V) (p : Addr), ys.Perm xs → ys.Pairwise (fun x y => ∀ n m, TupI K H' x n → TupI K H' y m → TS.code 8 n ≤ TS.code 8 m) → H' p = none → ∃ p2 xs2, V.ref p = .ref p2 ∧ SqL K (upd H' p (.lst ys)) p2 xs2 ∧ newT xs2 (upd H' p (.lst ys)) Q) E := by
        refine ⟨dd, T2, L', rfl, .inl (.inl e2T), hTL2, fun g hg => hgs g (hL1 g (hpm.mem_iff.mp hg)), by omega, tg2T, fun Fd Fl J3 u3 tg3 eF3 hTF3 hC => ?_, fun hB J3 u3 tg3 => ?_⟩
        · have hisT : ∀ p ∈ Fl, isT dd p.2 := fun p hp => (hC.rch p.2 (List.mem_map.mpr ⟨p, hp, rfl⟩)).isT fun g hg => by
            obtain ⟨p2, hp2, rfl⟩ := List.mem_map.mp hg
            exact hgs p2 (hL1 p2 (hpm.mem_iff.mp hp2))
          have hfew := hC.few
          rw [List.length_map] at hfew
          refine ⟨Fd, refsOf Fl, rfl, .inl (.inl eF3), by rw [List.length_map]; omega, fun x hx => ?_, fun ys p hys hpw np => ?_⟩
          · obtain ⟨q0, hq0, rfl⟩ := List.mem_map.mp hx
            exact ⟨q0.2, ⟨q0.1, rfl, (hTF3 q0 hq0).sq⟩, (hisT q0 hq0).len, bd8 (hisT q0 hq0) (by omega)⟩
          · obtain ⟨F', hF', rfl⟩ := perm_inv hys
            refine ⟨p, _, rfl, .inl (.inl upd_same), new_rd fun R J5 s5 _ _ t5 => ?_⟩
            have s35 : Same J3 J5 := fun b o e => s5 _ _ (same_lay np _ _ e)
            have n35 : UpN H J5 := ((n1.trans (.of_same sJ2)).trans (u3.n tg2T)).trans (.of_same s35)
            refine q3 R F' J5 ⟨n35, tab_same (u3.tab tg3 tg2H) s35, tab_same tg3 s35⟩ t5 (fun q0 hq0 => (hTF3 q0 (hF'.mem_iff.mp hq0)).up (.of_same s35)) (closure_congr hmem (closure_perm (hF'.map (·.2)) hC)) ?_
            rw [List.pairwise_map] at hpw
            refine List.Pairwise.imp_of_mem (fun {a b} ha hb hab => ?_) hpw
            exact hab a.2 b.2 ⟨a.1, rfl, (hTF3 a (hF'.mem_iff.mp ha)).sq⟩ ⟨b.1, rfl, (hTF3 b (hF'.mem_iff.mp hb)).sq⟩
        · exact q4 (big_congr hmem hB) J3 ⟨(n1.trans (.of_same sJ2)).trans (u3.n tg2T), u3.tab tg3 tg2H, tg3⟩
      rw [eJ2] at key
      exact key
    · exact q1 i hf J1 d ⟨u1.n tgH, tg1, u1.tab tg1 tgT⟩ nd
end
end K06
namespace HM
open PySem PySem.Spec PyProof.Rows L2
/-! ### data with empty dicts among them -/
mutual
inductive Dn (K : PySem.W.Frag) (H : Hp) : V → PyData → Prop
  | non : Dn K H .non .none
  | bl (b : Bool) : Dn K H (.bl b) (.bool b)
  | int (i : Int) : Dn K H (.int i) (.int i)
  | str (x : Str) : Dn K H (.str x) (.str x)
  | lst {a : Addr} {xs : List V} {ds : List PyData} : a ≠ sysModules → SqL K H a xs → DnAll K H xs ds → Dn K H (.ref a) (.list ds)
  | tup {a : Addr} {xs : List V} {ds : List PyData} : SqT K H a xs → DnAll K H xs ds → Dn K H (.ref a) (.tuple ds)
  | emp {a : Addr} : H a = some (.dK []) → Dn K H (.ref a) (.dict [])
inductive DnAll (K : PySem.W.Frag) (H : Hp) : List V → List PyData → Prop
  | nil : DnAll K H [] []
  | cons {v : V} {vs : List V} {d : PyData} {ds : List PyData} : Dn K H v d → DnAll K H vs ds → DnAll K H (v :: vs) (d :: ds)
end
mutual
theorem dn_up {K : PySem.W.Frag} {H H' : Hp} (u : UpN H H') : ∀ {v : V} {d : PyData}, Dn K H v d → Dn K H' v d
  | _, _, .non => .non
  | _, _, .bl b => .bl b
  | _, _, .int i => .int i
  | _, _, .str x => .str x
  | _, _, .lst n h t => .lst n (sqL_up h u) (dns_up u t)
  | _, _, .tup h t => .tup (sqT_up h u) (dns_up u t)
  | _, _, .emp e => .emp (u _ _ e fun q z => by cases z)
theorem dns_up {K : PySem.W.Frag} {H H' : Hp} (u : UpN H H') : ∀ {vs : List V} {ds : List PyData}, DnAll K H vs ds → DnAll K H' vs ds
  | _, _, .nil => .nil
  | _, _, .cons h t => .cons (dn_up u h) (dns_up u t)
end
mutual
theorem dn_p {K : PySem.W.Frag} {H H' : Hp} {p : Addr} (hp : HM.noPen p H) (hd : H p ≠ some (.dK [])) (u : UpP p H H') : ∀ {v : V} {d : PyData}, Dn K H v d → Dn K H' v d
  | _, _, .non => .non
  | _, _, .bl b => .bl b
  | _, _, .int i => .int i
  | _, _, .str x => .str x
  | _, _, .lst n h t => .lst n (sqL_p hp u h) (dns_p hp hd u t)
  | _, _, .tup h t => .tup (sqT_p hp u h) (dns_p hp hd u t)
  | _, _, .emp e => .emp (u _ _ e (fun z => by rw [z] at e; exact hd e) fun q z => by cases z)
theorem dns_p {K : PySem.W.Frag} {H H' : Hp} {p : Addr} (hp : HM.noPen p H) (hd : H p ≠ some (.dK [])) (u : UpP p H H') : ∀ {vs : List V} {ds : List PyData}, DnAll K H vs ds → DnAll K H' vs ds
  | _, _, .nil => .nil
  | _, _, .cons h t => .cons (dn_p hp hd u h) (dns_p hp hd u t)
end
theorem isPen.noEmp {K : PySem.W.Frag} {H : Hp} {p : Addr} {t : Int} (h : isPen K H p t) : H p ≠ some (.dK []) := fun z => by
  obtain ⟨a, _, l, e, _⟩ := h
  rw [e] at z
  cases z
theorem dn_ints {K : PySem.W.Frag} {H : Hp} : ∀ ns : List Int, DnAll K H (ns.map V.int) (ns.map .int)
  | [] => .nil
  | n :: ns => .cons (.int n) (dn_ints ns)
theorem dns_app {K : PySem.W.Frag} {H : Hp} : ∀ {vs : List V} {ds : List PyData} {vs2 : List V} {ds2 : List PyData}, DnAll K H vs ds → DnAll K H vs2 ds2 → DnAll K H (vs ++ vs2) (ds ++ ds2)
  | _, _, _, _, .nil, h => h
  | _, _, _, _, .cons g t, h => .cons g (dns_app t h)
section
variable {X : Cx} {pins : List (Addr × Obj)} {σ : L2.St} {H : Hp} {s : Shared}
mutual
theorem Dn.reads (I : Inv X pins σ H s) : ∀ {v : V} {d : PyData}, Dn X.K H v d → ∀ {u : Value}, RelV v u → ∃ as, Reads s.heap u d as ∧ sysModules ∉ as
  | _, _, .non, _, r => by
    cases r
    exact ⟨[], .none, by simp⟩
  | _, _, .bl b, _, r => by
    cases r
    exact ⟨[], .bool b, by simp⟩
  | _, _, .int i, _, r => by
    obtain ⟨t, rfl⟩ := r
    exact ⟨[], .int i t, by simp⟩
  | _, _, .str x, _, r => by
    obtain ⟨t, rfl⟩ := r
    exact ⟨[], .str x t, by simp⟩
  | _, _, .lst n h t, _, r => by
    cases r
    obtain ⟨its, rv, ⟨o, k, h1, h2, h3, h4⟩, _⟩ := I.list h
    obtain ⟨as, g1, g2⟩ := DnAll.reads I t rv
    exact ⟨_, .list h1 h2 h4 (by simpa using g1), fun z => (List.mem_cons.mp z).elim (fun e => n e.symm) g2⟩
  | _, _, .tup h t, _, r => by
    cases r
    obtain ⟨its, rv, ⟨o, h1, h2, k, h4⟩, _⟩ := I.tuple h
    obtain ⟨as, g1, g2⟩ := DnAll.reads I t rv
    exact ⟨_, .tuple h1 h2 h4 (by simpa using g1), g2⟩
  | _, _, .emp (a := a) e, _, r => by
    cases r
    obtain ⟨_, hne, vs, hkv, o, es, ep, h1, h2, h3, _, hp, _⟩ := (show ObjOk X.prog X.w H s.heap a (.dK []) from I.hok a _ e)
    cases hkv
    have he : es.toList = [] := by
      generalize es.toList = l at hp
      cases hp
      rfl
    refine ⟨_, Reads.dict h1 h2.1 h3 (kvs := []) (as := []) (bs := []) (by rw [he]; exact .nil) (by rw [he]; exact .nil), fun z => ?_⟩
    have z2 : sysModules = a := by simpa using z
    rw [z2] at hne
    simp at hne
theorem DnAll.reads (I : Inv X pins σ H s) : ∀ {vs : List V} {ds : List PyData}, DnAll X.K H vs ds → ∀ {us : List Value}, Vals vs us → ∃ as, ReadsAll s.heap us ds as ∧ sysModules ∉ as
  | _, _, .nil, _, r => by
    cases r
    exact ⟨[], .nil, by simp⟩
  | _, _, .cons h t, _, r => by
    cases r with
    | cons r1 r2 =>
      obtain ⟨as, g1, g2⟩ := Dn.reads I h r1
      obtain ⟨bs, g3, g4⟩ := DnAll.reads I t r2
      exact ⟨_, .cons g1 g3, fun z => (List.mem_append.mp z).elim g2 g4⟩
end
/-- repr(l), l a list of such data -/
theorem call_reprN {k : Nat} (hg : X.A.guards = some []) (hr : Room k X.A) : CallR X (.builtin "repr") (fun xs H Q => ∃ (a : Addr) (d : PyData), xs = [.ref a] ∧ Dn X.K H (.ref a) d ∧ d.showable = true ∧ d.depth ≤ 40 ∧ d.shown.length ≤ sizeLine ∧ Q (.str d.shown) H) := by
  intro pins s σ H xs us Q I r h
  obtain ⟨a, d, rfl, hp, hs, hd, hz, q⟩ := h
  cases r with
  | cons r1 r2 =>
    cases r2
    cases (show _ = Value.ref a from r1)
    obtain ⟨as, hrd, hsm⟩ := Dn.reads I hp r1
    have hu := hr.units
    exact repr_of_reads' hrd hs (fun _ => hsm) hg (by omega) (fun _ _ e => e) (fun h' u tk hk => ⟨.str _, H, I.kept hk, ⟨_, rfl⟩, q⟩) hz
end
/-! ### lists laid where no start-up dict stands -/
section
variable {X : Cx}
theorem fresh_ne {pins : List (Addr × Obj)} {σ : L2.St} {H : Hp} {s : Shared} (I : Inv X pins σ H s) {q : Addr} (h : s.heap.objs.size ≤ q) : q ≠ sysModules := Nat.ne_of_gt (Nat.lt_of_lt_of_le I.big h)
def tLstN (t : TA) : TE := fun σ H Q => t σ H fun xs H1 => xs.length ≤ sizeLine ∧ ∀ p, H1 p = none → p ≠ sysModules → Q (.ref p) (upd H1 p (.lst xs))
theorem pe_lstN {es : List Expr} {t : TA} {pos : Pos} (h : PA X es t) : PE X (.List es pos) (tLstN t) := by
  refine ⟨fun pins s σ H Q I hq => ?_⟩
  refine wpAny_List_spliced (thn (h.run pos pins s σ H _ I hq) fun us s1 hx => ?_)
  obtain ⟨xs, H1, I1, r, z, q⟩ := hx
  refine ⟨by rw [← r.length]; exact z, ?_⟩
  have hf : H1 s1.heap.objs.size = none := I1.hok.fresh (Nat.le_refl _)
  refine ⟨.ref s1.heap.objs.size, upd H1 s1.heap.objs.size (.lst xs), I1.laid (t' := s1.toks) (fun b u e => Heap.get?_push_of_some _ e) (Nat.le_refl _) ?_, rfl, q _ hf (fresh_ne I1 (Nat.le_refl _))⟩
  exact ⟨z, us, _, r, Heap.get?_push_size _ rfl⟩
/-- list(x), x a list, a tuple -/
def rListN (K : PySem.W.Frag) : List V → Hp → VK → Prop := fun xs H Q => ∃ p ys, xs = [.ref p] ∧ (SqL K H p ys ∨ SqT K H p ys) ∧ ∀ l, H l = none → l ≠ sysModules → Q (.ref l) (upd H l (.lst ys))
theorem call_listN : CallR X (.type "list") (rListN X.K) := by
  intro pins s σ H xs us Q I r h
  obtain ⟨p, ys, rfl, hq, q⟩ := h
  obtain ⟨u, rfl, rx⟩ := vals1 r
  cases rx
  have lay : ∀ (its : List Value) (h' : Heap) (c' : Nat), Vals ys its → ys.length ≤ sizeLine → Grows s.heap h' → h'.get? s.heap.objs.size = some { cls := .type "list", dict := none, data := .seq its.toArray c', slots := #[] } → EP X pins σ Q (.ref s.heap.objs.size) { s with heap := h' } := fun its h' c' z1 z2 z3 z4 =>
    ⟨.ref s.heap.objs.size, upd H s.heap.objs.size (.lst ys), I.laid (t' := s.toks) z3 (Nat.le_refl _) ⟨z2, its, c', z1, z4⟩, rfl, q _ (I.hok.fresh (Nat.le_refl _)) (fresh_ne I (Nat.le_refl _))⟩
  rcases hq with hq | hq
  · obtain ⟨its, z1, z2, z3⟩ := I.list hq
    obtain ⟨o, g1, g2, n, g3⟩ := z2.isList
    refine call_list_seq p (.inl rfl) g1 g2 g3 (fun h' c' kp e => lay its h' c' z1 z3 kp e) ?_
    rw [List.size_toArray, ← z1.length]
    exact z3
  · obtain ⟨its, z1, ⟨o, g1, g2, n, g3⟩, z3⟩ := I.tuple hq
    refine call_list_seq p (.inr rfl) g1 g2 g3 (fun h' c' kp e => lay its h' c' z1 z3 kp e) ?_
    rw [List.size_toArray, ← z1.length]
    exact z3
/-- l + l2 -/
def rCatN : R2 := fun x y H Q => ∃ l b xs zs, x = .ref l ∧ y = .ref b ∧ H l = some (.lst xs) ∧ H b = some (.lst zs) ∧ xs.length + zs.length ≤ sizeLine ∧ ∀ p, H p = none → p ≠ sysModules → Q (.ref p) (upd H p (.lst (xs ++ zs)))
theorem op_catN : OpR X (binaryOp .Add) rCatN := by
  intro pins s σ H x y v u Q I rx ry h
  obtain ⟨l, b, xs, zs, rfl, rfl, h1, h2, hz, q⟩ := h
  cases rx
  cases ry
  obtain ⟨_, i1, n1, r1, z1, e1⟩ := I.lstM h1
  obtain ⟨_, i2, n2, r2, z2, e2⟩ := I.lstM h2
  refine PySem.P.add_list e1 e2 ?_ (by rw [List.size_toArray, List.size_toArray]; omega)
  rw [show i1.toArray ++ i2.toArray = (i1 ++ i2).toArray by simp]
  exact ⟨.ref _, _, I.lnew (t' := s.toks) (r1.append r2) (by rw [List.length_append]; omega), rfl, q _ I.fresh (fresh_ne I (Nat.le_refl _))⟩
end
/-! ### how large -/
def Iz (k c : Nat) (d : PyData) : Prop := d.showable = true ∧ d.depth ≤ k ∧ cost d ≤ c
theorem It.iz {k c : Nat} {d : PyData} (h : It k c d) : Iz k c d := ⟨h.1, h.2.2.1, h.2.2.2⟩
theorem iz_mono {k c k' c' : Nat} {d : PyData} (h : Iz k c d) (hk : k ≤ k') (hc : c ≤ c') : Iz k' c' d := ⟨h.1, Nat.le_trans h.2.1 hk, Nat.le_trans h.2.2 hc⟩
theorem iz_all {k c : Nat} : ∀ {ds : List PyData}, (∀ d ∈ ds, Iz k c d) → PyData.showableAll ds = true ∧ PyData.depthAll ds ≤ k ∧ costs ds ≤ (c + 2) * ds.length
  | [], _ => ⟨rfl, Nat.zero_le _, Nat.zero_le _⟩
  | d :: ds, h => by
    obtain ⟨g1, g2, g3⟩ := iz_all fun e he => h e (List.mem_cons_of_mem _ he)
    obtain ⟨f1, f2, f3⟩ := h d List.mem_cons_self
    refine ⟨?_, ?_, ?_⟩
    · show (d.showable && PyData.showableAll ds) = true
      rw [f1, g1]
      rfl
    · show max d.depth (PyData.depthAll ds) ≤ k
      exact Nat.max_le.mpr ⟨f2, g2⟩
    · show cost d + 2 + costs ds ≤ (c + 2) * (ds.length + 1)
      rw [Nat.mul_succ]
      omega
theorem iz_lst {k c : Nat} {ds : List PyData} (h : ∀ d ∈ ds, Iz k c d) : Iz (k + 1) ((c + 2) * ds.length + 2) (.list ds) := by
  obtain ⟨g1, g2, g3⟩ := iz_all h
  refine ⟨by simpa only [PyData.showable] using g1, ?_, ?_⟩
  · show PyData.depthAll ds + 1 ≤ k + 1
    omega
  · show costs ds + 2 ≤ _
    omega
theorem iz_emp : Iz 1 2 (.dict []) := ⟨rfl, by decide, by decide⟩
theorem iz_shown {d : PyData} {k : Nat} (h : Iz k 10000000 d) : d.shown.length ≤ sizeLine := by
  have h1 := shown_le d h.1
  have h2 := h.2.2
  have h3 : sizeLine = 16777216 := by decide
  omega
end HM
namespace HM
open PySem PySem.Spec PyProof.Rows L2
mutual
theorem dn_dp {K : PySem.W.Frag} {H : Hp} : ∀ {v : V} {d : PyData}, Dn K H v d → d.hasDict = false → Dp K H v d
  | _, _, .non, _ => .non
  | _, _, .bl b, _ => .bl b
  | _, _, .int i, _ => .int i
  | _, _, .str x, _ => .str x
  | _, _, .lst _ h t, e => .lst h (dns_dp t (by simpa only [PyData.hasDict] using e))
  | _, _, .tup h t, e => .tup h (dns_dp t (by simpa only [PyData.hasDict] using e))
  | _, _, .emp _, e => by simp [PyData.hasDict] at e
theorem dns_dp {K : PySem.W.Frag} {H : Hp} : ∀ {vs : List V} {ds : List PyData}, DnAll K H vs ds → PyData.hasDictAll ds = false → DpAll K H vs ds
  | _, _, .nil, _ => .nil
  | _, _, .cons h t, e => by
    simp only [PyData.hasDictAll, Bool.or_eq_false_iff] at e
    exact .cons (dn_dp h e.1) (dns_dp t e.2)
end
theorem iz_tup {k c : Nat} {ds : List PyData} (h : ∀ d ∈ ds, Iz k c d) : Iz (k + 1) ((c + 2) * ds.length + 2) (.tuple ds) := by
  obtain ⟨g1, g2, g3⟩ := iz_all h
  refine ⟨by simpa only [PyData.showable] using g1, ?_, ?_⟩
  · show PyData.depthAll ds + 1 ≤ k + 1
    omega
  · show costs ds + 2 ≤ _
    omega
/-- a thing that is no turn of n things -/
def Od (K : PySem.W.Frag) (H : Hp) (n : Nat) (x : V) : Prop := ∃ d, Itm K H x d ∧ goodD n d = false ∧ Dn K H x d ∧ Iz 6 200000 d
theorem Od.up {K : PySem.W.Frag} {H H' : Hp} {n : Nat} {x : V} (h : Od K H n x) (u : UpN H H') : Od K H' n x := let ⟨d, h1, h2, h3, h4⟩ := h; ⟨d, h1.up u, h2, dn_up u h3, h4⟩
theorem od_snoc {K : PySem.W.Frag} {H H' : Hp} {n : Nat} {l : List V} {y : V} (h : ∀ x ∈ l, Od K H n x) (u : UpN H H') (hy : Od K H' n y) : ∀ x ∈ l ++ [y], Od K H' n x := fun x hx => by
  rcases List.mem_append.mp hx with hx | hx
  · exact (h x hx).up u
  · rw [List.mem_singleton.mp hx]
    exact hy
theorem od_plain {K : PySem.W.Frag} {H : Hp} {n : Nat} {x : V} {d : PyData} {T : String} (t : VTy K H x T) (hk : kitB T "tuple" = some false) (ht : ∀ ds, d ≠ .tuple ds) (hd : Dn K H x d) (hi : Iz 6 200000 d) : Od K H n x := by
  have h1 : turnD d = false := by
    cases d with
    | tuple ds => exact absurd rfl (ht ds)
    | _ => rfl
  have h2 : goodD n d = false := by
    cases d with
    | tuple ds => exact absurd rfl (ht ds)
    | _ => rfl
  exact ⟨d, ⟨.inr ⟨T, t, hk, h1⟩, fun ds e => absurd e (ht ds)⟩, h2, hd, hi⟩
theorem od_tup {K : PySem.W.Frag} {H : Hp} {n : Nat} {a : Addr} {xs : List V} {ds : List PyData} (h : TF H a xs) (hd : DnAll K H xs ds) (hi : ∀ d ∈ ds, It 4 2500 d) (hl : ds.length ≤ 20) (hg : goodD n (.tuple ds) = false) : Od K H n (.ref a) := by
  have e : PyData.hasDictAll ds = false := (it_all hi).2.1
  refine ⟨.tuple ds, ⟨.inl ⟨a, xs, ds, rfl, rfl, h, dns_dp hd e⟩, fun ds' z => by cases z; omega⟩, hg, .tup h.sq hd, iz_mono (iz_tup fun d hm => (hi d hm).iz) (by decide) ?_⟩
  have := Nat.mul_le_mul_left (2500 + 2) hl
  omega
theorem bad_len {n : Nat} {ds : List PyData} (h : ds.length ≠ n) : goodD n (.tuple ds) = false := by
  show (turnD (.tuple ds) && decide ((ds.length : Int) = (n : Int))) = false
  rw [decide_eq_false (by omega), Bool.and_false]
theorem bad_of {n : Nat} {ds : List PyData} (h : ds.length = n → ¬ (ds.all (numD n) = true ∧ (ds.map itD).Nodup)) : goodD n (.tuple ds) = false := by
  by_cases hl : ds.length = n
  · cases ht : turnD (.tuple ds) with
    | false =>
      show (turnD (.tuple ds) && _) = false
      rw [ht]
      rfl
    | true =>
      obtain ⟨h1, h2⟩ := turn_isT ht hl
      exact absurd ⟨h2, h1.nod⟩ (h hl)
  · exact bad_len hl
theorem good_T {n : Nat} {l : List Int} (h : isT n l) (h1 : 1 ≤ n) (h7 : n ≤ 7) : goodD n (dTu l) = true := by
  have hl := h.len
  have e : ((l.map PyData.int).map itD) = l := by
    rw [List.map_map]
    exact List.map_id l
  have hal : (l.map PyData.int).all (numD ((l.map PyData.int).length : Int)) = true := List.all_eq_true.mpr fun d hd => by
    obtain ⟨z, hz, rfl⟩ := List.mem_map.mp hd
    have := h.ran z hz
    show (decide (0 ≤ z) && decide (z < ((l.map PyData.int).length : Int))) = true
    rw [List.length_map, hl, Bool.and_eq_true, decide_eq_true_iff, decide_eq_true_iff]
    exact this
  show (((decide (1 ≤ (l.map PyData.int).length) && decide ((l.map PyData.int).length ≤ 7)) && eachOnce (l.map .int) ((l.map PyData.int).length : Nat)) && decide (((l.map PyData.int).length : Int) = (n : Int))) = true
  unfold eachOnce
  rw [hal, e, List.length_map, hl, decide_eq_true h1, decide_eq_true h7, decide_eq_true rfl, decide_eq_true h.nod]
  rfl
theorem itm_T {K : PySem.W.Frag} {H : Hp} {a : Addr} {l : List Int} (h : TF H a (l.map V.int)) (hl : l.length ≤ 20) : Itm K H (.ref a) (dTu l) :=
  ⟨.inl ⟨a, _, _, rfl, rfl, h, dp_ints l⟩, fun ds e => by cases e; rw [List.length_map]; omega⟩
/-! ### turn[:at] + (one,) + turn[at + 1:] -/
def tSpl (K : PySem.W.Frag) (i j : Nat) (te : TE) : TE := tOp (rCatF K) (tOp (rCatF K) (tSl (rSlF K) (tVar i) tNoPart (tPart (tVar j))) (tTupF (tCons te tNil))) (tSl (rSlF K) (tVar i) (tPart (tOp (rI0 fun i j => .int (i + j)) (tVar j) (tC (.int 1)))) tNoPart)
theorem spl_rd {K : PySem.W.Frag} {i j : Nat} {te : TE} {σ : L2.St} {a : Addr} {k : Nat} {zs : List Int} {one : V} {H : Hp} {Q : VK} (ei : σ[i]? = some (some (.ref a))) (ej : σ[j]? = some (some (.int (k : Int)))) (hk : k < zs.length) (hl : zs.length ≤ 7) (ha : TF H a (zs.map V.int)) (hte : ∀ (H1 : Hp) (Q' : VK), Same H H1 → Q' one H1 → te σ H1 Q')
    (q : ∀ r H', Same H H' → TF H' r ((zs.take k).map V.int ++ [one] ++ (zs.drop (k + 1)).map V.int) → Q (.ref r) H') : tSpl K i j te σ H Q := by
  have e1 : cutV (zs.map V.int) none (some (k : Int)) = (zs.take k).map V.int := by rw [cut_take, List.map_take]
  have e2 : cutV (zs.map V.int) (some ((k : Int) + 1)) none = (zs.drop (k + 1)).map V.int := by
    rw [show ((k : Int) + 1) = ((k + 1 : Nat) : Int) by omega, cut_drop, List.map_drop]
  refine ⟨.ref a, ei, .int (k : Int), ej, _, rfl, cut_rd ha fun r1 H1 s1 t1 => hte H1 _ s1 ⟨by show 1 ≤ sizeLine; decide, new_rd fun r2 H2 s2 _ _ t2 => cat_rd (t1.up (.of_same s2)) t2 ?_ fun r3 H3 s3 t3 => ⟨.ref a, ei, .int (k : Int), ej, _, _, rfl, rfl, _, rfl, show rSlF K (.ref a) (some ((k : Int) + 1)) none H3 (fun y H4 => rCatF K (.ref r3) y H4 Q) from cut_rd (((ha.up (.of_same s1)).up (.of_same s2)).up (.of_same s3)) fun r4 H4 s4 t4 => cat_rd (t3.up (.of_same s4)) t4 ?_ fun r5 H5 s5 t5 => ?_⟩⟩⟩
  · rw [e1, List.length_map, List.length_take]
    show min k zs.length + 1 ≤ 1000
    omega
  · rw [e1, e2, List.length_append, List.length_map, List.length_map, List.length_take, List.length_drop]
    show min k zs.length + 1 + (zs.length - (k + 1)) ≤ 1000
    omega
  · rw [e1, e2] at t5
    exact q r5 H5 ((((s1.trans s2).trans s3).trans s4).trans s5) t5
/-- one thing of a turn is another one -/
theorem od_spl {K : PySem.W.Frag} {H : Hp} {n k : Nat} {r : Addr} {zs : List Int} {one : V} {d : PyData} (ht : TF H r ((zs.take k).map V.int ++ [one] ++ (zs.drop (k + 1)).map V.int)) (hT : isT n zs) (hn : n ≤ 7) (hk : k < n) (hd : Dn K H one d) (hs : smD d = true)
    (hb : numD n d = false ∨ ∃ z, d = .int z ∧ (z ∈ zs.take k ∨ z ∈ zs.drop (k + 1))) : Od K H n (.ref r) := by
  have hl := hT.len
  refine od_tup ht (dns_app (dns_app (dn_ints _) (.cons hd .nil)) (dn_ints _)) (fun e he => ?_) ?_ (bad_of fun _ h => ?_)
  · have intz : ∀ (ys : List Int), (∀ y ∈ ys, y ∈ zs) → ∀ e ∈ ys.map PyData.int, It 4 2500 e := fun ys hy e he => by
      obtain ⟨y, hm, rfl⟩ := List.mem_map.mp he
      have := hT.ran y (hy y hm)
      exact it_mono (it_int (decide_eq_true (Nat.le_trans (show y.natAbs ≤ 10 by omega) (by decide)))) (by decide) (by decide)
    rcases List.mem_append.mp he with he | he
    · rcases List.mem_append.mp he with he | he
      · exact intz _ (fun y hy => List.mem_of_mem_take hy) e he
      · rw [List.mem_singleton.mp he]
        exact it_mono (it_small hs) (by decide) (by decide)
    · exact intz _ (fun y hy => List.mem_of_mem_drop hy) e he
  · rw [List.length_append, List.length_append, List.length_map, List.length_map, List.length_take, List.length_drop]
    show min k zs.length + 1 + (zs.length - (k + 1)) ≤ 20
    omega
  · rcases hb with hb | ⟨z, rfl, hz⟩
    · have := List.all_eq_true.mp h.1 d (by simp)
      rw [hb] at this
      cases this
    · have nd := h.2
      rw [List.map_append, List.map_append, List.nodup_append, List.nodup_append] at nd
      have em : ∀ ys : List Int, (ys.map PyData.int).map itD = ys := fun ys => by
        rw [List.map_map]
        exact List.map_id ys
      rw [em, em] at nd
      rcases hz with hz | hz
      · exact nd.1.2.2 z hz z (by simp [itD]) rfl
      · exact nd.2.2 z (List.mem_append_right _ (by simp [itD])) z hz rfl
end HM
namespace HM
open PySem PySem.Spec PyProof.Rows L2
theorem up_mns1 {J J' : Hp} {Sm : Addr} (s : Same J J') : UpN (mns J [Sm]) (mns J' [Sm]) := up_mns fun b o n e => ⟨n, s _ _ e⟩
theorem up_new {J : Hp} {Sm : Addr} {o : HO} (n : J Sm = none) : UpN J (mns (upd J Sm o) [Sm]) := fun b u e _ => by
  have hb : b ≠ Sm := ne_of_none e n
  rw [mns_out (by simpa using hb), upd_ne hb]
  exact e
theorem mns_upd {J : Hp} {Sm : Addr} {o : HO} : mns (upd J Sm o) [Sm] = mns J [Sm] := funext fun b => by
  by_cases h : b ∈ [Sm]
  · rw [mns_in h, mns_in h]
  · rw [mns_out h, mns_out h, upd_ne (by simpa using h)]
/-- some things that are no turns, in a list that grows -/
structure OI (K : PySem.W.Frag) (H0 : Hp) (p a Sm : Addr) (n : Nat) (zs : List Int) (t : Int) (l : List V) (J : Hp) : Prop where
  sm : J Sm = some (.lst l)
  n0 : H0 Sm = none
  od : ∀ x ∈ l, Od K (mns J [Sm]) n x
  pen : isPen K J p t
  kp : Kept p H0 J
  tu : TF J a (zs.map V.int)
section
variable {K : PySem.W.Frag} {H0 J J' : Hp} {p a Sm : Addr} {n k : Nat} {zs : List Int} {t : Int} {l : List V}
theorem OI.same (h : OI K H0 p a Sm n zs t l J) (s : Same J J') : OI K H0 p a Sm n zs t l J' := ⟨s _ _ h.sm, h.n0, fun x hx => (h.od x hx).up (up_mns1 s), h.pen.upN (.of_same s), fun b o e n1 => s _ _ (h.kp b o e n1), h.tu.up (.of_same s)⟩
theorem OI.push (h : OI K H0 p a Sm n zs t l J) {y : V} (hy : Od K (mns J [Sm]) n y) : OI K H0 p a Sm n zs t (l ++ [y]) (upd J Sm (.lst (l ++ [y]))) := by
  refine ⟨upd_same, h.n0, fun x hx => ?_, h.pen.put h.sm, fun b o e n1 => ?_, ?_⟩
  · rw [mns_upd]
    rcases List.mem_append.mp hx with hx | hx
    · exact h.od x hx
    · rw [List.mem_singleton.mp hx]
      exact hy
  · rw [upd_ne (ne_of_none e h.n0)]
    exact h.kp b o e n1
  · obtain ⟨o, h1, h2⟩ := h.tu
    refine ⟨o, h1, ?_⟩
    rw [upd_ne fun z => ?_]
    · exact h2
    · rw [z, h.sm] at h2
      cases h2
/-- some.append(turn[:at] + (one,) + turn[at + 1:]) -/
theorem ap_spl {te : TE} {σ : L2.St} {one : V} {d : PyData} {Q : VK} (h : OI K H0 p a Sm n zs t l J) (hT : isT n zs) (hn : n ≤ 7) (hk : k < n) (hl : l.length < 1000) (e5 : σ[5]? = some (some (.ref Sm))) (e2 : σ[2]? = some (some (.ref a))) (e3 : σ[3]? = some (some (.int (k : Int))))
    (hte : ∀ (H1 : Hp) (Q' : VK), Same J H1 → Q' one H1 → te σ H1 Q') (hd : Dn K (mns J [Sm]) one d) (hs : smD d = true) (hb : numD n d = false ∨ ∃ z, d = .int z ∧ (z ∈ zs.take k ∨ z ∈ zs.drop (k + 1)))
    (q : ∀ (y : V) (J' : Hp), OI K H0 p a Sm n zs t (l ++ [y]) J' → UpN (mns J [Sm]) (mns J' [Sm]) → Q .non J') : tBM K "list" rAppend (tVar 5) (tCons (tSpl K 2 3 te) tNil) σ J Q := by
  refine ⟨.ref Sm, e5, .inl ⟨rfl, _, .inl (.inl h.sm)⟩, spl_rd e2 e3 (by rw [hT.len]; exact hk) (by rw [hT.len]; exact hn) h.tu hte fun r J1 s1 tr => ?_⟩
  have h1 := h.same s1
  refine ⟨Sm, l, _, rfl, rfl, h1.sm, small1000 (Nat.le_of_lt hl), q _ _ (h1.push (od_spl (tr.mns fun b hb => ?_) hT hn hk (dn_up (up_mns1 s1) hd) hs hb)) ?_⟩
  · rw [List.mem_singleton.mp hb]
    exact ⟨_, h1.sm⟩
  · rw [mns_upd]
    exact up_mns1 s1
end
theorem vty_p {K : PySem.W.Frag} {H H' : Hp} {p : Addr} {t t' : Int} {x : V} {T : String} (hp : isPen K H p t) (hp' : isPen K H' p t') (u : UpP p H H') (h : VTy K H x T) : VTy K H' x T := by
  cases h with
  | non => exact .non
  | bl b => exact .bl b
  | int i => exact .int i
  | str x => exact .str x
  | lst e => exact .lst (sqL_p hp.noPen u e)
  | tup e => exact .tup (sqT_p hp.noPen u e)
  | @dct a kvs e =>
    by_cases z : a = p
    · obtain ⟨_, _, _, e2, _⟩ := hp'
      rw [z]
      exact .dct e2
    · exact .dct (u _ _ e z fun q y => by cases y)
theorem Od.p {K : PySem.W.Frag} {H H' : Hp} {p : Addr} {t t' : Int} {n : Nat} {x : V} (hp : isPen K H p t) (hp' : isPen K H' p t') (u : UpP p H H') (h : Od K H n x) : Od K H' n x := by
  obtain ⟨d, ⟨h1, h0⟩, h2, h3, h4⟩ := h
  refine ⟨d, ⟨?_, h0⟩, h2, dn_p hp.noPen hp.noEmp u h3, h4⟩
  rcases h1 with ⟨a, xs, ds, e1, e2, f1, f2⟩ | ⟨T, g1, g2, g3⟩
  · exact .inl ⟨a, xs, ds, e1, e2, TF.p hp.noPen u f1, dps_p hp.noPen u f2⟩
  · exact .inr ⟨T, vty_p hp hp' u g1, g2, g3⟩
theorem at_m1 {xs : List V} {v : V} (h : xs[xs.length - 1]? = some v) (h1 : 1 ≤ xs.length) : atI xs (-1) = some v := by
  unfold atI ixN
  rw [if_neg (by decide), if_pos (by omega)]
  show xs[(-1 + (xs.length : Int)).toNat]? = some v
  rw [show (-1 + (xs.length : Int)).toNat = xs.length - 1 by omega]
  exact h
theorem join_len {sep : Str} : ∀ {ts : List Str} {c : Nat}, (∀ t ∈ ts, t.length ≤ c) → (Str.join sep ts).length ≤ ts.length * (c + sep.length)
  | [], c, _ => Nat.le_of_eq (by simp; rfl)
  | [x], c, h => by
    have := h x List.mem_cons_self
    show x.length ≤ 1 * _
    omega
  | x :: y :: r, c, h => by
    have h1 := h x List.mem_cons_self
    have h2 := join_len (sep := sep) (ts := y :: r) (c := c) fun t ht => h t (List.mem_cons_of_mem _ ht)
    show (x ++ sep ++ Str.join sep (y :: r)).length ≤ ((y :: r).length + 1) * (c + sep.length)
    rw [Str.length_append, Str.length_append, Nat.add_mul]
    omega
theorem digit_len (z : Int) (h : 0 ≤ z ∧ z < 100) : (Str.ofString (toString z)).length ≤ 1921 := by
  have h1 := shown_le (.int z) (it_int (decide_eq_true (Nat.le_trans (show z.natAbs ≤ 100 by omega) (by decide)))).1
  exact h1
end HM
namespace K06
open PySem PySem.Spec PyProof.Rows L2 HM
abbrev sOdd : Stmt := topS 33
section
variable {P : Program} {w : World} {K : PySem.W.Frag} {mg : Str → Option Value} {base : Heap}
abbrev NOd : List Str := ["_law_pen_here", "_law_many", "_law_turn", "_law_at", "_law_longer", "_law_some", "_law_one"]
theorem scOdd : FnScope NOd ["_law_pen_here", "_law_many"] (defScope sOdd) := ⟨rfl, rfl, rfl, by decide +kernel, rfl, by decide +kernel, by decide +kernel⟩
def spOdd (K : PySem.W.Frag) : Sp := fun vs H Q _ => ∃ (p : Addr) (n : Nat) (t : Int), vs = [.ref p, .int (n : Int)] ∧ isPen K H p t ∧ 1 ≤ n ∧ n ≤ 7 ∧ t ≤ 100000 ∧
  ∀ (x : V) (t' : Int) (H' : Hp), Od K H' n x → t ≤ t' → t' ≤ t + 30 → isPen K H' p t' → Kept p H H' → Q x H'
theorem ok_odd {f fD fA : Addr} {fd fdD fdA : FuncData} {k : Nat} (F : Fun K "_law_odd" "_law_odd" sOdd f fd) (GD : FnOk P w K mg base CX0 (k + 2) fD fdD ["_law_pen_here", "_law_most"] (spDraw K)) (GA : FnOk P w K mg base CX0 (k + 2) fA fdA ["_law_pen_here", "_law_many"] (spAny K))
    (gD : mg "_law_draw" = some (.ref fD)) (gA : mg "_law_any_turn" = some (.ref fA)) (kD : PySem.W.keepIn K (.ref fD) = true) (kA : PySem.W.keepIn K (.ref fA) = true) (bD : Binds K fdD ["_law_pen_here", "_law_most"] []) (bA : Binds K fdA ["_law_pen_here", "_law_many"] [])
    (mz : ∀ x ∈ bn, mg x = none) : FnOk P w K mg base CX0 (k + 3) f fd ["_law_pen_here", "_law_many"] (spOdd K) := by
  refine F.ok scOdd (fun vs H Q E h => ?_) (fun cdv A outer s H vs Q E hr h => ?_)
  · obtain ⟨p, n, t, rfl, _⟩ := h
    rfl
  · obtain ⟨p, n, t, rfl, hp, hn1, hn7, ht, q⟩ := h
    have ml := mz "len" (by decide)
    have mt := mz "tuple" (by decide)
    have mr := mz "range" (by decide)
    have hu := hr.units
    refine ⟨_, pss_cons (ps_set (i := 2) scOdd.nd rfl (.inl rfl) (pe_call GA hr (by rfl) gA kA bA .nil pass0 (pa_cons (pv 0) (pa_cons (pv 1) pa_nil))))
      (pss_cons (ps_set (i := 3) scOdd.nd rfl (.inl rfl) (pe_call GD hr (by rfl) gD kD bD .nil pass0 (pa_cons (pv 0) (pa_cons (pv 1) pa_nil))))
      (pss_cons (ps_set (i := 4) scOdd.nd rfl (.inl rfl) (pe_call GA hr (by rfl) gA kA bA .nil pass0 (pa_cons (pv 0) (pa_cons (pe_op op_add (pv 1) pe_int) pa_nil))))
      (pss_cons (ps_set (i := 5) scOdd.nd rfl (.inl rfl) (pe_lst (pa_cons (pv 4) (pa_cons (pe_tupRgF rfl (by rfl) mt (prg_1 (by rfl) mr (pe_op op_sub (pv 1) pe_int))) (pa_cons (pe_callTy call_listN (by rfl) (mz "list" (by decide)) (by decide +kernel) (pa_cons (pv 2) pa_nil)) (pa_cons pe_non (pa_cons pe_int (pa_cons pe_str (pa_cons (pe_tupF pa_nil) (pa_cons pe_dnewK (pa_cons (pe_tupF (pa_cons (pv 2) pa_nil)) (pa_cons pe_bl pa_nil))))))))))))
      (pss_cons (ps_expr (pe_bm PySem.F.plainAttrs_list PySem.F.slot_list_append PySem.F.type_list_append mt_append (pv 5) (pa_cons (pe_join pe_str (pe_lc (own := [("_law_one", 6)]) (g := gName 6) (tt := tYes) (te := tCB (fun xs H Q => ∃ i, xs = [.int i] ∧ i.natAbs.log2 < 1920 ∧ Q (.str (toString i)) H) (tCons (tVar 6) tNil)) rfl scOdd.nd (pi_tup (pv 2)) (blkOk_by (N := NOd) (sc := defScope sOdd) (by decide +kernel))
        (fun _ _ _ _ _ => pg_name (i := 6) scOdd.nd rfl (.inl rfl)) (fun _ _ _ _ _ => pts_nil) (fun _ _ _ _ _ => pe_callTy call_str_int (by rfl) (mz "str" (by decide)) (by decide +kernel) (pa_cons (pv 6) pa_nil)))) pa_nil)))
      (pss_cons (ps_for PassesOwn.never rfl (pi_list (pe_lst (pa_cons (pv 1) (pa_cons (pe_un un_neg pe_int) (pa_cons pe_bl (pa_cons pe_str (pa_cons pe_non (pa_cons (pe_op op_pow pe_int pe_int) (pa_cons (pe_un un_neg (pe_op op_pow pe_int pe_int)) (pa_cons (pe_tupF (pa_cons pe_int pa_nil)) (pa_cons (pe_lstN (pa_cons pe_int pa_nil)) (pa_cons (pe_op op_add (pv 1) pe_int) pa_nil)))))))))))) (pg_name (i := 6) scOdd.nd rfl (.inl rfl))
        (pss_one (ps_expr (te := tBM K "list" rAppend (tVar 5) (tCons (tSpl K 2 3 (tVar 6)) tNil)) (pe_bm PySem.F.plainAttrs_list PySem.F.slot_list_append PySem.F.type_list_append mt_append (pv 5) (pa_cons (pe_op op_catF (pe_op op_catF (pe_slice sl_tupF (pv 2) po_none (po_some (pv 3))) (pe_tupF (pa_cons (pv 6) pa_nil))) (pe_slice sl_tupF (pv 2) (po_some (pe_op op_add (pv 3) pe_int)) po_none)) pa_nil)))))
      (pss_cons (ps_if (pt_cmpR op_gt (pv 1) pe_int (nomark _))
        (pss_cons (ps_expr (te := tBM K "list" rAppend (tVar 5) (tCons (tSpl K 2 3 (tOp (rIxT K) (tVar 2) (tOp (rI0 fun i j => .int (i - j)) (tVar 3) (tC (.int 1))))) tNil)) (pe_bm PySem.F.plainAttrs_list PySem.F.slot_list_append PySem.F.type_list_append mt_append (pv 5) (pa_cons (pe_op op_catF (pe_op op_catF (pe_slice sl_tupF (pv 2) po_none (po_some (pv 3))) (pe_tupF (pa_cons (pe_ix ix_tup (pv 2) (pe_op op_sub (pv 3) pe_int) (fun _ _ => rfl)) pa_nil))) (pe_slice sl_tupF (pv 2) (po_some (pe_op op_add (pv 3) pe_int)) po_none)) pa_nil)))
        (pss_one (ps_expr (te := tBM K "list" rAppend (tVar 5) (tCons (tSpl K 2 3 (tC (.bl false))) tNil)) (pe_bm PySem.F.plainAttrs_list PySem.F.slot_list_append PySem.F.type_list_append mt_append (pv 5) (pa_cons (pe_op op_catF (pe_op op_catF (pe_slice sl_tupF (pv 2) po_none (po_some (pv 3))) (pe_tupF (pa_cons pe_bl pa_nil))) (pe_slice sl_tupF (pv 2) (po_some (pe_op op_add (pv 3) pe_int)) po_none)) pa_nil))))) pss_nil)
      (pss_one (ps_ret (pe_ix ix_list (pv 5) (pe_call GD hr (by rfl) gD kD bD .nil pass0 (pa_cons (pv 0) (pa_cons (pe_callB call_len_seq (by rfl) ml PySem.boot_len (pa_cons (pv 5) pa_nil)) pa_nil))) (fun _ _ => rfl))))))))))
      , ?_⟩
    -- the turn, the place, a longer turn
    refine ⟨_, rfl, _, rfl, p, n, t, rfl, hp, by omega, by omega, fun a zs t1 H1 hpm h1 h2 hp1 nT tT k1 => ?_⟩
    have hT := isT_perm hpm
    refine ⟨_, rfl, _, rfl, p, n, t1, rfl, hp1, by omega, by omega, by omega, fun r t2 H2 r0 r1 h3 h4 hp2 hb2 => ?_⟩
    obtain ⟨k, rfl⟩ : ∃ k : Nat, r = (k : Int) := ⟨r.toNat, by omega⟩
    have hk : k < n := by omega
    refine ⟨_, rfl, _, rfl, _, _, rfl, rfl, p, n + 1, t2, rfl, hp2, by omega, by omega, fun b ys t3 H3 hpm3 h5 h6 hp3 nb tb k3 => ?_⟩
    have k13 : Kept p H H3 := (k1.trans hb2.kept).trans k3
    have tT3 : TF H3 a (zs.map V.int) := TF.p hp2.noPen (UpP.of_kept k3) (TF.p hp1.noPen (UpP.of_kept hb2.kept) tT)
    have hin : in100 zs := fun z hz => by
      have := hT.ran z hz
      omega
    have hzl := hT.len
    -- ten things
    refine ⟨.ref b, rfl, .int n, rfl, _, _, rfl, rfl, _, rfl, RgOk.of_le (by decide) (by omega) (by omega) (by omega), new_rd fun r1 J1 s1 _ _ tr1 => ⟨.ref a, rfl, a, _, rfl, .inr (tT3.up (.of_same s1)).sq, fun L nL nLs => ⟨by show 0 ≤ sizeLine; decide, new_rd fun r3 J3 s3 _ _ tr3 => fun r4 n4 => ⟨.ref a, rfl, by show 1 ≤ sizeLine; decide, new_rd fun r5 J5 s5 _ _ tr5 => ⟨by show 10 ≤ sizeLine; decide, fun Sm nSm => ?_⟩⟩⟩⟩⟩
    rw [show ((n : Int) - 1) = ((n - 1 : Nat) : Int) by omega, rgV0] at tr1
    obtain ⟨J2, eJ2⟩ : ∃ J2, J2 = upd J1 L (.lst (zs.map V.int)) := ⟨_, rfl⟩
    rw [← eJ2] at s3
    have s2 : Same J1 J2 := by rw [eJ2]; exact same_lay nL
    have eL : J2 L = some (.lst (zs.map V.int)) := by rw [eJ2]; exact upd_same
    obtain ⟨J4, eJ4⟩ : ∃ J4, J4 = upd J3 r4 (.dK []) := ⟨_, rfl⟩
    rw [← eJ4] at s5
    have s4 : Same J3 J4 := by rw [eJ4]; exact same_lay n4
    have e4 : J4 r4 = some (.dK []) := by rw [eJ4]; exact upd_same
    have s15 : Same J1 J5 := ((s2.trans s3).trans s4).trans s5
    have s35 : Same H3 J5 := s1.trans s15
    obtain ⟨l0, el0⟩ : ∃ l0 : List V, l0 = [.ref b, .ref r1, .ref L, .non, .int 7, .str "0", .ref r3, .ref r4, .ref r5, .bl true] := ⟨_, rfl⟩
    have hl0 : l0.length = 10 := by rw [el0]; rfl
    have hod : ∀ x ∈ l0, Od K J5 n x := fun x hx => by
      rw [el0] at hx
      simp only [List.mem_cons, List.not_mem_nil, or_false] at hx
      rcases hx with rfl | rfl | rfl | rfl | rfl | rfl | rfl | rfl | rfl | rfl
      · exact od_tup (tb.up (.of_same s35)) (dn_ints ys) (fun d hd => it_mono (it_ints (fun z hz => by have := (isT_perm hpm3).ran z hz; omega) d hd) (by decide) (by decide)) (by rw [List.length_map, (isT_perm hpm3).len]; omega) (bad_len (by rw [List.length_map, (isT_perm hpm3).len]; omega))
      · exact od_tup (tr1.up (.of_same s15)) (dn_ints _) (fun d hd => it_mono (it_ints (fun z hz => by have := (isT_iota (n - 1)).ran z hz; omega) d hd) (by decide) (by decide)) (by rw [List.length_map, (isT_iota (n - 1)).len]; omega) (bad_len (by rw [List.length_map, (isT_iota (n - 1)).len]; omega))
      · refine od_plain (T := "list") (.lst (.inl (.inl (((s3.trans s4).trans s5) _ _ eL)))) (by decide +kernel) (fun ds => by simp) (.lst nLs (.inl (.inl (((s3.trans s4).trans s5) _ _ eL))) (dn_ints zs)) (iz_mono (iz_lst fun d hd => (it_ints hin d hd).iz) (by decide) ?_)
        rw [List.length_map, hzl]
        have := Nat.mul_le_mul_left (1921 + 2) hn7
        omega
      · exact od_plain (T := "NoneType") .non (by decide +kernel) (fun ds => by simp) .non (it_mono it_none (by decide) (by decide)).iz
      · exact od_plain (T := "int") (.int 7) (by decide +kernel) (fun ds => by simp) (.int 7) (it_mono (it_int (i := 7) (by decide)) (by decide) (by decide)).iz
      · exact od_plain (T := "str") (.str "0") (by decide +kernel) (fun ds => by simp) (.str "0") (it_mono (it_small (d := .str "0") (by decide)) (by decide) (by decide)).iz
      · exact od_tup ((tr3.up (.of_same s4)).up (.of_same s5)) .nil (fun d hd => by cases hd) (Nat.zero_le _) (bad_len (by show 0 ≠ n; omega))
      · exact od_plain (T := "dict") (.dct (s5 _ _ e4)) (by decide +kernel) (fun ds => by simp) (.emp (s5 _ _ e4)) (iz_mono iz_emp (by decide) (by decide))
      · have tz := (tT3.up (.of_same s35))
        have i0 := it_tup (it_ints hin)
        rw [List.length_map, hzl] at i0
        have i1 : It 2 15000 (.tuple (zs.map .int)) := it_mono i0 (by decide) (by have := Nat.mul_le_mul_left (1921 + 2) hn7; omega)
        have i2 : ∀ d ∈ [PyData.tuple (zs.map .int)], It 2 15000 d := fun d hd => by rw [List.mem_singleton.mp hd]; exact i1
        refine ⟨.tuple [.tuple (zs.map .int)], ⟨.inl ⟨r5, _, _, rfl, rfl, tr5, .cons (.tup tz.sq (dp_ints zs)) .nil⟩, fun ds e => by cases e; show 1 ≤ 4000; decide⟩, bad_of fun _ h => ?_, .tup tr5.sq (.cons (.tup tz.sq (dn_ints zs)) .nil), iz_mono (iz_tup fun d hd => (i2 d hd).iz) (by decide) (by show (15000 + 2) * 1 + 2 ≤ 200000; decide)⟩
        have := List.all_eq_true.mp h.1 (.tuple (zs.map .int)) (by simp)
        cases this
      · exact od_plain (T := "bool") (.bl true) (by decide +kernel) (fun ds => by simp) (.bl true) (it_mono (it_bool true) (by decide) (by decide)).iz
    have I0 : OI K H p a Sm n zs t3 l0 (upd J5 Sm (.lst l0)) := ⟨upd_same, ?_, fun x hx => (hod x hx).up (up_new nSm), (hp3.upN (.of_same s35)).lay nSm, fun b o e n1 => same_lay nSm _ _ (s35 _ _ (k13 b o e n1)), (tT3.up (.of_same s35)).up (.of_same (same_lay nSm))⟩
    rotate_left
    · cases e : H Sm with
      | none => rfl
      | some o =>
        by_cases z : Sm = p
        · obtain ⟨_, _, _, e2, _⟩ := hp3.upN (.of_same s35)
          rw [z, e2] at nSm
          cases nSm
        · rw [s35 _ _ (k13 _ _ e z)] at nSm
          cases nSm
    rw [← el0]
    obtain ⟨J6, eJ6⟩ : ∃ J6, J6 = upd J5 Sm (.lst l0) := ⟨_, rfl⟩
    rw [← eJ6] at I0 ⊢
    -- the text
    have sbut : ∀ {D : Addr} {J : Hp}, J6 D = none → But D J6 J → Same J6 J := fun {D J} n0 hb b o e => by rw [hb b (ne_of_none e n0)]; exact e
    refine ⟨.ref Sm, rfl, .inl ⟨rfl, _, .inl (.inl I0.sm)⟩, ⟨_, rfl⟩, .ref a, rfl, a, rfl, ⟨_, I0.tu.sq⟩, fun D nD => lc_tup (xs := zs.map V.int) (fun i J => J D = some (.lst ((zs.take i).map fun z => V.str (Str.ofString (toString z)))) ∧ But D J6 J) ?_ (fun i J _ hP => ((I0.same (sbut nD hP.2)).tu).sq) (fun i x J hx hP => ?_) (fun J hP => ?_)⟩
    · exact ⟨upd_same, fun b hb => upd_ne hb⟩
    · obtain ⟨eD, hB⟩ := hP
      rw [List.getElem?_map, Option.map_eq_some_iff] at hx
      obtain ⟨z, hz, rfl⟩ := hx
      have hi := (List.getElem?_eq_some_iff.mp hz).1
      have hzm := hin z (List.mem_of_getElem? hz)
      refine ⟨rfl, .int z, rfl, z, rfl, log_small (decide_eq_true (Nat.le_trans (show z.natAbs ≤ 100 by omega) (by decide))), _, eD, by rw [List.length_map, List.length_take]; exact small1000 (by omega), ?_, fun b hb => ?_⟩
      · rw [upd_same, List.take_succ, hz, List.map_append]
        rfl
      · rw [upd_ne hb]
        exact hB b hb
    obtain ⟨eD, hB⟩ := hP
    have I1 := I0.same (sbut nD hB)
    rw [List.length_map, List.take_length] at eD
    obtain ⟨tx, etx⟩ : ∃ tx : List Str, tx = zs.map fun z => Str.ofString (toString z) := ⟨_, rfl⟩
    have etx2 : (zs.map fun z => V.str (Str.ofString (toString z))) = tx.map V.str := by rw [etx, List.map_map]; rfl
    rw [etx2] at eD
    have htx : ∀ x ∈ tx, x.length ≤ 1921 ∧ okS x := fun x hx => by
      rw [etx] at hx
      obtain ⟨z, hz, rfl⟩ := List.mem_map.mp hx
      exact ⟨digit_len z (hin z hz), okS_of _⟩
    have htl : tx.length ≤ 7 := by rw [etx, List.length_map, hzl]; exact hn7
    refine ⟨_, D, tx, rfl, rfl, .inl (.inl (.inl eD)), ?_, ?_⟩
    · have h9 : ∀ l : List Str, (∀ x ∈ l, x.length ≤ 1921) → (l.map (·.length)).sum ≤ l.length * 1921 := fun l => by
        induction l with
        | nil => intro _; exact Nat.le_refl _
        | cons x l ih =>
          intro h
          have h1 := h x List.mem_cons_self
          have h2 := ih fun y hy => h y (List.mem_cons_of_mem _ hy)
          rw [List.map_cons, List.sum_cons, List.length_cons, Nat.add_mul]
          omega
      have h10 := h9 tx fun x hx => (htx x hx).1
      show _ + tx.length * 0 ≤ _
      omega
    rw [TL.join_eq]
    have hjl := join_len (sep := Str.ofString "") (ts := tx) (c := 1921) fun x hx => (htx x hx).1
    have hjo : okS (Str.join (Str.ofString "") tx) := okS_join (okS_of _) fun x hx => (htx x hx).2
    have hjr := StrLaws.reprText_len _ hjo
    have hj0 : (Str.ofString "").length = 0 := by decide
    rw [hj0] at hjl
    have I2 := I1.push (y := .str (Str.join (Str.ofString "") tx)) (od_plain (T := "str") (.str _) (by decide +kernel) (fun ds => by simp) (.str _) ⟨rfl, Nat.zero_le _, by show (reprText _).length ≤ 200000; omega⟩)
    refine ⟨Sm, l0, _, rfl, rfl, I1.sm, small1000 (by omega), ?_⟩
    obtain ⟨J7, eJ7⟩ : ∃ J7, J7 = upd J Sm (.lst (l0 ++ [.str (Str.join (Str.ofString "") tx)])) := ⟨_, rfl⟩
    rw [← eJ7] at I2
    rw [← eJ7]
    obtain ⟨l1, el1⟩ : ∃ l1, l1 = l0 ++ [V.str (Str.join (Str.ofString "") tx)] := ⟨_, rfl⟩
    rw [← el1] at I2
    have hl1 : l1.length = 11 := by rw [el1, List.length_append, hl0]; rfl
    -- the ten that stand in a turn
    refine ⟨.int n, rfl, 1, rfl, 10, 29, rfl, rfl, ⟨by decide, by decide, by decide⟩, 10, 29, rfl, rfl, ⟨by decide, by decide, by decide⟩, _, rfl, by show 1 ≤ sizeLine; decide, new_rd fun u1 G1 g1 _ _ tu1 => ⟨by show 1 ≤ sizeLine; decide, fun u2 nu2 nus => ⟨.int n, rfl, _, _, rfl, rfl, by show 10 ≤ sizeLine; decide, fun B nB => ?_⟩⟩⟩
    obtain ⟨G2, eG2⟩ : ∃ G2, G2 = upd G1 u2 (.lst [.int 0]) := ⟨_, rfl⟩
    rw [← eG2] at nB ⊢
    have g2 : Same G1 G2 := by rw [eG2]; exact same_lay nu2
    obtain ⟨m10, em10⟩ : ∃ m10 : List V, m10 = [.int n, .int (-1), .bl true, .str "0", .non, .int (10 ^ (29 : Int).toNat), .int (-(10 ^ (29 : Int).toNat)), .ref u1, .ref u2, .int ((n : Int) + 1)] := ⟨_, rfl⟩
    obtain ⟨G3, eG3⟩ : ∃ G3, G3 = upd G2 B (.lst m10) := ⟨_, rfl⟩
    have g3 : Same G2 G3 := by rw [eG3]; exact same_lay nB
    have eB : G3 B = some (.lst m10) := by rw [eG3]; exact upd_same
    rw [← em10, ← eG3]
    have g13 : Same J7 G3 := (g1.trans g2).trans g3
    have I3 := I2.same g13
    have hl10 : m10.length = 10 := by rw [em10]; rfl
    have nB2 : B ≠ Sm := fun z => by
      rw [z, (I2.same (g1.trans g2)).sm] at nB
      cases nB
    have nu2S : u2 ≠ Sm := fun z => by
      rw [z, (I2.same g1).sm] at nu2
      cases nu2
    have hit : ∀ x ∈ m10, ∃ d, Dn K (mns G3 [Sm]) x d ∧ smD d = true ∧ numD n d = false := fun x hx => by
      rw [em10] at hx
      simp only [List.mem_cons, List.not_mem_nil, or_false] at hx
      have num : ∀ z : Int, ¬ (0 ≤ z ∧ z < n) → numD n (.int z) = false := fun z h => by
        show (decide (0 ≤ z) && decide (z < (n : Int))) = false
        by_cases h1 : 0 ≤ z
        · rw [decide_eq_false fun h2 => h ⟨h1, h2⟩, Bool.and_false]
        · rw [decide_eq_false h1, Bool.false_and]
      have sml : ∀ z : Int, z.natAbs ≤ 10 → smD (.int z) = true := fun z h => decide_eq_true (Nat.le_trans h (by decide))
      rcases hx with rfl | rfl | rfl | rfl | rfl | rfl | rfl | rfl | rfl | rfl
      · exact ⟨_, .int _, sml _ (by omega), num _ (by omega)⟩
      · exact ⟨_, .int _, by decide, num _ (by omega)⟩
      · exact ⟨_, .bl true, rfl, rfl⟩
      · exact ⟨_, .str "0", by decide, rfl⟩
      · exact ⟨_, .non, rfl, rfl⟩
      · exact ⟨_, .int _, by decide, num _ (fun h => by have h2 := h.2; rw [show ((10 : Int) ^ (29 : Int).toNat) = 100000000000000000000000000000 by decide] at h2; omega)⟩
      · exact ⟨_, .int _, by decide, num _ (fun h => by have h2 := h.1; rw [show ((10 : Int) ^ (29 : Int).toNat) = 100000000000000000000000000000 by decide] at h2; omega)⟩
      · exact ⟨.tuple [.int 0], .tup (TF.sq (((tu1.up (.of_same g2)).up (.of_same g3)).mns fun b hb => by rw [List.mem_singleton.mp hb]; exact ⟨_, I3.sm⟩)) (.cons (.int 0) .nil), by decide, rfl⟩
      · exact ⟨.list [.int 0], .lst nus (.inl (.inl (by rw [mns_out (by simpa using nu2S)]; exact g3 _ _ (by rw [eG2]; exact upd_same)))) (.cons (.int 0) .nil), by decide, rfl⟩
      · exact ⟨_, .int _, sml _ (by omega), num _ (by omega)⟩
    refine ⟨B, rfl, ⟨m10, .inl (.inl eB)⟩, for_list (xs := m10) (fun i σ J => ∃ (l : List V) (y6 : Option V), σ = [some (.ref p), some (.int n), some (.ref a), some (.int k), some (.ref b), some (.ref Sm), y6] ∧ OI K H p a Sm n zs t3 l J ∧ l.length = 11 + i ∧ UpN (mns G3 [Sm]) (mns J [Sm])) ⟨l1, _, rfl, I3, hl1, UpN.refl _⟩ (fun i σ J _ hP => ?_) (fun i x σ J hx hP => ?_) (fun σ J hP => ?_)⟩
    · obtain ⟨l, _, _, _, _, u⟩ := hP
      exact .inl (.inl ((mns_some (u B _ (by rw [mns_out (by simpa using nB2)]; exact eB) fun q z => by cases z)).2))
    · obtain ⟨l, y6, rfl, I4, hl, u⟩ := hP
      obtain ⟨d, d1, d2, d3⟩ := hit x (List.mem_of_getElem? hx)
      have hi10 := (List.getElem?_eq_some_iff.mp hx).1
      exact ap_spl I4 hT hn7 hk (by omega) rfl rfl rfl (fun H1 Q' _ q => ⟨x, rfl, q⟩) (dn_up u d1) d2 (.inl d3) fun y J' I5 u5 => ⟨l ++ [y], _, rfl, I5, by rw [List.length_append, hl]; rfl, u.trans u5⟩
    obtain ⟨l, y6, rfl, I4, hl, u⟩ := hP
    rw [hl10] at hl
    have fin : ∀ (l : List V) (J : Hp) (y6 : Option V) (Q' : VK), OI K H p a Sm n zs t3 l J → 0 < l.length → l.length ≤ 30 → (∀ (x : V) (t' : Int) (H' : Hp), Od K H' n x → t ≤ t' → t' ≤ t + 30 → isPen K H' p t' → Kept p H H' → Q' x H') → tOp (rIxL K) (tVar 5) (tCall (spDraw K) [] noX (tCons (tVar 0) (tCons (tCB (rLenS K) (tCons (tVar 5) tNil)) tNil))) [some (.ref p), some (.int n), some (.ref a), some (.int k), some (.ref b), some (.ref Sm), y6] J Q' := fun l J y6 Q' I5 h0 h30 q' => by
      refine ⟨.ref Sm, rfl, .ref p, rfl, .ref Sm, rfl, Sm, _, rfl, .inl (.inl (.inl I5.sm)), p, _, t3, rfl, I5.pen, by omega, by omega, by omega, fun r t4 J' r0 r1 h7 h8 hp' hb' => ?_⟩
      obtain ⟨x, hx, hax⟩ := atI_get (xs := l) (i := r) r0 r1
      have nSp : Sm ≠ p := fun z => by
        obtain ⟨_, _, _, e, _⟩ := I5.pen
        rw [← z, I5.sm] at e
        cases e
      refine ⟨Sm, l, r, x, rfl, rfl, .inl (.inl (by rw [hb' Sm nSp]; exact I5.sm)), hax, q' x t4 J' (Od.p I5.pen hp' (UpP.of_kept hb'.kept) ((I5.od x (List.mem_of_getElem? hx)).up mns_le)) (by omega) (by omega) hp' (I5.kp.trans hb'.kept)⟩
    refine ⟨.int n, rfl, _, _, rfl, rfl, _, rfl, ite2 (fun e => ?_) (fun e => ?_)⟩
    · have hn2 : 1 < n := by
        have := of_decide_eq_true e
        omega
      obtain ⟨z, hz, hzm⟩ : ∃ z, atI (zs.map V.int) ((k : Int) - 1) = some (.int z) ∧ (z ∈ zs.take k ∨ z ∈ zs.drop (k + 1)) := by
        by_cases h0 : k = 0
        · subst h0
          obtain ⟨z, hz⟩ : ∃ z, zs[n - 1]? = some z := ⟨_, List.getElem?_eq_getElem (by omega)⟩
          refine ⟨z, at_m1 ?_ (by rw [List.length_map]; omega), .inr ?_⟩
          · rw [List.length_map, hzl, List.getElem?_map, hz]
            rfl
          · rw [List.mem_iff_getElem?]
            exact ⟨n - 2, by rw [List.getElem?_drop, show 0 + 1 + (n - 2) = n - 1 by omega]; exact hz⟩
        · obtain ⟨z, hz⟩ : ∃ z, zs[k - 1]? = some z := ⟨_, List.getElem?_eq_getElem (by omega)⟩
          refine ⟨z, at_of (j := k - 1) (by omega) ?_, .inl ?_⟩
          · rw [List.getElem?_map, hz]
            rfl
          · rw [List.mem_iff_getElem?]
            exact ⟨k - 1, by rw [List.getElem?_take_of_lt (by omega)]; exact hz⟩
      have hzi : z ∈ zs := hzm.elim List.mem_of_mem_take List.mem_of_mem_drop
      have hzr := hin z hzi
      refine ap_spl (one := .int z) (d := .int z) I4 hT hn7 hk (by omega) rfl rfl rfl (fun H1 Q' s1 q => ⟨.ref a, rfl, .int k, rfl, _, _, rfl, rfl, a, _, _, _, rfl, rfl, (I4.tu.up (.of_same s1)).sq, hz, q⟩) (.int z) (decide_eq_true (Nat.le_trans (show z.natAbs ≤ 100 by omega) (by decide))) (.inr ⟨z, rfl, hzm⟩) fun y J' I5 u5 => ?_
      refine ap_spl (one := .bl false) (d := .bool false) I5 hT hn7 hk (by rw [List.length_append]; show l.length + 1 < 1000; omega) rfl rfl rfl (fun H1 Q' s1 q => q) (.bl false) rfl (.inl rfl) fun y2 J'' I6 u6 => ?_
      exact fin _ _ _ _ I6 (by simp) (by rw [List.length_append, List.length_append]; show l.length + 1 + 1 ≤ 30; omega) q
    · exact fin _ _ _ _ I4 (by omega) (by omega) q
end
end K06
namespace K06
open PySem PySem.Spec PyProof.Rows L2 HM
abbrev sTns : Stmt := topS 34
abbrev sRef : Stmt := topS 35
section
variable {P : Program} {w : World} {K : PySem.W.Frag} {mg : Str → Option Value} {base : Heap}
abbrev NTn : List Str := ["_law_pen_here", "_law_many", "_law_k", "_law_found"]
theorem scTns : FnScope NTn ["_law_pen_here", "_law_many"] (defScope sTns) := ⟨rfl, rfl, rfl, by decide +kernel, rfl, by decide +kernel, by decide +kernel⟩
def spTns (K : PySem.W.Frag) : Sp := fun vs H Q _ => ∃ (p : Addr) (n : Nat) (t : Int), vs = [.ref p, .int (n : Int)] ∧ isPen K H p t ∧ 1 ≤ n ∧ n ≤ 7 ∧ t ≤ 100000 ∧
  ∀ (F : Addr) (gs : List (Addr × List Int)) (t' : Int) (H' : Hp), H' F = some (.lst (refsOf gs)) → TupsF H' gs → (∀ g ∈ gs, isT n g.2) → gs.length ≤ 2 → t ≤ t' → t' ≤ t + 30 → isPen K H' p t' → Kept p H H' → Q (.ref F) H'
theorem isT_cyc {n : Nat} (h : 1 ≤ n) : isT n ((iota (n - 1)).map (· + 1) ++ [0]) := by
  refine ⟨?_, fun z hz => ?_, ?_⟩
  · rw [List.length_append, List.length_map, iota_len]
    show n - 1 + 1 = n
    omega
  · rcases List.mem_append.mp hz with hz | hz
    · obtain ⟨y, hy, rfl⟩ := List.mem_map.mp hz
      have := iota_in (n - 1) y hy
      omega
    · rw [List.mem_singleton.mp hz]
      omega
  · rw [List.nodup_append]
    refine ⟨List.Pairwise.map _ (fun a b e z => e (by simpa using z)) (iota_nod _), by simp, fun x hx y hy e => ?_⟩
    obtain ⟨z, hz, rfl⟩ := List.mem_map.mp hx
    have := iota_in (n - 1) z hz
    rw [List.mem_singleton.mp hy] at e
    omega
theorem isT_swp {n : Nat} (h : 2 ≤ n) : isT n ([1, 0] ++ (iota (n - 2)).map (· + 2)) := by
  refine ⟨?_, fun z hz => ?_, ?_⟩
  · rw [List.length_append, List.length_map, iota_len]
    show 2 + (n - 2) = n
    omega
  · rcases List.mem_append.mp hz with hz | hz
    · simp only [List.mem_cons, List.not_mem_nil, or_false] at hz
      omega
    · obtain ⟨y, hy, rfl⟩ := List.mem_map.mp hz
      have := iota_in (n - 2) y hy
      omega
  · rw [List.nodup_append]
    refine ⟨by decide, List.Pairwise.map _ (fun a b e z => e (by simpa using z)) (iota_nod _), fun x hx y hy e => ?_⟩
    obtain ⟨z, hz, rfl⟩ := List.mem_map.mp hy
    have := iota_in (n - 2) z hz
    simp only [List.mem_cons, List.not_mem_nil, or_false] at hx
    omega
theorem rgV_add (a : Int) (m n : Nat) (h : (n : Int) - a = m) : rgV a n = ((iota m).map (· + a)).map V.int := by
  unfold rgV iota
  rw [h, Int.toNat_natCast, List.map_map, List.map_map]
  exact List.map_congr_left fun i _ => by simp [Int.add_comm]
theorem tf_put {J : Hp} {a D : Addr} {xs l l' : List V} (h : TF J a xs) (e : J D = some (.lst l)) : TF (upd J D (.lst l')) a xs := by
  obtain ⟨o, h1, h2⟩ := h
  refine ⟨o, h1, ?_⟩
  rw [upd_ne fun z => ?_]
  · exact h2
  · rw [z, e] at h2
    cases h2
theorem none_back {H J : Hp} {p D : Addr} {t : Int} (k : Kept p H J) (hp : isPen K J p t) (n : J D = none) : H D = none := by
  cases e : H D with
  | none => rfl
  | some o =>
    by_cases z : D = p
    · obtain ⟨_, _, _, e2, _⟩ := hp
      rw [z, e2] at n
      cases n
    · rw [k _ _ e z] at n
      cases n
theorem ok_tns {f fD fA : Addr} {fd fdD fdA : FuncData} {k : Nat} (F : Fun K "_law_turns" "_law_turns" sTns f fd) (GD : FnOk P w K mg base CX0 (k + 2) fD fdD ["_law_pen_here", "_law_most"] (spDraw K)) (GA : FnOk P w K mg base CX0 (k + 2) fA fdA ["_law_pen_here", "_law_many"] (spAny K))
    (gD : mg "_law_draw" = some (.ref fD)) (gA : mg "_law_any_turn" = some (.ref fA)) (kD : PySem.W.keepIn K (.ref fD) = true) (kA : PySem.W.keepIn K (.ref fA) = true) (bD : Binds K fdD ["_law_pen_here", "_law_most"] []) (bA : Binds K fdA ["_law_pen_here", "_law_many"] [])
    (mz : ∀ x ∈ bn, mg x = none) : FnOk P w K mg base CX0 (k + 3) f fd ["_law_pen_here", "_law_many"] (spTns K) := by
  refine F.ok scTns (fun vs H Q E h => ?_) (fun cdv A outer s H vs Q E hr h => ?_)
  · obtain ⟨p, n, t, rfl, _⟩ := h
    rfl
  · obtain ⟨p, n, t, rfl, hp, hn1, hn7, ht, q⟩ := h
    have mt := mz "tuple" (by decide)
    have mr := mz "range" (by decide)
    refine ⟨_, pss_cons (ps_setLc (i := 3) (own := [("_law_k", 2)]) (g := gName 2) (tt := tYes) (te := tCall (spAny K) [] noX (tCons (tVar 0) (tCons (tVar 1) tNil))) rfl scTns.nd rfl rfl (by rfl) (pi_range1 (by rfl) mr (pa_cons (pe_call GD hr (by rfl) gD kD bD .nil pass0 (pa_cons (pv 0) (pa_cons pe_int pa_nil))) pa_nil)) (blkOk_by (N := NTn) (sc := defScope sTns) (by decide +kernel))
        (fun _ _ _ _ _ => pg_name (i := 2) scTns.nd rfl (.inl rfl)) (fun _ _ _ _ _ => pts_nil) (fun _ _ _ _ _ => pe_call GA hr (by rfl) gA kA bA .nil pass0 (pa_cons (pv 0) (pa_cons (pv 1) pa_nil))))
      (pss_cons (ps_if (pw_and (pt_cmpR op_gt (pv 1) pe_int (nomark _)) (pw_and1 (pt_cmpR op_eq (pe_call GD hr (by rfl) gD kD bD .nil pass0 (pa_cons (pv 0) (pa_cons pe_int pa_nil))) pe_int (nomark _)))).pt
        (pss_one (ps_set (i := 3) scTns.nd rfl (.inl rfl) (pe_lst (pa_cons (pe_op op_catF (pe_tupRgF rfl (by rfl) mt (prg_2 (by rfl) mr pe_int (pv 1))) (pe_tupF (pa_cons pe_int pa_nil))) (pa_cons (pe_op op_catF (pe_tupF (pa_cons pe_int (pa_cons pe_int pa_nil))) (pe_tupRgF rfl (by rfl) mt (prg_2 (by rfl) mr pe_int (pv 1)))) pa_nil))))) pss_nil)
      (pss_one (ps_ret (pv 3)))), ?_⟩
    refine ⟨.ref p, rfl, p, 3, t, rfl, hp, by decide, by decide, by omega, fun r t1 H1 r0 r1 h1 h2 hp1 hb1 => ⟨r, rfl, by omega, by omega, fun D nD => ?_⟩⟩
    have k1 : Kept p H H1 := hb1.kept
    have nD0 : H D = none := none_back k1 hp1 nD
    refine lc_range (n := r.toNat) (fun i J => ∃ (gs : List (Addr × List Int)) (t' : Int), J D = some (.lst (refsOf gs)) ∧ gs.length = i ∧ TupsF J gs ∧ (∀ g ∈ gs, isT n g.2) ∧ isPen K J p t' ∧ t ≤ t' ∧ t' ≤ t + 1 + 7 * i ∧ Kept p H J)
      ⟨[], t1, upd_same, rfl, fun g hg => (by cases hg), fun g hg => (by cases hg), hp1.lay nD, by omega, by omega, fun b o e n1 => by rw [upd_ne (ne_of_none e nD0)]; exact k1 b o e n1⟩ (fun i J hi hW => ?_) fun J hW => ?_
    · obtain ⟨gs, t', eD, hgl, hTF, hgs, hpJ, h3, h4, kJ⟩ := hW
      refine ⟨rfl, _, rfl, _, rfl, p, n, t', rfl, hpJ, by omega, by omega, fun a zs t2 J2 hpm h5 h6 hp2 na tT k2 => ?_⟩
      have eD2 : J2 D = some (.lst (refsOf gs)) := lst_p hpJ.noPen k2.upP eD
      refine ⟨refsOf gs, eD2, by rw [List.length_map]; exact small1000 (by omega), gs ++ [(a, zs)], t2, by rw [upd_same, show refsOf (gs ++ [(a, zs)]) = refsOf gs ++ [V.ref a] from List.map_append], by rw [List.length_append, hgl]; rfl, fun g hg => ?_, fun g hg => ?_, hp2.put eD2, by omega, by omega, fun b o e n1 => ?_⟩
      · rcases List.mem_append.mp hg with hg | hg
        · exact tf_put (TF.p hpJ.noPen k2.upP (hTF g hg)) eD2
        · rw [List.mem_singleton.mp hg]
          exact tf_put tT eD2
      · rcases List.mem_append.mp hg with hg | hg
        · exact hgs g hg
        · rw [List.mem_singleton.mp hg]
          exact isT_perm hpm
      · rw [upd_ne (ne_of_none e nD0)]
        exact k2 b o (kJ b o e n1) n1
    · obtain ⟨gs, t', eD, hgl, hTF, hgs, hpJ, h3, h4, kJ⟩ := hW
      refine ⟨.int n, rfl, _, _, rfl, rfl, _, rfl, ite2 (fun e => ?_) (fun e => ?_)⟩
      · have hn4 : 4 < n := by
          have := of_decide_eq_true e
          omega
        refine ⟨.ref p, rfl, p, 3, t', rfl, hpJ, by decide, by decide, by omega, fun r2 t2 J2 q0 q1 h5 h6 hp2 hb2 => ⟨rfl, _, rfl, ite2 (fun e2 => ?_) (fun e2 => ?_)⟩⟩
        · refine ⟨.int n, rfl, 1, n, rfl, rfl, RgOk.of_le (by omega) (by omega) (by omega) (by omega), new_rd fun a1 G1 g1 _ _ ta1 => ⟨by show 1 ≤ sizeLine; decide, new_rd fun a2 G2 g2 _ _ ta2 => cat_rd (ta1.up (.of_same g2)) ta2 ?_ fun a3 G3 g3 ta3 => ⟨by show 2 ≤ sizeLine; decide, new_rd fun a4 G4 g4 _ _ ta4 => ⟨.int n, rfl, 2, n, rfl, rfl, RgOk.of_le (by omega) (by omega) (by omega) (by omega), new_rd fun a5 G5 g5 _ _ ta5 => cat_rd (ta4.up (.of_same g5)) ta5 ?_ fun a6 G6 g6 ta6 => ⟨by show 2 ≤ sizeLine; decide, fun F nF => ?_⟩⟩⟩⟩⟩
          · rw [rgV_add 1 (n - 1) n (by omega), List.length_map, List.length_map, iota_len]
            show n - 1 + 1 ≤ 1000
            omega
          · rw [rgV_add 2 (n - 2) n (by omega), List.length_map, List.length_map, iota_len]
            show 2 + (n - 2) ≤ 1000
            omega
          · rw [rgV_add 1 (n - 1) n (by omega)] at ta3
            rw [rgV_add 2 (n - 2) n (by omega)] at ta6
            have s26 : Same J2 G6 := ((((g1.trans g2).trans g3).trans g4).trans g5).trans g6
            have ta3' : TF G3 a3 (((iota (n - 1)).map (· + 1) ++ [0]).map V.int) := by rw [List.map_append]; exact ta3
            have ta6' : TF G6 a6 (([1, 0] ++ (iota (n - 2)).map (· + 2)).map V.int) := by rw [List.map_append]; exact ta6
            refine ⟨.ref F, rfl, q F [(a3, (iota (n - 1)).map (· + 1) ++ [0]), (a6, [1, 0] ++ (iota (n - 2)).map (· + 2))] t2 _ upd_same (fun g hg => ?_) (fun g hg => ?_) (Nat.le_refl _) (by omega) (by omega) ((hp2.upN (.of_same s26)).lay nF) fun b o e n1 => same_lay nF _ _ (s26 _ _ (hb2.kept b o (kJ b o e n1) n1))⟩
            · simp only [List.mem_cons, List.not_mem_nil, or_false] at hg
              rcases hg with rfl | rfl
              · exact (((ta3'.up (.of_same g4)).up (.of_same g5)).up (.of_same g6)).up (.of_same (same_lay nF))
              · exact ta6'.up (.of_same (same_lay nF))
            · simp only [List.mem_cons, List.not_mem_nil, or_false] at hg
              rcases hg with rfl | rfl
              · exact isT_cyc (by omega)
              · exact isT_swp (by omega)
        · exact ⟨.ref D, rfl, q D gs t2 J2 (lst_p hpJ.noPen hb2.kept.upP eD) (fun g hg => TF.p hpJ.noPen hb2.kept.upP (hTF g hg)) hgs (by omega) (by omega) (by omega) hp2 (kJ.trans hb2.kept)⟩
      · exact ⟨.ref D, rfl, q D gs t' J eD hTF hgs (by omega) (by omega) (by omega) hpJ kJ⟩
/-- the classes of refusals, by their names -/
structure Refs (K : PySem.W.Frag) (mg : Str → Option Value) (C Mk b1 b2 b3 b4 b5 b6 b7 s1 s2 s3 : Addr) : Prop where
  gC : mg "NoTurn" = some (.ref C)
  gM : mg "MarkError" = some (.ref Mk)
  g1 : mg "BelowNought" = some (.ref b1)
  g2 : mg "NoBack" = some (.ref b2)
  g3 : mg "NoColours" = some (.ref b3)
  g4 : mg "NoLeading" = some (.ref b4)
  g5 : mg "NoName" = some (.ref b5)
  g6 : mg "NoNumber" = some (.ref b6)
  g7 : mg "NoRow" = some (.ref b7)
  h1 : mg "NoSet" = some (.ref s1)
  h2 : mg "NoText" = some (.ref s2)
  h3 : mg "TooMany" = some (.ref s3)
  te : PySem.W.exmOne K (.ref C) (.ref Mk) = some true
  kC : PySem.W.kitOne K (.ref C) (.ref C) = some true
  kV : PySem.W.kitOne K (.ref C) (.type "ValueError") = some true
  k7 : PySem.W.kitAny K (.ref C) [.ref b1, .ref b2, .ref b3, .ref b4, .ref b5, .ref b6, .ref b7] = some false
  k3 : PySem.W.kitAny K (.ref C) [.ref s1, .ref s2, .ref s3] = some false
  X : ExcC K C
  F : XfC K C
abbrev NRf : List Str := ["_law_many", "_law_some", "_law_due", "_law_kept", "_law_caught", "e"]
theorem scRef : FnScope NRf ["_law_many", "_law_some", "_law_due"] (defScope sRef) := ⟨rfl, rfl, rfl, by decide +kernel, rfl, by decide +kernel, by decide +kernel⟩
variable {PH PT C CT fI fG fS : Addr} {fdG fdS : FuncData} {Mk b1 b2 b3 b4 b5 b6 b7 s1 s2 s3 : Addr}
structure DefsR (P : Program) (w : World) (K : PySem.W.Frag) (mg : Str → Option Value) (base : Heap) (k : Nat) (PH PT C CT fI fG fS : Addr) (fdG fdS : FuncData) (Mk b1 b2 b3 b4 b5 b6 b7 s1 s2 s3 : Addr) : Prop where
  GG : PFn noRepr P w K mg base (L2.CX P w) (k + 5) fG fdG ["many", "turns"] (spGof K PH PT C CT)
  GS : PFn noRepr P w K mg base CX0 (k + 5) fS fdS ["_law_found", "_law_due"] (spSame K)
  gG : mg "group_of" = some (.ref fG)
  gS : mg "_law_same" = some (.ref fS)
  kG : PySem.W.keepIn K (.ref fG) = true
  kS : PySem.W.keepIn K (.ref fS) = true
  bG : Binds K fdG ["many", "turns"] []
  bS : Binds K fdS ["_law_found", "_law_due"] []
  N : NoT P sInit "NoTurn.__init__" K C fI
  R : Refs K mg C Mk b1 b2 b3 b4 b5 b6 b7 s1 s2 s3
/-- a list of things to be refused -/
structure LRf (K : PySem.W.Frag) (H : Hp) (T : Addr) (xs : List V) (ds : List PyData) : Prop where
  l : H T = some (.lst xs)
  ne : T ≠ sysModules
  p : Paired (Itm K H) xs ds
  d : DnAll K H xs ds
  z : ∀ d ∈ ds, Iz 6 200000 d
  n : xs.length ≤ 10
theorem paired_itm {H H' : Hp} (u : UpN H H') {xs : List V} {ds : List PyData} (h : Paired (Itm K H) xs ds) : Paired (Itm K H') xs ds := paired_mono (fun _ _ h => Itm.up h u) h
theorem LRf.up {H H' : Hp} {T : Addr} {xs : List V} {ds : List PyData} (h : LRf K H T xs ds) (u : UpN H H') : LRf K H' T xs ds := ⟨u _ _ h.l (fun q z => by cases z), h.ne, paired_itm u h.p, dns_up u h.d, h.z, h.n⟩
theorem LRf.iz {H : Hp} {T : Addr} {xs : List V} {ds : List PyData} (h : LRf K H T xs ds) : Iz 7 10000000 (.list ds) := by
  have h1 := h.p.length
  have h2 := h.n
  refine iz_mono (iz_lst h.z) (by decide) ?_
  have := Nat.mul_le_mul_left (200000 + 2) (show ds.length ≤ 10 by omega)
  omega
theorem Up2.refl {H : Hp} (h : GxR.TabG H PH) (t : GxR.TabG H PT) : Up2 PH PT H H := ⟨UpN.refl _, h, t⟩
theorem Up2.trans {H H1 H2 : Hp} (a : Up2 PH PT H H1) (b : Up2 PH PT H1 H2) : Up2 PH PT H H2 := ⟨a.u.trans b.u, b.h, b.t⟩
theorem Up2.lay {H H1 : Hp} {d : Addr} {o : HO} (a : Up2 PH PT H H1) (n : H1 d = none) : Up2 PH PT H (upd H1 d o) := ⟨a.u.lay n, tab_lay a.h n, tab_lay a.t n⟩
def spRef (K : PySem.W.Frag) (PH PT : Addr) : Sp := fun vs H Q _ => ∃ (n due : Int) (T : Addr) (xs : List V) (ds : List PyData), vs = [.int n, .ref T, .int due] ∧ LRf K H T xs ds ∧ GxR.TabG H PH ∧ GxR.TabG H PT ∧ smI due = true ∧
  ((¬ (1 ≤ n ∧ n ≤ 7) ∧ due = -1) ∨ (1 ≤ n ∧ n ≤ 7 ∧ ∃ i : Nat, firstBad n 0 ds = some i ∧ due = (i : Int))) ∧ ∀ H', Up2 PH PT H H' → Q (.bl true) H'
/-- how it stands behind the try -/
def tEnd (K : PySem.W.Frag) (PH PT C : Addr) : TS := fun D σ J => ∃ (n due : Int) (T e d : Addr) (xs : List V) (ds : List PyData), σ = [some (.int n), some (.ref T), some (.int due), some (.str (PyData.list ds).shown), some (.ref e), none] ∧ LRf K J T xs ds ∧ smI due = true ∧
  J e = some (ExV C d e) ∧ J d = some (.xd [("at", .int due)]) ∧ ∀ H', Same J H' → D.rt (.bl true) H'
theorem endR {k : Nat} {f : Addr} {cdv : Value} {A : Around} {outer : List Env} {s : Shared} {H0 : Hp} {E : XK} (G : DefsR P w K mg base k PH PT C CT fI fG fS fdG fdS Mk b1 b2 b3 b4 b5 b6 b7 s1 s2 s3) (mz : ∀ x ∈ bn, mg x = none)
    (hg : noRepr (A.deeper (envOfC "_law_refused" (defScope sRef) s.heap.objs.size f cdv))) (hr : Room (k + 5) (A.deeper (envOfC "_law_refused" (defScope sRef) s.heap.objs.size f cdv))) :
    PSs (cxOf CX0 P w K mg base NRf "_law_refused" (defScope sRef) f cdv A outer s H0 E).nox ((defBody sRef).drop 3) (tEnd K PH PT C) := by
  have mi := mz "isinstance" (by decide)
  have mp := mz "repr" (by decide)
  have hg2 : (A.deeper (envOfC "_law_refused" (defScope sRef) s.heap.objs.size f cdv)).guards = some [] := hg
  have R := G.R
  refine pssW (pss_cons (ps_if (pw_or (pt_cmpR op_ne (pe_callB (call_reprN hg2 hr) (by rfl) mp (by decide +kernel) (pa_cons (pv 1) pa_nil)) (pv 3) (nomark _))
        (pw_or (pt_not (pt_val (pe_callB (call_isV R.X) (by rfl) mi boot_isinstance (pa_cons (pv 4) (pa_cons (pe_glob (v := .ref C) (by rfl) R.gC rfl) pa_nil)))))
        (pw_or1 (pt_not (pt_val (pe_callB (call_isV R.X) (by rfl) mi boot_isinstance (pa_cons (pv 4) (pa_cons (pe_bltn (v := .ty "ValueError") (by rfl) (mz "ValueError" (by decide)) (by decide +kernel) rfl) pa_nil)))))))).pt (pss_one (ps_ret pe_bl)) pss_nil)
    (pss_cons (ps_if (pt_val (pe_callB (call_isVT R.X) (by rfl) mi boot_isinstance (pa_cons (pv 4) (pa_cons (pe_tup (pa_cons (pe_glob (v := .ref b1) (by rfl) R.g1 rfl) (pa_cons (pe_glob (v := .ref b2) (by rfl) R.g2 rfl) (pa_cons (pe_glob (v := .ref b3) (by rfl) R.g3 rfl) (pa_cons (pe_glob (v := .ref b4) (by rfl) R.g4 rfl)
        (pa_cons (pe_glob (v := .ref b5) (by rfl) R.g5 rfl) (pa_cons (pe_glob (v := .ref b6) (by rfl) R.g6 rfl) (pa_cons (pe_glob (v := .ref b7) (by rfl) R.g7 rfl) pa_nil)))))))) pa_nil)))) (pss_one (ps_ret pe_bl)) pss_nil)
    (pss_one (ps_ret (pe_and (pe_not (pe_callB (call_isVT R.X) (by rfl) mi boot_isinstance (pa_cons (pv 4) (pa_cons (pe_tup (pa_cons (pe_glob (v := .ref s1) (by rfl) R.h1 rfl) (pa_cons (pe_glob (v := .ref s2) (by rfl) R.h2 rfl) (pa_cons (pe_glob (v := .ref s3) (by rfl) R.h3 rfl) pa_nil)))) pa_nil))))
        (pe_one (pe_callP G.GS hg hr (by rfl) G.gS G.kS G.bS pass0 (pa_cons (pe_xfV R.F G.N.no (pv 4)) (pa_cons (pv 2) pa_nil))))))))) fun D σ J h => ?_
  obtain ⟨n, due, T, e, d, xs, ds, rfl, hL, hsi, ea, ed, q⟩ := h
  have dk2 := int_ok hsi
  refine ⟨.ref T, rfl, T, .list ds, rfl, .lst hL.ne (.inl (.inl hL.l)) hL.d, hL.iz.1, Nat.le_trans hL.iz.2.1 (by decide), iz_shown hL.iz, .str _, rfl, rfl, _, rfl, ?_⟩
  rw [decide_eq_true rfl]
  refine iteF ⟨_, rfl, e, d, _, _, _, true, rfl, .own C, ea, ed, R.kC, _, rfl, iteF ⟨_, rfl, e, d, _, _, _, true, rfl, .ty _, ea, ed, R.kV, _, rfl, iteF ?_⟩⟩
  refine ⟨_, rfl, by show 7 ≤ sizeLine; decide, fun T1 nT => ⟨e, d, [("at", .int due)], T1, _, _, false, rfl, upd_same, .cons (.own _) (.cons (.own _) (.cons (.own _) (.cons (.own _) (.cons (.own _) (.cons (.own _) (.cons (.own _) .nil)))))), ?_, ?_, R.k7, _, rfl, iteF ⟨_, rfl, by show 3 ≤ sizeLine; decide, fun T2 nT2 => ⟨e, d, [("at", .int due)], T2, _, _, false, rfl, upd_same, .cons (.own _) (.cons (.own _) (.cons (.own _) .nil)), ?_, ?_, R.k3, false, rfl, true, rfl, iteT ⟨_, rfl, e, d, [("at", .int due)], .int due, rfl, ?_, ?_, rfl, _, rfl, .int due, .int due, .int due, rfl, .int due, .int due, dk2.a, dk2.b, dk2.c, dk2.d', dk2.e, dk2.f, ?_⟩⟩⟩⟩⟩
  · exact same_lay nT _ _ ea
  · exact same_lay nT _ _ ed
  · exact same_lay nT2 _ _ (same_lay nT _ _ ea)
  · exact same_lay nT2 _ _ (same_lay nT _ _ ed)
  · exact same_lay nT2 _ _ (same_lay nT _ _ ea)
  · exact same_lay nT2 _ _ (same_lay nT _ _ ed)
  · exact q _ ((same_lay nT).trans (same_lay nT2))
theorem ok_ref {k : Nat} {f : Addr} {fd : FuncData} (F : Fun K "_law_refused" "_law_refused" sRef f fd) (G : DefsR P w K mg base k PH PT C CT fI fG fS fdG fdS Mk b1 b2 b3 b4 b5 b6 b7 s1 s2 s3) (mz : ∀ x ∈ bn, mg x = none) :
    PFn noRepr P w K mg base CX0 (k + 6) f fd ["_law_many", "_law_some", "_law_due"] (spRef K PH PT) := by
  refine pfn_of F scRef (fun vs H Q E h => ?_) (fun cdv A outer s H vs Q E hcd hgd hr h => ?_)
  · obtain ⟨n, due, T, xs, ds, rfl, _⟩ := h
    rfl
  · obtain ⟨n, due, T, xs, ds, rfl, hL, tgH, tgT, hsi, hc, q⟩ := h
    have hg : noRepr (A.deeper (envOfC "_law_refused" (defScope sRef) s.heap.objs.size f cdv)) := hgd
    have hg2 : (A.deeper (envOfC "_law_refused" (defScope sRef) s.heap.objs.size f cdv)).guards = some [] := hgd
    have mp := mz "repr" (by decide)
    have R := G.R
    refine ⟨_, pss_cons (ps_set (i := 3) scRef.nd rfl (.inl rfl) (pe_callB (call_reprN hg2 hr) (by rfl) mp (by decide +kernel) (pa_cons (pv 1) pa_nil)))
      (pss_cons (ps_set (i := 4) scRef.nd rfl (.inl rfl) pe_non)
      (pss_cons (ps_tryK (i := 5) (c := .ref Mk) (tb := fun W => tDrop (tCallS (spGof K PH PT C CT) (WE W) (tCons (tVar 0) (tCons (tVar 1) tNil)))) (ts := fun _ => tAsg (tVar 5) (gName 4)) (Wout := fun _ _ _ _ => False) rfl rfl scRef.nd rfl rfl ⟨by rfl, by decide, Or.inl R.gM⟩ takesN rfl
        (fun W pn xe tk _ => pss_one (ps_expr (pe_callPS G.GG hg hr (by rfl) G.gG G.kG G.bG (fun σ => passAt tk σ) (pa_cons (pv 0) (pa_cons (pv 1) pa_nil)))))
        (fun a oe pn => pss_one (ps_set (i := 4) scRef.nd rfl (.inl rfl) (pv 5))))
      (endR G mz hg hr))), ?_⟩
    refine ⟨.ref T, rfl, T, .list ds, rfl, .lst hL.ne (.inl (.inl hL.l)) hL.d, hL.iz.1, Nat.le_trans hL.iz.2.1 (by decide), iz_shown hL.iz, ?_⟩
    have hl10 := hL.n
    refine ⟨_, rfl, _, rfl, n, T, xs, ds, rfl, .inl (.inl hL.l), hL.p, by omega, tgH, tgT, fun hn d nd => ?_, fun h1 h7 => ⟨fun i hi J d u nd => ?_, fun hb => ?_⟩⟩
    · have ed : due = -1 := by
        rcases hc with hc | hc
        · exact hc.2
        · exact absurd ⟨hc.1, hc.2.1⟩ hn
      refine ⟨true, R.te, fun _ => ⟨C, d, rfl, rfl, fun e ne => ⟨.ref e, rfl, ?_⟩⟩, fun z => by cases z⟩
      have ned : e ≠ d := fun z => by
        rw [z, upd_same] at ne
        cases ne
      have u2 : Up2 PH PT H _ := ((Up2.refl tgH tgT).lay nd (o := .xd [("at", .int (-1))])).lay ne (o := ExV C d e)
      refine ⟨n, due, T, e, d, xs, ds, rfl, hL.up u2.u, hsi, upd_same, by rw [upd_ne (Ne.symm ned), ed]; exact upd_same, fun H' s' => q H' ⟨u2.u.trans (.of_same s'), tab_same u2.h s', tab_same u2.t s'⟩⟩
    · have ed : due = (i : Int) := by
        rcases hc with hc | ⟨_, _, j, hj, e⟩
        · exact absurd ⟨h1, h7⟩ hc.1
        · rw [hi] at hj
          cases hj
          exact e
      refine ⟨true, R.te, fun _ => ⟨C, d, rfl, rfl, fun e ne => ⟨.ref e, rfl, ?_⟩⟩, fun z => by cases z⟩
      have ned : e ≠ d := fun z => by
        rw [z, upd_same] at ne
        cases ne
      have u2 : Up2 PH PT H _ := (u.lay nd (o := .xd [("at", .int (i : Nat))])).lay ne (o := ExV C d e)
      refine ⟨n, due, T, e, d, xs, ds, rfl, hL.up u2.u, hsi, upd_same, by rw [upd_ne (Ne.symm ned), ed]; exact upd_same, fun H' s' => q H' ⟨u2.u.trans (.of_same s'), tab_same u2.h s', tab_same u2.t s'⟩⟩
    · exfalso
      rcases hc with hc | ⟨_, _, j, hj, _⟩
      · exact hc.1 ⟨h1, h7⟩
      · rw [hb] at hj
        cases hj
end
end K06
namespace HM
open PySem PySem.Spec PyProof.Rows L2
/-! ### what comes of a turn of few things -/
theorem len_subG {α : Type} : ∀ {L ns : List α}, L.Nodup → (∀ x ∈ L, x ∈ ns) → L.length ≤ ns.length
  | [], ns, _, _ => Nat.zero_le _
  | x :: L, ns, nd, h => by
    obtain ⟨l1, l2, rfl⟩ := List.append_of_mem (h x List.mem_cons_self)
    rw [List.nodup_cons] at nd
    have ih := len_subG (ns := l1 ++ l2) nd.2 fun y hy => by
      have h1 := h y (List.mem_cons_of_mem _ hy)
      have hne : y ≠ x := fun z => nd.1 (z ▸ hy)
      rcases List.mem_append.mp h1 with h1 | h1
      · exact List.mem_append_left _ h1
      · rcases List.mem_cons.mp h1 with h1 | h1
        · exact absurd h1 hne
        · exact List.mem_append_right _ h1
    rw [List.length_append] at ih
    rw [List.length_append, List.length_cons, List.length_cons]
    omega
def lists (m : Nat) : Nat → List (List Int)
  | 0 => [[]]
  | k + 1 => (lists m k).flatMap fun l => (iota m).map fun z => z :: l
theorem mem_lists {m : Nat} : ∀ {l : List Int}, inN l m → l ∈ lists m l.length
  | [], _ => List.mem_singleton.mpr rfl
  | z :: l, h => by
    refine List.mem_flatMap.mpr ⟨l, mem_lists fun y hy => h y (List.mem_cons_of_mem _ hy), List.mem_map.mpr ⟨z, ?_, rfl⟩⟩
    have := h z List.mem_cons_self
    exact List.mem_map.mpr ⟨z.toNat, List.mem_range.mpr (by omega), by omega⟩
def orders (m : Nat) : List (List Int) := (lists m m).filter fun l => decide l.Nodup
theorem orders_few : ∀ m, m ≤ 4 → (orders m).length ≤ 24
  | 0, _ => by decide +kernel
  | 1, _ => by decide +kernel
  | 2, _ => by decide +kernel
  | 3, _ => by decide +kernel
  | 4, _ => by decide +kernel
  | m + 5, h => by omega
/-- moves the first m things only -/
structure Low (n m : Nat) (x : List Int) : Prop where
  t : isT n x
  f : ∀ i, m ≤ i → i < n → ent x i = i
theorem low_reach {n m : Nat} {g x : List Int} (hg : Low n m g) (r : Reach n [g] x) : Low n m x := by
  induction r with
  | stay => exact ⟨isT_iota n, fun i _ hi => ent_iota hi⟩
  | step hx hm ih =>
    rw [List.mem_singleton.mp hm]
    refine ⟨isT_then ih.t hg.t, fun i h1 h2 => ?_⟩
    rw [ent_then (by rw [ih.t.len]; exact h2), ih.f i h1 h2, hg.f i h1 h2]
theorem low_take {n m : Nat} {x : List Int} (h : Low n m x) (hm : m ≤ n) : x.take m ∈ orders m := by
  have hl := h.t.len
  have e : (x.take m).length = m := by rw [List.length_take]; omega
  refine List.mem_filter.mpr ⟨?_, decide_eq_true (List.Nodup.sublist (List.take_sublist m x) h.t.nod)⟩
  have h1 : inN (x.take m) m := fun z hz => by
    have hz0 := h.t.ran z (List.mem_of_mem_take hz)
    refine ⟨hz0.1, ?_⟩
    apply Decidable.byContradiction
    intro hc
    obtain ⟨i, hi, ez⟩ := List.mem_iff_getElem.mp hz
    rw [List.length_take] at hi
    rw [List.getElem_take] at ez
    have e1 : ent x i = z.toNat := by
      unfold ent
      rw [getD_ge (by omega), ez]
    have e2 : ent x z.toNat = z.toNat := h.f _ (by omega) (by omega)
    have := ent_inj h.t (by omega) (by omega) (e1.trans e2.symm)
    omega
  have := mem_lists h1
  rw [e] at this
  exact this
theorem low_inj {n m : Nat} {x y : List Int} (hx : Low n m x) (hy : Low n m y) (e : x.take m = y.take m) : x = y := by
  refine ext_ent hx.t.len hy.t.len hx.t.ran hy.t.ran fun i hi => ?_
  by_cases h : i < m
  · have h1 : (x.take m)[i]? = (y.take m)[i]? := by rw [e]
    rw [List.getElem?_take_of_lt h, List.getElem?_take_of_lt h] at h1
    unfold ent
    rw [List.getD_eq_getElem?_getD, List.getD_eq_getElem?_getD, h1]
  · rw [hx.f i (by omega) hi, hy.f i (by omega) hi]
theorem big_no {n m : Nat} {g : List Int} (hg : Low n m g) (hm : m ≤ n) (h4 : m ≤ 4) : ¬ Big n [g] := fun ⟨l, nd, hl, hr⟩ => by
  have h1 : (l.map (·.take m)).Nodup := List.pairwise_map.mpr (List.Pairwise.imp_of_mem (fun ha hb hne e => hne (low_inj (low_reach hg (hr _ ha)) (low_reach hg (hr _ hb)) e)) nd)
  have h2 := len_subG (ns := orders m) h1 fun y hy => by
    obtain ⟨x, hx, rfl⟩ := List.mem_map.mp hy
    exact low_take (low_reach hg (hr _ hx)) hm
  rw [List.length_map, hl] at h2
  have := orders_few m h4
  omega
theorem low_of {n m : Nat} {ps : List Int} (h : ps.Perm (iota m)) (hm : m ≤ n) : Low n m (ps ++ (iota (n - m)).map (· + (m : Int))) := by
  have t := isT_perm h
  have hl := t.len
  refine ⟨⟨?_, fun z hz => ?_, ?_⟩, fun i h1 h2 => ?_⟩
  · rw [List.length_append, List.length_map, iota_len, hl]
    omega
  · rcases List.mem_append.mp hz with hz | hz
    · have := t.ran z hz
      omega
    · obtain ⟨y, hy, rfl⟩ := List.mem_map.mp hz
      have := iota_in (n - m) y hy
      omega
  · rw [List.nodup_append]
    refine ⟨t.nod, List.Pairwise.map _ (fun a b e z => e (by omega)) (iota_nod _), fun x hx y hy e => ?_⟩
    obtain ⟨z, hz, rfl⟩ := List.mem_map.mp hy
    have := iota_in (n - m) z hz
    have := t.ran x hx
    omega
  · have e := ent_iota (n := n - m) (i := i - m) (by omega)
    have e2 := ent_int (iota_in (n - m)) (i := i - m) (by rw [iota_len]; omega)
    rw [e, getD_ge (by rw [iota_len]; omega)] at e2
    unfold ent
    rw [List.getD_eq_getElem?_getD, List.getElem?_append_right (by omega), hl, List.getElem?_map, List.getElem?_eq_getElem (by rw [iota_len]; omega), e2]
    show (((i - m : Nat) : Int) + (m : Int)).toNat = i
    omega
/-! ### things, and the first that is bad -/
def Thg (K : PySem.W.Frag) (H : Hp) (x : V) (d : PyData) : Prop := Itm K H x d ∧ Dn K H x d ∧ Iz 6 200000 d
theorem Thg.up {K : PySem.W.Frag} {H H' : Hp} {x : V} {d : PyData} (h : Thg K H x d) (u : UpN H H') : Thg K H' x d := ⟨h.1.up u, dn_up u h.2.1, h.2.2⟩
theorem Thg.p {K : PySem.W.Frag} {H H' : Hp} {p : Addr} {t t' : Int} {x : V} {d : PyData} (hp : isPen K H p t) (hp' : isPen K H' p t') (u : UpP p H H') (h : Thg K H x d) : Thg K H' x d := by
  obtain ⟨⟨h1, h0⟩, h3, h4⟩ := h
  refine ⟨⟨?_, h0⟩, dn_p hp.noPen hp.noEmp u h3, h4⟩
  rcases h1 with ⟨a, xs, ds, e1, e2, f1, f2⟩ | ⟨T, g1, g2, g3⟩
  · exact .inl ⟨a, xs, ds, e1, e2, TF.p hp.noPen u f1, dps_p hp.noPen u f2⟩
  · exact .inr ⟨T, vty_p hp hp' u g1, g2, g3⟩
theorem Od.thg {K : PySem.W.Frag} {H : Hp} {n : Nat} {x : V} (h : Od K H n x) : ∃ d, Thg K H x d ∧ goodD n d = false := let ⟨d, h1, h2, h3, h4⟩ := h; ⟨d, ⟨h1, h3, h4⟩, h2⟩
theorem thg_T {K : PySem.W.Frag} {H : Hp} {a : Addr} {n : Nat} {l : List Int} (h : TF H a (l.map V.int)) (t : isT n l) (hn : n ≤ 7) : Thg K H (.ref a) (dTu l) := by
  have hl := t.len
  refine ⟨itm_T h (by omega), .tup h.sq (dn_ints l), ?_⟩
  have i0 := it_tup (it_ints (zs := l) fun z hz => by have := t.ran z hz; omega)
  rw [List.length_map, hl] at i0
  exact (it_mono i0 (by decide) (by have := Nat.mul_le_mul_left (1921 + 2) hn; omega)).iz
theorem thgs_itm {K : PySem.W.Frag} {H : Hp} : ∀ {xs : List V} {ds : List PyData}, Paired (Thg K H) xs ds → Paired (Itm K H) xs ds ∧ DnAll K H xs ds ∧ ∀ d ∈ ds, Iz 6 200000 d
  | _, _, .nil => ⟨.nil, .nil, fun d hd => (by cases hd)⟩
  | _, _, .cons h t => by
    obtain ⟨g1, g2, g3⟩ := thgs_itm t
    refine ⟨.cons h.1 g1, .cons h.2.1 g2, fun d hd => ?_⟩
    rcases List.mem_cons.mp hd with rfl | hd
    · exact h.2.2
    · exact g3 d hd
theorem thgs_T {K : PySem.W.Frag} {H : Hp} {n : Nat} (hn1 : 1 ≤ n) (hn : n ≤ 7) : ∀ {gs : List (Addr × List Int)}, TupsF H gs → (∀ g ∈ gs, isT n g.2) → Paired (Thg K H) (refsOf gs) (gs.map fun g => dTu g.2) ∧ ∀ d ∈ gs.map (fun g => dTu g.2), goodD n d = true
  | [], _, _ => ⟨.nil, fun d hd => (by cases hd)⟩
  | g :: gs, h, ht => by
    obtain ⟨g1, g2⟩ := thgs_T hn1 hn (gs := gs) (fun q hq => h q (List.mem_cons_of_mem _ hq)) fun q hq => ht q (List.mem_cons_of_mem _ hq)
    have t := ht g List.mem_cons_self
    refine ⟨.cons (thg_T (h g List.mem_cons_self) t hn) g1, fun d hd => ?_⟩
    rcases List.mem_cons.mp hd with rfl | hd
    · exact good_T t hn1 hn
    · exact g2 d hd
theorem fb_at {n : Int} {d : PyData} {post : List PyData} (hd : goodD n d = false) : ∀ {pre : List PyData} {k : Nat}, (∀ e ∈ pre, goodD n e = true) → firstBad n k (pre ++ d :: post) = some (k + pre.length)
  | [], k, _ => by
    show (if goodD n d = true then firstBad n (k + 1) post else some k) = some k
    rw [hd]
    rfl
  | e :: pre, k, h => by
    show (if goodD n e = true then firstBad n (k + 1) (pre ++ d :: post) else some k) = some (k + (pre.length + 1))
    rw [if_pos (h e List.mem_cons_self), fb_at hd fun z hz => h z (List.mem_cons_of_mem _ hz)]
    congr 1
    omega
theorem thgs_up {K : PySem.W.Frag} {H H' : Hp} (u : UpN H H') {xs : List V} {ds : List PyData} (h : Paired (Thg K H) xs ds) : Paired (Thg K H') xs ds := paired_mono (fun _ _ h => h.up u) h
theorem thgs_p {K : PySem.W.Frag} {H H' : Hp} {p : Addr} {t t' : Int} (hp : isPen K H p t) (hp' : isPen K H' p t') (k : Kept p H H') {xs : List V} {ds : List PyData} (h : Paired (Thg K H) xs ds) : Paired (Thg K H') xs ds := paired_mono (fun _ _ h => h.p hp hp' (UpP.of_kept k)) h
end HM
namespace K06
open PySem PySem.Spec PyProof.Rows L2 HM
section
variable {K : PySem.W.Frag}
theorem lrf_of {H : Hp} {T : Addr} {xs : List V} {ds : List PyData} (h : Paired (Thg K H) xs ds) (e : H T = some (.lst xs)) (ne : T ≠ sysModules) (hl : xs.length ≤ 10) : LRf K H T xs ds := let ⟨g1, g2, g3⟩ := thgs_itm h; ⟨e, ne, g1, g2, g3, hl⟩
/-! ### l[:i] + [odd(pen, many)] + l[i:] -/
def tIns (K : PySem.W.Frag) (S i : Nat) : TE := tOp rCatN (tOp rCatN (tSl (rSlL K) (tVar S) tNoPart (tPart (tVar i))) (tLst (tCons (tCall (spOdd K) [] noX (tCons (tVar 1) (tCons (tVar 3) tNil))) tNil))) (tSl (rSlL K) (tVar S) (tPart (tVar i)) tNoPart)
theorem ins_rd {S i f n : Nat} {σ : L2.St} {J : Hp} {p T : Addr} {xs : List V} {t : Int} {Q : VK} (e1 : σ[1]? = some (some (.ref p))) (e3 : σ[3]? = some (some (.int (n : Int)))) (eS : σ[S]? = some (some (.ref T))) (ei : σ[i]? = some (some (.int (f : Int)))) (hT : J T = some (.lst xs)) (hp : isPen K J p t) (hn1 : 1 ≤ n) (hn : n ≤ 7) (ht : t ≤ 100000) (hl : xs.length ≤ 20)
    (q : ∀ (R : Addr) (x : V) (t' : Int) (J' : Hp), J' R = some (.lst (xs.take f ++ [x] ++ xs.drop f)) → R ≠ sysModules → Od K J' n x → t ≤ t' → t' ≤ t + 30 → isPen K J' p t' → Kept p J J' → Q (.ref R) J') : tIns K S i σ J Q := by
  refine ⟨.ref T, eS, .int f, ei, _, rfl, T, xs, rfl, .inl (.inl hT), fun A1 nA1 => ?_⟩
  rw [cut_take]
  obtain ⟨J1, eJ1⟩ : ∃ J1, J1 = upd J A1 (.lst (xs.take f)) := ⟨_, rfl⟩
  have s1 : Same J J1 := by rw [eJ1]; exact same_lay nA1
  have a1 : J1 A1 = some (.lst (xs.take f)) := by rw [eJ1]; exact upd_same
  rw [← eJ1]
  refine ⟨.ref p, e1, .int n, e3, p, n, t, rfl, hp.upN (.of_same s1), hn1, hn, ht, fun x t' J2 hx h1 h2 hp2 k2 => ⟨by show 1 ≤ sizeLine; decide, fun A2 nA2 => ?_⟩⟩
  obtain ⟨J3, eJ3⟩ : ∃ J3, J3 = upd J2 A2 (.lst [x]) := ⟨_, rfl⟩
  have s3 : Same J2 J3 := by rw [eJ3]; exact same_lay nA2
  have a2 : J3 A2 = some (.lst [x]) := by rw [eJ3]; exact upd_same
  have hp1 := hp.upN (.of_same s1)
  have a1' : J3 A1 = some (.lst (xs.take f)) := s3 _ _ (lst_p hp1.noPen k2.upP a1)
  have T3 : J3 T = some (.lst xs) := s3 _ _ (lst_p hp1.noPen k2.upP (s1 _ _ hT))
  rw [← eJ3]
  refine ⟨A1, A2, _, _, rfl, rfl, a1', a2, by rw [List.length_take]; exact Nat.le_of_lt (small1000 (by show min f xs.length + 1 ≤ 1000; omega)), fun A3 nA3 _ => ⟨.ref T, eS, .int f, ei, _, rfl, T, xs, rfl, .inl (.inl (same_lay nA3 _ _ T3)), fun A4 nA4 => ?_⟩⟩
  rw [cut_drop] at *
  refine ⟨A3, A4, _, _, rfl, rfl, same_lay nA4 _ _ upd_same, upd_same, ?_, fun R nR nRs => ?_⟩
  · rw [List.length_append, List.length_take, List.length_drop]
    exact Nat.le_of_lt (small1000 (by show min f xs.length + 1 + (xs.length - f) ≤ 1000; omega))
  · have sR : Same J2 _ := ((s3.trans (same_lay nA3)).trans (same_lay nA4)).trans (same_lay nR (o := .lst (xs.take f ++ [x] ++ xs.drop f)))
    exact q R x t' _ upd_same nRs (hx.up (.of_same sR)) h1 h2 (hp2.upN (.of_same sR)) fun b o e n1 => sR _ _ (k2 _ _ (s1 _ _ e) n1)
end
end K06
namespace HM
open PySem PySem.Spec PyProof.Rows L2
theorem int_map_inj : ∀ {a b : List Int}, a.map V.int = b.map V.int → a = b
  | [], [], _ => rfl
  | [], _ :: _, h => by cases h
  | _ :: _, [], h => by cases h
  | x :: a, y :: b, h => by
    simp only [List.map_cons, List.cons.injEq, V.int.injEq] at h
    rw [h.1, int_map_inj h.2]
theorem tf_eq {H : Hp} {a : Addr} {xs ys : List Int} (h1 : TF H a (xs.map V.int)) (h2 : TF H a (ys.map V.int)) : xs = ys := by
  obtain ⟨o1, _, e1⟩ := h1
  obtain ⟨o2, _, e2⟩ := h2
  rw [e1] at e2
  simp only [Option.some.injEq, HO.frz.injEq, HO.tup.injEq] at e2
  exact int_map_inj e2.2
theorem take_past {α : Type} {A B : List α} {d : α} (j : Nat) : (A ++ d :: B).take (A.length + 1 + j) = A ++ d :: B.take j := by
  rw [List.take_append, List.take_of_length_le (by omega), show A.length + 1 + j - A.length = j + 1 by omega, List.take_succ_cons]
end HM
namespace K06
open PySem PySem.Spec PyProof.Rows L2 HM
abbrev sLaw : Stmt := topS 36
abbrev NLw : List Str := ["_law_script", "_law_pen_here", "_law_turn", "_law_many", "_law_some", "_law_first", "_law_spoilt", "_law_second", "_law_strange", "_law_one"]
section
variable {P : Program} {w : World} {K : PySem.W.Frag} {mg : Str → Option Value} {base : Heap}
theorem scLaw : FnScope NLw ["_law_script"] (defScope sLaw) := ⟨rfl, rfl, rfl, by decide +kernel, rfl, by decide +kernel, by decide +kernel⟩
structure DefsL (P : Program) (w : World) (K : PySem.W.Frag) (mg : Str → Option Value) (base : Heap) (PH PT C CT fP fD fA fT fO fR fG : Addr) (fdP fdD fdA fdT fdO fdR fdG : FuncData) : Prop where
  GP : FnOk P w K mg base CX0 6 fP fdP ["_law_script"] spPen
  GD : FnOk P w K mg base CX0 6 fD fdD ["_law_pen_here", "_law_most"] (spDraw K)
  GA : FnOk P w K mg base CX0 6 fA fdA ["_law_pen_here", "_law_many"] (spAny K)
  GT : FnOk P w K mg base CX0 6 fT fdT ["_law_pen_here", "_law_many"] (spTns K)
  GO : FnOk P w K mg base CX0 6 fO fdO ["_law_pen_here", "_law_many"] (spOdd K)
  GR : PFn noRepr P w K mg base CX0 6 fR fdR ["_law_many", "_law_some", "_law_due"] (spRef K PH PT)
  GG : PFn noRepr P w K mg base (L2.CX P w) 6 fG fdG ["many", "turns"] (spGof K PH PT C CT)
  gP : mg "_law_pen" = some (.ref fP)
  gD : mg "_law_draw" = some (.ref fD)
  gA : mg "_law_any_turn" = some (.ref fA)
  gT : mg "_law_turns" = some (.ref fT)
  gO : mg "_law_odd" = some (.ref fO)
  gR : mg "_law_refused" = some (.ref fR)
  gG : mg "group_of" = some (.ref fG)
  kP : PySem.W.keepIn K (.ref fP) = true
  kD : PySem.W.keepIn K (.ref fD) = true
  kA : PySem.W.keepIn K (.ref fA) = true
  kT : PySem.W.keepIn K (.ref fT) = true
  kO : PySem.W.keepIn K (.ref fO) = true
  kR : PySem.W.keepIn K (.ref fR) = true
  kG : PySem.W.keepIn K (.ref fG) = true
  bP : Binds K fdP ["_law_script"] []
  bD : Binds K fdD ["_law_pen_here", "_law_most"] []
  bA : Binds K fdA ["_law_pen_here", "_law_many"] []
  bT : Binds K fdT ["_law_pen_here", "_law_many"] []
  bO : Binds K fdO ["_law_pen_here", "_law_many"] []
  bR : Binds K fdR ["_law_many", "_law_some", "_law_due"] []
  bG : Binds K fdG ["many", "turns"] []
variable {PH PT C CT fP fD fA fT fO fR fG : Addr} {fdP fdD fdA fdT fdO fdR fdG : FuncData}
def spLaw (K : PySem.W.Frag) (PH PT : Addr) : Sp := fun vs H Q _ => ∃ (a : Addr) (ns : List Int), vs = [.ref a] ∧ Scr K H a ns ∧ ns.length ≤ 63 ∧ GxR.TabG H PH ∧ GxR.TabG H PT ∧ ∀ H', Q (.bl true) H'
theorem min4 {n : Nat} (h : 1 ≤ n) : ∃ m : Nat, (if (4 : Int) < (n : Int) then (4 : Int) else (n : Int)) = (m : Int) ∧ m ≤ n ∧ m ≤ 4 ∧ 1 ≤ m := by
  by_cases h4 : (4 : Int) < (n : Int)
  · rw [if_pos h4]
    exact ⟨4, rfl, by omega, by omega, by omega⟩
  · rw [if_neg h4]
    exact ⟨n, rfl, by omega, by omega, by omega⟩
theorem ok_law {f : Addr} {fd : FuncData} (F : Fun K "law" "law" sLaw f fd) (G : DefsL P w K mg base PH PT C CT fP fD fA fT fO fR fG fdP fdD fdA fdT fdO fdR fdG) (mz : ∀ x ∈ bn, mg x = none) : PFn noRepr P w K mg base CX0 7 f fd ["_law_script"] (spLaw K PH PT) := by
  refine pfn_of F scLaw (fun vs H Q E h => ?_) (fun cdv A outer s H vs Q E hcd hgd hr h => ?_)
  · obtain ⟨a, ns, rfl, _⟩ := h
    rfl
  · obtain ⟨a, ns, rfl, hS, hlen, tgH, tgT, q⟩ := h
    have hg : noRepr (A.deeper (envOfC "law" (defScope sLaw) s.heap.objs.size f cdv)) := hgd
    have mr := mz "range" (by decide)
    have ml := mz "len" (by decide)
    have mt := mz "tuple" (by decide)
    have mm := mz "min" (by decide)
    have mli := mz "list" (by decide)
    refine ⟨_, pss_cons (ps_set (i := 1) scLaw.nd rfl (.inl rfl) (pe_call G.GP hr (by rfl) G.gP G.kP G.bP .nil pass0 (pa_cons (pv 0) pa_nil)))
      (pss_cons (ps_for PassesOwn.never rfl (pi_range1 (by rfl) mr (pa_cons pe_int pa_nil)) (pg_name (i := 2) scLaw.nd rfl (.inl rfl))
        (pss_cons (ps_set (i := 3) scLaw.nd rfl (.inl rfl) (pe_op op_add pe_int (pe_call G.GD hr (by rfl) G.gD G.kD G.bD .nil pass0 (pa_cons (pv 1) (pa_cons pe_int pa_nil)))))
        (pss_cons (ps_set (i := 4) scLaw.nd rfl (.inl rfl) (pe_call G.GT hr (by rfl) G.gT G.kT G.bT .nil pass0 (pa_cons (pv 1) (pa_cons (pv 3) pa_nil))))
        (pss_cons (ps_set (i := 5) scLaw.nd rfl (.inl rfl) (pe_call G.GD hr (by rfl) G.gD G.kD G.bD .nil pass0 (pa_cons (pv 1) (pa_cons (pe_op op_add (pe_callB call_len_seq (by rfl) ml PySem.boot_len (pa_cons (pv 4) pa_nil)) pe_int) pa_nil))))
        (pss_cons (ps_set (i := 6) (te := tIns K 4 5) scLaw.nd rfl (.inl rfl) (pe_op op_catN (pe_op op_catN (pe_slice sl_list (pv 4) po_none (po_some (pv 5))) (pe_lst (pa_cons (pe_call G.GO hr (by rfl) G.gO G.kO G.bO .nil pass0 (pa_cons (pv 1) (pa_cons (pv 3) pa_nil))) pa_nil))) (pe_slice sl_list (pv 4) (po_some (pv 5)) po_none)))
        (pss_cons (ps_if (pt_not (pt_val (pe_callP G.GR hg hr (by rfl) G.gR G.kR G.bR pass0 (pa_cons (pv 3) (pa_cons (pe_callTy call_listN (by rfl) mli (by decide +kernel) (pa_cons (pv 6) pa_nil)) (pa_cons (pv 5) pa_nil)))))) (pss_one (ps_ret pe_bl)) pss_nil)
        (pss_cons (ps_set (i := 7) scLaw.nd rfl (.inl rfl) (pe_op op_add (pe_op op_add (pv 5) pe_int) (pe_call G.GD hr (by rfl) G.gD G.kD G.bD .nil pass0 (pa_cons (pv 1) (pa_cons (pe_op op_sub (pe_callB call_len_seq (by rfl) ml PySem.boot_len (pa_cons (pv 6) pa_nil)) (pv 5)) pa_nil)))))
        (pss_cons (ps_if (pt_not (pt_val (pe_callP (t := tCons (tVar 3) (tCons (tIns K 6 7) (tCons (tVar 5) tNil))) G.GR hg hr (by rfl) G.gR G.kR G.bR pass0 (pa_cons (pv 3) (pa_cons (pe_op op_catN (pe_op op_catN (pe_slice sl_list (pv 6) po_none (po_some (pv 7))) (pe_lst (pa_cons (pe_call G.GO hr (by rfl) G.gO G.kO G.bO .nil pass0 (pa_cons (pv 1) (pa_cons (pv 3) pa_nil))) pa_nil))) (pe_slice sl_list (pv 6) (po_some (pv 7)) po_none)) (pa_cons (pv 5) pa_nil)))))) (pss_one (ps_ret pe_bl)) pss_nil)
        (pss_cons (ps_set (i := 8) scLaw.nd rfl (.inl rfl) (pe_ix ix_list (pe_lst (pa_cons pe_int (pa_cons pe_int (pa_cons (pe_un un_neg pe_int) (pa_cons (pe_un un_neg pe_int) (pa_cons (pe_op op_pow pe_int pe_int) (pa_cons (pe_un un_neg (pe_op op_pow pe_int pe_int)) pa_nil))))))) (pe_call G.GD hr (by rfl) G.gD G.kD G.bD .nil pass0 (pa_cons (pv 1) (pa_cons pe_int pa_nil))) (fun _ _ => rfl)))
        (pss_cons (ps_for PassesOwn.never rfl (pi_list (pe_lst (pa_cons (pe_lstN pa_nil) (pa_cons (pe_callTy call_listN (by rfl) mli (by decide +kernel) (pa_cons (pv 4) pa_nil)) (pa_cons (pe_callTy call_listN (by rfl) mli (by decide +kernel) (pa_cons (pv 6) pa_nil)) pa_nil))))) (pg_name (i := 9) scLaw.nd rfl (.inl rfl))
          (pss_one (ps_if (pt_not (pt_val (pe_callP G.GR hg hr (by rfl) G.gR G.kR G.bR pass0 (pa_cons (pv 8) (pa_cons (pv 9) (pa_cons (pe_un un_neg pe_int) pa_nil)))))) (pss_one (ps_ret pe_bl)) pss_nil)))
        (pss_one (ps_if (pt_not (pt_val (pe_callB call_isi (by rfl) (mz "isinstance" (by decide)) boot_isinstance (pa_cons (pe_callP G.GG hg hr (by rfl) G.gG G.kG G.bG passX (pa_cons (pv 3) (pa_cons (pe_lst (pa_cons (pe_op op_catF (pe_call G.GA hr (by rfl) G.gA G.kA G.bA .nil pass0 (pa_cons (pv 1) (pa_cons (pe_callB (call_min2 rfl) (by rfl) mm (by decide +kernel) (pa_cons (pv 3) (pa_cons pe_int pa_nil))) pa_nil)))
          (pe_tupRgF rfl (by rfl) mt (prg_2 (by rfl) mr (pe_callB (call_min2 rfl) (by rfl) mm (by decide +kernel) (pa_cons (pv 3) (pa_cons pe_int pa_nil))) (pv 3)))) pa_nil)) pa_nil))) (pa_cons (pe_bltn (v := .ty "tuple") (by rfl) mt (by decide +kernel) rfl) pa_nil))))) (pss_one (ps_ret pe_bl)) pss_nil))))))))))))
      (pss_one (ps_ret pe_bl))), ?_⟩
    refine ⟨_, rfl, a, rfl, fun p np => ?_⟩
    have k1 : ∀ b o, H b = some o → upd H p (.dK (pk a 0 0)) b = some o := fun b o e => by rw [upd_ne (ne_of_none e np)]; exact e
    have hp1 : isPen K (upd H p (.dK (pk a 0 0))) p 0 := ⟨a, ns, 0, upd_same, hS.up fun b ob u e => k1 _ _ e, hlen, by decide, by decide⟩
    refine ⟨8, rfl, by decide, by decide, ?_⟩
    refine for_range (n := 8) (fun i σ J => ∃ (t : Int) (y2 y3 y4 y5 y6 y7 y8 y9 : Option V), σ = [some (.ref a), some (.ref p), y2, y3, y4, y5, y6, y7, y8, y9] ∧ isPen K J p t ∧ t ≤ 1000 * i ∧ GxR.TabG J PH ∧ GxR.TabG J PT) ⟨0, _, _, _, _, _, _, _, _, rfl, hp1, by omega, tab_lay tgH np, tab_lay tgT np⟩ (fun i σ J hi hW => ?_) (fun σ J hW => q J)
    obtain ⟨t, y2, y3, y4, y5, y6, y7, y8, y9, rfl, hp, ht, tgH0, tgT0⟩ := hW
    refine ⟨_, rfl, p, 7, t, rfl, hp, by decide, by decide, by omega, fun r t1 J1 r0 r1 h1 h2 hp1 hb1 => ?_⟩
    have tgH1 := tab_kept tgH0 hp hb1.kept
    have tgT1 := tab_kept tgT0 hp hb1.kept
    obtain ⟨n, hn⟩ : ∃ n : Nat, (1 + r) = (n : Int) := ⟨(1 + r).toNat, by omega⟩
    have hn1 : 1 ≤ n := by omega
    have hn7 : n ≤ 7 := by omega
    refine add_rd hn ?_
    refine ⟨_, rfl, _, rfl, p, n, t1, rfl, hp1, by omega, by omega, by omega, fun S gs t2 J2 eS hTF hgs hgl h3 h4 hp2 k2 => ?_⟩
    have tgH2 := tab_kept tgH1 hp1 k2
    have tgT2 := tab_kept tgT1 hp1 k2
    obtain ⟨th, hgood⟩ := thgs_T (K := K) hn1 hn7 hTF hgs
    obtain ⟨D, eD⟩ : ∃ D : List PyData, D = gs.map fun g => dTu g.2 := ⟨_, rfl⟩
    obtain ⟨xs, exs⟩ : ∃ xs : List V, xs = refsOf gs := ⟨_, rfl⟩
    rw [← eD, ← exs] at th
    rw [← eD] at hgood
    rw [← exs] at eS
    have hxl : xs.length ≤ 2 := by rw [exs, List.length_map]; exact hgl
    have hDl : D.length = xs.length := th.length.symm
    refine ⟨.ref p, rfl, .ref S, rfl, S, xs, rfl, .inl (.inl (.inl eS)), _, _, rfl, rfl, p, _, t2, rfl, hp2, by omega, by omega, by omega, fun r2 t3 J3 q0 q1 h5 h6 hp3 hb3 => ?_⟩
    have tgH3 := tab_kept tgH2 hp2 hb3.kept
    have tgT3 := tab_kept tgT2 hp2 hb3.kept
    obtain ⟨fi, rfl⟩ : ∃ fi : Nat, r2 = (fi : Int) := ⟨r2.toNat, by omega⟩
    have hfi : fi ≤ xs.length := by omega
    have eS3 : J3 S = some (.lst xs) := lst_p hp2.noPen hb3.kept.upP eS
    have th3 := thgs_p hp2 hp3 hb3.kept th
    refine ins_rd (n := n) (f := fi) rfl rfl rfl rfl eS3 hp3 hn1 hn7 (by omega) (by omega) fun Sp x t4 J4 eSp nSp hOd h7 h8 hp4 k4 => ?_
    have tgH4 := tab_kept tgH3 hp3 k4
    have tgT4 := tab_kept tgT3 hp3 k4
    have th4 := thgs_p hp3 hp4 k4 th3
    have eS4 : J4 S = some (.lst xs) := lst_p hp3.noPen k4.upP eS3
    obtain ⟨d, hd, hdb⟩ := hOd.thg
    obtain ⟨ds1, eds1⟩ : ∃ ds1 : List PyData, ds1 = D.take fi ++ [d] ++ D.drop fi := ⟨_, rfl⟩
    obtain ⟨xs1, exs1⟩ : ∃ xs1 : List V, xs1 = xs.take fi ++ [x] ++ xs.drop fi := ⟨_, rfl⟩
    have th5 : Paired (Thg K J4) xs1 ds1 := by rw [eds1, exs1]; exact paired_app (paired_app (paired_take fi th4) (.cons hd .nil)) (paired_drop fi th4)
    rw [← exs1] at eSp
    have hx1l : xs1.length = xs.length + 1 := by
      rw [exs1, List.length_append, List.length_append, List.length_take, List.length_drop]
      show min fi xs.length + 1 + (xs.length - fi) = xs.length + 1
      omega
    have hDt : (D.take fi).length = fi := by rw [List.length_take]; omega
    have eds1' : ds1 = D.take fi ++ d :: D.drop fi := by rw [eds1, List.append_assoc]; rfl
    have hpre : ∀ e ∈ D.take fi, goodD (n : Int) e = true := fun e he => hgood e (List.mem_of_mem_take he)
    have hfb : ∀ post, firstBad (n : Int) 0 (D.take fi ++ d :: post) = some fi := fun post => by
      have := fb_at (n := (n : Int)) (post := post) (k := 0) hdb hpre
      rw [hDt, Nat.zero_add] at this
      exact this
    have hsm : smI (fi : Int) = true := decide_eq_true (Nat.le_trans (show (fi : Int).natAbs ≤ 10 by omega) (by decide))
    -- refused, one thing being no turn
    refine ⟨_, rfl, .ref Sp, rfl, Sp, xs1, rfl, .inl (.inl (.inl eSp)), fun L1 nL1 nL1s => ⟨_, rfl, n, fi, L1, xs1, ds1, rfl, lrf_of (thgs_up (.of_same (same_lay nL1)) th5) upd_same nL1s (by omega), tab_lay tgH4 nL1, tab_lay tgT4 nL1, hsm, .inr ⟨by omega, by omega, fi, by rw [eds1']; exact hfb _, rfl⟩, fun J5 u5 => ⟨true, rfl, iteF ?_⟩⟩⟩
    have u45 : UpN J4 J5 := (UpN.of_same (same_lay nL1)).trans u5.u
    have hp5 := hp4.upN u45
    have th6 := thgs_up u45 th5
    have eSp5 : J5 Sp = some (.lst xs1) := u45 _ _ eSp fun q z => by cases z
    have eS5 : J5 S = some (.lst xs) := u45 _ _ eS4 fun q z => by cases z
    have th4' := thgs_up u45 th4
    -- a second one
    refine ⟨_, rfl, _, _, rfl, rfl, .ref p, rfl, .ref Sp, rfl, Sp, xs1, rfl, .inl (.inl (.inl eSp5)), .int fi, rfl, _, _, rfl, rfl, p, _, t4, rfl, hp5, by omega, by omega, by omega, fun r3 t5 J6 z0 z1 h9 h10 hp6 hb6 => ?_⟩
    have tgH6 := tab_kept u5.h hp5 hb6.kept
    have tgT6 := tab_kept u5.t hp5 hb6.kept
    obtain ⟨j, rfl⟩ : ∃ j : Nat, r3 = (j : Int) := ⟨r3.toNat, by omega⟩
    refine add_rd (n := ((fi + 1 + j : Nat) : Int)) (by omega) ?_
    have eSp6 : J6 Sp = some (.lst xs1) := lst_p hp5.noPen hb6.kept.upP eSp5
    have eS6 : J6 S = some (.lst xs) := lst_p hp5.noPen hb6.kept.upP eS5
    have th7 := thgs_p hp5 hp6 hb6.kept th6
    have th7' := thgs_p hp5 hp6 hb6.kept th4'
    refine ⟨_, rfl, ins_rd (n := n) (f := fi + 1 + j) rfl rfl rfl rfl eSp6 hp6 hn1 hn7 (by omega) (by omega) fun R x2 t6 J7 eR nR hOd2 h11 h12 hp7 k7 => ?_⟩
    have tgH7 := tab_kept tgH6 hp6 k7
    have tgT7 := tab_kept tgT6 hp6 k7
    have th8 := thgs_p hp6 hp7 k7 th7
    have th8' := thgs_p hp6 hp7 k7 th7'
    obtain ⟨d2, hd2, _⟩ := hOd2.thg
    have hfb2 : firstBad (n : Int) 0 (ds1.take (fi + 1 + j) ++ [d2] ++ ds1.drop (fi + 1 + j)) = some fi := by
      have e1 : ds1.take (fi + 1 + j) = D.take fi ++ d :: (D.drop fi).take j := by
        have := take_past (A := D.take fi) (B := D.drop fi) (d := d) j
        rw [hDt, ← eds1'] at this
        exact this
      rw [e1, List.append_assoc, List.append_assoc]
      exact hfb _
    refine ⟨_, rfl, n, fi, R, _, _, rfl, lrf_of (paired_app (paired_app (paired_take (fi + 1 + j) th8) (.cons hd2 .nil)) (paired_drop (fi + 1 + j) th8)) eR nR ?_, tgH7, tgT7, hsm, .inr ⟨by omega, by omega, fi, hfb2, rfl⟩, fun J8 u8 => ⟨true, rfl, iteF ?_⟩⟩
    · rw [List.length_append, List.length_append, List.length_take, List.length_drop]
      show min (fi + 1 + j) xs1.length + 1 + (xs1.length - (fi + 1 + j)) ≤ 10
      omega
    have hp8 := hp7.upN u8.u
    have eSp8 : J8 Sp = some (.lst xs1) := u8.u _ _ (lst_p hp6.noPen k7.upP eSp6) fun q z => by cases z
    have eS8 : J8 S = some (.lst xs) := u8.u _ _ (lst_p hp6.noPen k7.upP eS6) fun q z => by cases z
    have th9 := thgs_up u8.u th8
    have th9' := thgs_up u8.u th8'
    -- other numbers of things
    refine ⟨1, rfl, 7, rfl, 10, 29, rfl, rfl, ⟨by decide, by decide, by decide⟩, 10, 29, rfl, rfl, ⟨by decide, by decide, by decide⟩, _, rfl, by show 6 ≤ sizeLine; decide, fun B1 nB1 => ?_⟩
    obtain ⟨m6, em6⟩ : ∃ m6 : List V, m6 = [.int 0, .int 8, .int (-1), .int (-7), .int (10 ^ (29 : Int).toNat), .int (-(10 ^ (29 : Int).toNat))] := ⟨_, rfl⟩
    rw [← em6]
    have hm6 : ∀ v ∈ m6, ∃ z : Int, v = V.int z ∧ ¬ (1 ≤ z ∧ z ≤ 7) := fun v hv => by
      have e10 : ((10 : Int) ^ (29 : Int).toNat) = 100000000000000000000000000000 := by decide
      rw [em6, e10] at hv
      simp only [List.mem_cons, List.not_mem_nil, or_false] at hv
      rcases hv with rfl | rfl | rfl | rfl | rfl | rfl <;> exact ⟨_, rfl, by omega⟩
    have hml : m6.length = 6 := by rw [em6]; rfl
    have sB : Same J8 (upd J8 B1 (.lst m6)) := same_lay nB1
    have hp8' := hp8.lay (o := .lst m6) nB1
    refine ⟨.ref p, rfl, p, 6, t6, rfl, hp8', by decide, by decide, by omega, fun r4 t7 J9 w0 w1 h13 h14 hp9 hb9 => ?_⟩
    obtain ⟨v, hv, hav⟩ := atI_get (xs := m6) (i := r4) w0 (by rw [hml]; exact w1)
    obtain ⟨z, rfl, hz⟩ := hm6 v (List.mem_of_getElem? hv)
    refine ⟨B1, m6, r4, .int z, rfl, rfl, .inl (.inl (lst_p hp8'.noPen hb9.kept.upP upd_same)), hav, ?_⟩
    have tgH9 := tab_kept (tab_lay (o := .lst m6) u8.h nB1) hp8' hb9.kept
    have tgT9 := tab_kept (tab_lay (o := .lst m6) u8.t nB1) hp8' hb9.kept
    have eSp9 : J9 Sp = some (.lst xs1) := lst_p hp8'.noPen hb9.kept.upP (sB _ _ eSp8)
    have eS9 : J9 S = some (.lst xs) := lst_p hp8'.noPen hb9.kept.upP (sB _ _ eS8)
    have th10 := thgs_p hp8' hp9 hb9.kept (thgs_up (.of_same sB) th9)
    have th10' := thgs_p hp8' hp9 hb9.kept (thgs_up (.of_same sB) th9')
    refine ⟨Nat.zero_le _, fun L2 nL2 nL2s => ⟨.ref S, rfl, S, xs, rfl, .inl (.inl (.inl (same_lay nL2 _ _ eS9))), fun L3 nL3 nL3s => ⟨.ref Sp, rfl, Sp, xs1, rfl, .inl (.inl (.inl (same_lay nL3 _ _ (same_lay nL2 _ _ eSp9)))), fun L4 nL4 nL4s => ⟨by show 3 ≤ sizeLine; decide, fun B nB => ?_⟩⟩⟩⟩
    obtain ⟨G1, eG1⟩ : ∃ G1, G1 = upd J9 L2 (.lst []) := ⟨_, rfl⟩
    rw [← eG1] at nL3 nL4 nB ⊢
    obtain ⟨G2, eG2⟩ : ∃ G2, G2 = upd G1 L3 (.lst xs) := ⟨_, rfl⟩
    rw [← eG2] at nL4 nB ⊢
    obtain ⟨G3, eG3⟩ : ∃ G3, G3 = upd G2 L4 (.lst xs1) := ⟨_, rfl⟩
    rw [← eG3] at nB ⊢
    obtain ⟨l3, el3⟩ : ∃ l3 : List V, l3 = [.ref L2, .ref L3, .ref L4] := ⟨_, rfl⟩
    rw [← el3]
    obtain ⟨G4, eG4⟩ : ∃ G4, G4 = upd G3 B (.lst l3) := ⟨_, rfl⟩
    rw [← eG4]
    have g1 : Same J9 G1 := by rw [eG1]; exact same_lay nL2
    have g2 : Same G1 G2 := by rw [eG2]; exact same_lay nL3
    have g3 : Same G2 G3 := by rw [eG3]; exact same_lay nL4
    have g4 : Same G3 G4 := by rw [eG4]; exact same_lay nB
    have g04 : Same J9 G4 := ((g1.trans g2).trans g3).trans g4
    have eB : G4 B = some (.lst l3) := by rw [eG4]; exact upd_same
    have hl3 : ∀ x ∈ l3, ∃ (T : Addr) (ys : List V) (es : List PyData), x = .ref T ∧ LRf K G4 T ys es := fun x hx => by
      rw [el3] at hx
      simp only [List.mem_cons, List.not_mem_nil, or_false] at hx
      rcases hx with rfl | rfl | rfl
      · exact ⟨L2, [], [], rfl, lrf_of .nil (((g2.trans g3).trans g4) _ _ (by rw [eG1]; exact upd_same)) nL2s (Nat.zero_le _)⟩
      · exact ⟨L3, xs, D, rfl, lrf_of (thgs_up (.of_same g04) th10') ((g3.trans g4) _ _ (by rw [eG2]; exact upd_same)) nL3s (by omega)⟩
      · exact ⟨L4, xs1, ds1, rfl, lrf_of (thgs_up (.of_same g04) th10) (g4 _ _ (by rw [eG3]; exact upd_same)) nL4s (by omega)⟩
    refine ⟨B, rfl, ⟨l3, .inl (.inl eB)⟩, for_list (xs := l3) (fun _ σ J => ∃ y9, Up2 PH PT G4 J ∧ σ = [some (.ref a), some (.ref p), some (.int (0 + (i : Nat))), some (.int (n : Int)), some (.ref S), some (.int (fi : Int)), some (.ref Sp), some (.int ((fi + 1 + j : Nat) : Int)), some (.int z), y9]) ⟨y9, ⟨UpN.refl _, tab_same tgH9 g04, tab_same tgT9 g04⟩, rfl⟩ (fun j2 σ J _ hP => ?_) (fun j2 x σ J hx hP => ?_) (fun σ J hP => ?_)⟩
    · obtain ⟨_, u, _⟩ := hP
      exact .inl (.inl (u.u _ _ eB fun q z => by cases z))
    · obtain ⟨y9, u, rfl⟩ := hP
      obtain ⟨T, ys, es, rfl, hL⟩ := hl3 x (List.mem_of_getElem? hx)
      exact ⟨_, rfl, _, rfl, 1, rfl, z, -1, T, ys, es, rfl, hL.up u.u, u.h, u.t, by decide, .inl ⟨hz, rfl⟩, fun J' u' => ⟨true, rfl, iteF ⟨_, u.trans u', rfl⟩⟩⟩
    obtain ⟨y9, u, rfl⟩ := hP
    have hpx := (hp9.upN (.of_same g04)).upN u.u
    -- a group of few turns
    obtain ⟨m, hm, hmn, hm4, hm1⟩ := min4 hn1
    refine ⟨.int n, rfl, .ref p, rfl, .int n, rfl, n, 4, rfl, p, m, t7, by rw [hm]; rfl, hpx, by omega, by omega, fun aa zs t8 J12 hpm h15 h16 hp12 naa taa k12 => ?_⟩
    refine ⟨.int n, rfl, n, 4, rfl, .int n, rfl, _, _, rfl, rfl, by rw [hm]; exact RgOk.of_le (by omega) (by omega) (by omega) (by omega), new_rd fun a2 G5 g5 _ _ ta2 => ?_⟩
    rw [hm, rgV_add m (n - m) n (by omega)] at ta2
    have lw : Low n m (zs ++ (iota (n - m)).map (· + (m : Int))) := low_of hpm hmn
    obtain ⟨gg, egg⟩ : ∃ gg, gg = zs ++ (iota (n - m)).map (· + (m : Int)) := ⟨_, rfl⟩
    rw [← egg] at lw
    refine cat_rd (taa.up (.of_same g5)) ta2 ?_ fun a3 G6 g6 ta3 => ⟨by show 1 ≤ sizeLine; decide, fun LL nLL => ?_⟩
    · have := (isT_perm hpm).len
      rw [List.length_map, List.length_map, List.length_map, iota_len]
      omega
    have ta3' : TF G6 a3 (gg.map V.int) := by rw [egg, List.map_append]; exact ta3
    have sLL : Same G6 (upd G6 LL (.lst [.ref a3])) := same_lay nLL
    have ta4 := ta3'.up (.of_same sLL)
    have tgH12 := tab_same (tab_same (tab_same (tab_kept u.h hpx k12) g5) g6) sLL
    have tgT12 := tab_same (tab_same (tab_same (tab_kept u.t hpx k12) g5) g6) sLL
    have hfb0 : firstBad (n : Int) 0 [dTu gg] = none := by
      show (if goodD n (dTu gg) = true then firstBad n 1 [] else some 0) = none
      rw [if_pos (good_T lw.t hn1 hn7)]
      rfl
    refine ⟨n, LL, [.ref a3], [dTu gg], rfl, .inl (.inl upd_same), .cons (itm_T ta4 (by rw [lw.t.len]; omega)) .nil, by show 1 < 64; decide, tgH12, tgT12, fun h => absurd ⟨by omega, by omega⟩ h, fun _ _ => ⟨fun i2 hi2 => (by rw [hfb0] at hi2; cases hi2), fun _ gs' egs hTF' hgs' => ?_⟩⟩
    have egs2 : gs'.map (·.2) = [gg] := by
      match gs', egs, hTF' with
      | [], egs, _ => cases egs
      | [g0], egs, hTF' =>
        have e1 : g0.1 = a3 := by
          have := egs
          simp only [refsOf, List.map_cons, List.map_nil, List.cons.injEq, V.ref.injEq, and_true] at this
          exact this.symm
        have h0 := hTF' g0 List.mem_cons_self
        rw [e1] at h0
        show [g0.2] = [gg]
        rw [tf_eq h0 ta4]
      | _ :: _ :: _, egs, _ => cases egs
    rw [egs2, Int.toNat_natCast]
    refine ⟨fun R2 F2 H' u' tR _ _ _ => ⟨_, _, _, _, _, rfl, .ty _, (VTy.tup tR.sq).tyx, kit_ty (r := true) (by decide +kernel), _, rfl, iteF ⟨t8, _, _, _, _, _, _, _, _, rfl, (((hp12.upN (.of_same g5)).upN (.of_same g6)).upN (.of_same sLL)).upN u'.u, by omega, u'.h, u'.t⟩⟩, fun hbig => absurd hbig (big_no lw hmn hm4)⟩
end
end K06
namespace K06
open PySem PySem.Spec PyProof.Rows L2 HM
theorem all_mk {l : PySem.W.OpenLaw} {w : World} {K : PySem.W.Frag} {h : Heap} {mg : Str → Option Value} {fa f14 f15 f16 f19 f20 f21 f22 f25 f26 f27 f29 f30 f31 f32 f33 f34 f35 f36 c16 Pt16 c22 Pt22 C Mk b1 b2 b3 b4 b5 b6 b7 s1 s2 s3 fI cda cc : Addr}
    {oc14 kV14 dc14 pm14 ct14 oc15 kV15 dc15 pm15 ct15 oc16 kV16 dc16 pm16 ct16 oc19 kV19 dc19 pm19 ct19 oc20 kV20 dc20 pm20 ct20 oc21 kV21 dc21 pm21 ct21 oc22 kV22 dc22 pm22 ct22 oc25 kV25 dc25 pm25 ct25 oc26 kV26 dc26 pm26 ct26 oc27 kV27 dc27 pm27 ct27 oc29 kV29 dc29 pm29 ct29 oc30 kV30 dc30 pm30 ct30 oc31 kV31 dc31 pm31 ct31 oc32 kV32 dc32 pm32 ct32 oc33 kV33 dc33 pm33 ct33 oc34 kV34 dc34 pm34 ct34 oc35 kV35 dc35 pm35 ct35 oc36 kV36 dc36 pm36 ct36 cd14 cd15 cd19 cd20 cd21 cd25 cd26 cd27 cd29 cd30 cd31 cd32 cd33 cd34 cd35 cd36 e16 e22 : Value}
    {od14 an14 od15 an15 od16 an16 od19 an19 od20 an20 od21 an21 od22 an22 od25 an25 od26 an26 od27 an27 od29 an29 od30 an30 od31 an31 od32 an32 od33 an33 od34 an34 od35 an35 od36 an36 dd16 dd22 : Option Addr} {sl14 sl15 sl16 sl19 sl20 sl21 sl22 sl25 sl26 sl27 sl29 sl30 sl31 sl32 sl33 sl34 sl35 sl36 sc16 sc22 : Array (Option Value)} {vs16 vs22 : Array Value} {tM : Tok} {tN : Tok}
    {nm q : Str} {N : Addr} {bs bm : List Value} {sn : List Str} {sub : List Value} {ab : Bool} {col : Option Bool} {dd : Option Addr} {k0 k1 k2 k3 k5 : Option Value} {oc : Value} {od : Option Addr} {kV doc pm : Value} {an : Option Addr} {ct : Value} {osl : Array (Option Value)} {ccl : Value} {cdd : Option Addr} {vs : Array Value} {ccs : Array (Option Value)} {tf : Tok} {cl : Value} {cld : Option Addr} {csl : Array (Option Value)}
    (hf : ((l.prog.main.file : Str) == "/claim/cut.py") = true) (hsn : (l.prog.main.scope.names.lookup ("super" : Str)).isSome = false)
    (X : K.In h) (G : h.Ns mainGlobals mg) (hfa : mg "law" = some (.ref fa)) (tabs : ∀ g ∈ (["has_each_once", "then"] : List Str), ∃ c Pt, TabOf mg h g c Pt)
    (g_C : PySem.W.nsIn K mainGlobals "NoTurn" = some (some (.ref C)))
    (g_Mk : PySem.W.nsIn K mainGlobals "MarkError" = some (some (.ref Mk)))
    (g_b1 : PySem.W.nsIn K mainGlobals "BelowNought" = some (some (.ref b1)))
    (g_b2 : PySem.W.nsIn K mainGlobals "NoBack" = some (some (.ref b2)))
    (g_b3 : PySem.W.nsIn K mainGlobals "NoColours" = some (some (.ref b3)))
    (g_b4 : PySem.W.nsIn K mainGlobals "NoLeading" = some (some (.ref b4)))
    (g_b5 : PySem.W.nsIn K mainGlobals "NoName" = some (some (.ref b5)))
    (g_b6 : PySem.W.nsIn K mainGlobals "NoNumber" = some (some (.ref b6)))
    (g_b7 : PySem.W.nsIn K mainGlobals "NoRow" = some (some (.ref b7)))
    (g_s1 : PySem.W.nsIn K mainGlobals "NoSet" = some (some (.ref s1)))
    (g_s2 : PySem.W.nsIn K mainGlobals "NoText" = some (some (.ref s2)))
    (g_s3 : PySem.W.nsIn K mainGlobals "TooMany" = some (some (.ref s3)))
    (X_C : ExAt K C Mk)
    (any7 : PySem.W.kitAny K (.ref C) [.ref b1, .ref b2, .ref b3, .ref b4, .ref b5, .ref b6, .ref b7] = some false)
    (any3 : PySem.W.kitAny K (.ref C) [.ref s1, .ref s2, .ref s3] = some false)
    (tm_q : PySem.W.excIn K s3 [.type "ValueError", .type "Exception", .type "BaseException", .type "object"] "ValueError.__new__" = true)
    (tm_k : PySem.W.keepIn K (.ref s3) = true)
    (tm_s : PySem.W.subIn K (.ref s3) (.type "BaseException") = some true)
    (tm_t : PySem.W.typeIn K (.ref s3) = some (.type "type"))
    (I : InitAt K sInit "NoTurn.__init__" C fI cda cc nm q N bs bm sn sub ab col dd k0 k1 k2 k3 k5 oc od kV doc pm an ct osl ccl cdd vs ccs tf cl cld csl)
    (D14 : DefAt K "is_whole" sWhole f14 oc14 od14 kV14 dc14 pm14 an14 cd14 ct14 sl14)
    (D15 : DefAt K "is_number" sNumber f15 oc15 od15 kV15 dc15 pm15 an15 cd15 ct15 sl15)
    (D16 : DefAt K "has_each_once" sHas f16 oc16 od16 kV16 dc16 pm16 an16 (.ref c16) ct16 sl16)
    (D19 : DefAt K "can_be_turned" sCan f19 oc19 od19 kV19 dc19 pm19 an19 cd19 ct19 sl19)
    (D20 : DefAt K "is_turn" sTurn f20 oc20 od20 kV20 dc20 pm20 an20 cd20 ct20 sl20)
    (D21 : DefAt K "stay_of" sStay f21 oc21 od21 kV21 dc21 pm21 an21 cd21 ct21 sl21)
    (D22 : DefAt K "then" sThen f22 oc22 od22 kV22 dc22 pm22 an22 (.ref c22) ct22 sl22)
    (D25 : DefAt K "check_turns" sChk f25 oc25 od25 kV25 dc25 pm25 an25 cd25 ct25 sl25)
    (D26 : DefAt K "turns_grown" sGrow f26 oc26 od26 kV26 dc26 pm26 an26 cd26 ct26 sl26)
    (D27 : DefAt K "group_of" sGof f27 oc27 od27 kV27 dc27 pm27 an27 cd27 ct27 sl27)
    (D29 : DefAt K "_law_pen" sPen f29 oc29 od29 kV29 dc29 pm29 an29 cd29 ct29 sl29)
    (D30 : DefAt K "_law_draw" sDraw f30 oc30 od30 kV30 dc30 pm30 an30 cd30 ct30 sl30)
    (D31 : DefAt K "_law_any_turn" sAny f31 oc31 od31 kV31 dc31 pm31 an31 cd31 ct31 sl31)
    (D32 : DefAt K "_law_same" sSame f32 oc32 od32 kV32 dc32 pm32 an32 cd32 ct32 sl32)
    (D33 : DefAt K "_law_odd" sOdd f33 oc33 od33 kV33 dc33 pm33 an33 cd33 ct33 sl33)
    (D34 : DefAt K "_law_turns" sTns f34 oc34 od34 kV34 dc34 pm34 an34 cd34 ct34 sl34)
    (D35 : DefAt K "_law_refused" sRef f35 oc35 od35 kV35 dc35 pm35 an35 cd35 ct35 sl35)
    (D36 : DefAt K "law" sLaw f36 oc36 od36 kV36 dc36 pm36 an36 cd36 ct36 sl36)
    (T16 : TbAt K c16 Pt16 e16 dd16 vs16 sc16)
    (T22 : TbAt K c22 Pt22 e22 dd22 vs22 sc22)
    (gg0 : PySem.W.nsIn K mainGlobals "MOST_THINGS" = some (some (.int 7 tM)))
    (gg1 : PySem.W.nsIn K mainGlobals "MOST_TURNS" = some (some (.int 60 tN)))
    (mz : ∀ x ∈ bn, PySem.W.nsIn K mainGlobals x = some none) :
    ∃ (fd : FuncData) (cs : List (Addr × Addr)) (sp : Sp), (∀ p ∈ cs, h.get? p.2 = some tabObj) ∧ (∀ p ∈ cs, K.lookup p.2 = none) ∧ (∀ p ∈ cs, PySem.W.CodeHd h p.1 p.2) ∧ (∀ (s : Shared) (u : Value), BindsTo s fd ⟨[u], []⟩ [("_law_script", u)]) ∧
      (∀ (H : Hp) (a : Addr) (ns : List Int), ns.length ≤ 63 → (∀ z ∈ ns, Builtin.Int.intBits z ≤ 1048576) → (∀ p ∈ cs, H p.2 = some (.tbl #[])) → Scr K H a ns → sp [.ref a] H (fun v _ => v = .bl true) fun _ _ _ => False) ∧
      ∀ base : Heap, K.In base → base.Ns mainGlobals mg → (∀ p ∈ cs, GxR.TabB base mg p.1 p.2) → PFn noRepr l.prog w K mg base CX0 7 fa fd ["_law_script"] sp := by
  have e := hfa.symm.trans (PySem.W.mg_of X G D36.a)
  cases e
  have tb16 := tab_got X G tabs (by decide) D16 T16
  have tb22 := tab_got X G tabs (by decide) D22 T22
  have mn : ∀ x ∈ bn, mg x = none := fun x hx => PySem.W.mg_none_of X G (mz x hx)
  have g := fun {x : Str} {u : Value} (z : PySem.W.nsIn K mainGlobals x = some (some u)) => PySem.W.mg_of X G z
  have NN : NoT l.prog sInit "NoTurn.__init__" K C fI := I.noT X_C hf hsn
  have b14 := D14.fn.binds (ps := ["thing"]) fun _ _ _ _ _ _ us hl => match us, hl with | [_], _ => rfl
  have b15 := D15.fn.binds (ps := ["thing", "many"]) fun _ _ _ _ _ _ us hl => match us, hl with | [_, _], _ => rfl
  have b16 := D16.fn.binds (ps := ["things", "many"]) fun _ _ _ _ _ _ us hl => match us, hl with | [_, _], _ => rfl
  have b19 := D19.fn.binds (ps := ["many"]) fun _ _ _ _ _ _ us hl => match us, hl with | [_], _ => rfl
  have b20 := D20.fn.binds (ps := ["thing"]) fun _ _ _ _ _ _ us hl => match us, hl with | [_], _ => rfl
  have b21 := D21.fn.binds (ps := ["many"]) fun _ _ _ _ _ _ us hl => match us, hl with | [_], _ => rfl
  have b22 := D22.fn.binds (ps := ["one", "other"]) fun _ _ _ _ _ _ us hl => match us, hl with | [_, _], _ => rfl
  have b25 := D25.fn.binds (ps := ["many", "turns"]) fun _ _ _ _ _ _ us hl => match us, hl with | [_, _], _ => rfl
  have b26 := D26.fn.binds (ps := ["many", "turns"]) fun _ _ _ _ _ _ us hl => match us, hl with | [_, _], _ => rfl
  have b27 := D27.fn.binds (ps := ["many", "turns"]) fun _ _ _ _ _ _ us hl => match us, hl with | [_, _], _ => rfl
  have b29 := D29.fn.binds (ps := ["_law_script"]) fun _ _ _ _ _ _ us hl => match us, hl with | [_], _ => rfl
  have b30 := D30.fn.binds (ps := ["_law_pen_here", "_law_most"]) fun _ _ _ _ _ _ us hl => match us, hl with | [_, _], _ => rfl
  have b31 := D31.fn.binds (ps := ["_law_pen_here", "_law_many"]) fun _ _ _ _ _ _ us hl => match us, hl with | [_, _], _ => rfl
  have b32 := D32.fn.binds (ps := ["_law_found", "_law_due"]) fun _ _ _ _ _ _ us hl => match us, hl with | [_, _], _ => rfl
  have b33 := D33.fn.binds (ps := ["_law_pen_here", "_law_many"]) fun _ _ _ _ _ _ us hl => match us, hl with | [_, _], _ => rfl
  have b34 := D34.fn.binds (ps := ["_law_pen_here", "_law_many"]) fun _ _ _ _ _ _ us hl => match us, hl with | [_, _], _ => rfl
  have b35 := D35.fn.binds (ps := ["_law_many", "_law_some", "_law_due"]) fun _ _ _ _ _ _ us hl => match us, hl with | [_, _, _], _ => rfl
  refine ⟨PySem.W.fnOf "law" "law" (defArgs sLaw) (defBody sLaw) (defScope sLaw) .none kV36 dc36 pm36 an36 cd36 ct36, [(c16, Pt16), (c22, Pt22)], spLaw K Pt16 Pt22, fun p hp => ?_, fun p hp => ?_, fun p hp => ?_, fun s u => .of_eq rfl, fun H a ns hl _ hH hS => ?_, fun base _ _ hB => ?_⟩
  · simp only [List.mem_cons, List.not_mem_nil, or_false] at hp
    rcases hp with rfl | rfl
    · exact tb16.1
    · exact tb22.1
  · simp only [List.mem_cons, List.not_mem_nil, or_false] at hp
    rcases hp with rfl | rfl
    · exact T16.n
    · exact T22.n
  · simp only [List.mem_cons, List.not_mem_nil, or_false] at hp
    rcases hp with rfl | rfl
    · exact tb16.2
    · exact tb22.2
  · exact ⟨a, ns, rfl, hS, hl, ⟨#[], hH (c16, Pt16) (by simp), trivial⟩, ⟨#[], hH (c22, Pt22) (by simp), trivial⟩, fun _ => rfl⟩
  · have TB16 := hB (c16, Pt16) (by simp)
    have TB22 := hB (c22, Pt22) (by simp)
    have RR : Refs K mg C Mk b1 b2 b3 b4 b5 b6 b7 s1 s2 s3 := ⟨g g_C, g g_Mk, g g_b1, g g_b2, g g_b3, g g_b4, g g_b5, g g_b6, g g_b7, g g_s1, g g_s2, g g_s3, X_C.te, X_C.kC, X_C.kV, any7, any3, X_C.X, X_C.F⟩
    have TM : TmOk K mg s3 := ⟨tm_q, g g_s3, tm_k, tm_s, tm_t⟩
    have GD : ∀ {k : Nat}, FnOk l.prog w K mg base CX0 (k + 1) f30 _ ["_law_pen_here", "_law_most"] (spDraw K) := fun {k} => ok_draw (k := k) D30.fn mn
    have GA : ∀ {k : Nat}, FnOk l.prog w K mg base CX0 (k + 2) f31 _ ["_law_pen_here", "_law_many"] (spAny K) := fun {k} => ok_any (k := k) D31.fn D30.fn b30 (g D30.a) mn
    have GG : ∀ {k : Nat}, PFn noRepr l.prog w K mg base (L2.CX l.prog w) (k + 5) f27 _ ["many", "turns"] (spGof K Pt16 Pt22 C s3) := fun {k} => ok_gof (k := k) D27.fn (ok_can (k := k + 2) D19.fn D14.fn b14 (g D14.a) (g gg0) mn)
      (ok_chk (k := k + 1) D25.fn (ok_turn (k := k) D20.fn D16.fn D15.fn D14.fn D19.fn b16 b14 b19 (g D16.a) (g D15.a) (g D14.a) (g D19.a) (g gg0) mn rfl TB16) (g D20.a) D20.k b20 NN (g g_C) mn)
      (ok_grow (k := k) (C := C) D26.fn (ok_stay (k := k + 2) D21.fn mn) (ok_then (k := k) D22.fn NN (g g_C) mn rfl TB22) (g D21.a) (g D22.a) D21.k D22.k b21 b22 (g gg1) TM mn) (g D19.a) (g D25.a) (g D26.a) D19.k D25.k D26.k b19 b25 b26 NN (g g_C) mn
    have GR : PFn noRepr l.prog w K mg base CX0 6 f35 _ ["_law_many", "_law_some", "_law_due"] (spRef K Pt16 Pt22) := ok_ref (k := 0) D35.fn {
      GG := GG (k := 0)
      GS := ok_same (k := 4) D32.fn mn
      gG := g D27.a
      gS := g D32.a
      kG := D27.k
      kS := D32.k
      bG := b27
      bS := b32
      N := NN
      R := RR } mn
    exact ok_law D36.fn {
      GP := ok_pen D29.fn
      GD := GD (k := 5)
      GA := GA (k := 4)
      GT := ok_tns (k := 3) D34.fn (GD (k := 4)) (GA (k := 3)) (g D30.a) (g D31.a) D30.k D31.k b30 b31 mn
      GO := ok_odd (k := 3) D33.fn (GD (k := 4)) (GA (k := 3)) (g D30.a) (g D31.a) D30.k D31.k b30 b31 mn
      GR := GR
      GG := GG (k := 1)
      gP := g D29.a
      gD := g D30.a
      gA := g D31.a
      gT := g D34.a
      gO := g D33.a
      gR := g D35.a
      gG := g D27.a
      kP := D29.k
      kD := D30.k
      kA := D31.k
      kT := D34.k
      kO := D33.k
      kR := D35.k
      kG := D27.k
      bP := b29
      bD := b30
      bA := b31
      bT := b34
      bO := b33
      bR := b35
      bG := b27 } mn
end K06
open PySem PySem.W PyProof.Rows
set_option maxHeartbeats 0 in
theorem PySem.Challenge.cw_heldmarks_k06_no_groups_holds : PySem.Challenge.rw_heldmarks_k06_no_groups.Holds := by
  w_on; o_law; k_head; (case hw => w_witness2)
  k_fill
  refine HM.walk_G (l := PySem.Challenge.rw_heldmarks_k06_no_groups) (n := 63) (k := 7) (x := "_law_script") ["has_each_once", "then"] rfl (by decide) rfl ⟨rfl, by decide, by decide⟩ (by decide +kernel) (fun w h Y => PySem.W.kIn_of Y) ?F
  case F =>
    intro w mg fa h Y KX G hmg tabs
    refine' K06.all_mk (by decide +kernel) (by decide +kernel) KX G hmg tabs ?g_C ?g_Mk ?g_b1 ?g_b2 ?g_b3 ?g_b4 ?g_b5 ?g_b6 ?g_b7 ?g_s1 ?g_s2 ?g_s3 ⟨?xC_te, ?xC_kC, ?xC_kV, ?xC_xg, ?xC_xk, ?xC_xs, ?xC_xd, ?xC_xa, ?xC_xn, ?xC_xt, ?xC_xm⟩ ?any7 ?any3 ?tm_q ?tm_k ?tm_s ?tm_t ⟨?i_c, ?i_bm, ?i_sa, ?i_veC, ?i_tyC, ?i_kC, ?i_iC, ?i_tI, ?i_lI, ?i_hcd, ?i_hco, ?i_hvs, ?i_hcc, ?i_su, ?i_tp, ?i_si, ?i_mr, ?i_no⟩ ⟨?a14, ?l14, ?c14, ?k14⟩ ⟨?a15, ?l15, ?c15, ?k15⟩ ⟨?a16, ?l16, ?c16, ?k16⟩ ⟨?a19, ?l19, ?c19, ?k19⟩ ⟨?a20, ?l20, ?c20, ?k20⟩ ⟨?a21, ?l21, ?c21, ?k21⟩ ⟨?a22, ?l22, ?c22, ?k22⟩ ⟨?a25, ?l25, ?c25, ?k25⟩ ⟨?a26, ?l26, ?c26, ?k26⟩ ⟨?a27, ?l27, ?c27, ?k27⟩ ⟨?a29, ?l29, ?c29, ?k29⟩ ⟨?a30, ?l30, ?c30, ?k30⟩ ⟨?a31, ?l31, ?c31, ?k31⟩ ⟨?a32, ?l32, ?c32, ?k32⟩ ⟨?a33, ?l33, ?c33, ?k33⟩ ⟨?a34, ?l34, ?c34, ?k34⟩ ⟨?a35, ?l35, ?c35, ?k35⟩ ⟨?a36, ?l36, ?c36, ?k36⟩ ⟨?tl16, ?tp16, ?tn16⟩ ⟨?tl22, ?tp22, ?tn22⟩ ?gg0 ?gg1 ?mz
    (case g_C => first | k_is | kernel_rfl)
    (case g_Mk => first | k_is | kernel_rfl)
    (case g_b1 => first | k_is | kernel_rfl)
    (case g_b2 => first | k_is | kernel_rfl)
    (case g_b3 => first | k_is | kernel_rfl)
    (case g_b4 => first | k_is | kernel_rfl)
    (case g_b5 => first | k_is | kernel_rfl)
    (case g_b6 => first | k_is | kernel_rfl)
    (case g_b7 => first | k_is | kernel_rfl)
    (case g_s1 => first | k_is | kernel_rfl)
    (case g_s2 => first | k_is | kernel_rfl)
    (case g_s3 => first | k_is | kernel_rfl)
    (case xC_te => first | k_is | kernel_rfl)
    (case xC_kC => first | k_is | kernel_rfl)
    (case xC_kV => first | k_is | kernel_rfl)
    (case xC_xg => first | k_is | kernel_rfl)
    (case xC_xk => first | k_is | kernel_rfl)
    (case xC_xs => first | k_is | kernel_rfl)
    (case xC_xd => first | k_is | kernel_rfl)
    (case xC_xa => first | k_is | kernel_rfl)
    (case xC_xn => first | k_is | kernel_rfl)
    (case xC_xt => first | k_is | kernel_rfl)
    (case xC_xm => first | k_is | kernel_rfl)
    (case any7 => first | k_is | kernel_rfl)
    (case any3 => first | k_is | kernel_rfl)
    (case tm_q => first | k_is | kernel_rfl)
    (case tm_k => first | k_is | kernel_rfl)
    (case tm_s => first | k_is | kernel_rfl)
    (case tm_t => first | k_is | kernel_rfl)
    (case i_c => k_is)
    (case i_bm => first | rfl | decide +kernel)
    (case i_sa => k_is)
    (case i_veC => k_is)
    (case i_tyC => k_is)
    (case i_kC => k_is)
    (case i_iC => k_is)
    (case i_tI => k_is)
    (case i_lI => k_is)
    (case i_hcd => k_is)
    (case i_hco => k_is)
    (case i_hvs => rfl)
    (case i_hcc => k_is)
    (case i_su => k_is)
    (case i_tp => k_is)
    (case i_si => kernel_rfl)
    (case i_mr => k_is)
    (case i_no => k_is)
    (case a14 => k_is); (case l14 => k_is); (case c14 => k_is); (case k14 => k_is)
    (case a15 => k_is); (case l15 => k_is); (case c15 => k_is); (case k15 => k_is)
    (case a16 => k_is); (case l16 => k_is); (case c16 => k_is); (case k16 => k_is)
    (case a19 => k_is); (case l19 => k_is); (case c19 => k_is); (case k19 => k_is)
    (case a20 => k_is); (case l20 => k_is); (case c20 => k_is); (case k20 => k_is)
    (case a21 => k_is); (case l21 => k_is); (case c21 => k_is); (case k21 => k_is)
    (case a22 => k_is); (case l22 => k_is); (case c22 => k_is); (case k22 => k_is)
    (case a25 => k_is); (case l25 => k_is); (case c25 => k_is); (case k25 => k_is)
    (case a26 => k_is); (case l26 => k_is); (case c26 => k_is); (case k26 => k_is)
    (case a27 => k_is); (case l27 => k_is); (case c27 => k_is); (case k27 => k_is)
    (case a29 => k_is); (case l29 => k_is); (case c29 => k_is); (case k29 => k_is)
    (case a30 => k_is); (case l30 => k_is); (case c30 => k_is); (case k30 => k_is)
    (case a31 => k_is); (case l31 => k_is); (case c31 => k_is); (case k31 => k_is)
    (case a32 => k_is); (case l32 => k_is); (case c32 => k_is); (case k32 => k_is)
    (case a33 => k_is); (case l33 => k_is); (case c33 => k_is); (case k33 => k_is)
    (case a34 => k_is); (case l34 => k_is); (case c34 => k_is); (case k34 => k_is)
    (case a35 => k_is); (case l35 => k_is); (case c35 => k_is); (case k35 => k_is)
    (case a36 => k_is); (case l36 => k_is); (case c36 => k_is); (case k36 => k_is)
    (case tl16 => k_is); (case tp16 => rfl); (case tn16 => first | rfl | decide | with_unfolding_all rfl)
    (case tl22 => k_is); (case tp22 => rfl); (case tn22 => first | rfl | decide | with_unfolding_all rfl)
    (case gg0 => k_is)
    (case gg1 => k_is)
    (case mz =>
      intro x hx
      repeat (rcases List.mem_cons.mp hx with rfl | hx; · k_is)
      cases hx)
