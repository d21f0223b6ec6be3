import PyProof.Rows.All
import Wide.All
import OpenK.AllK
import Wide.FinOn
import HandS.ForMost
import HandS.IsInst
import HandS.Wide
import HandS.Conv
import HandS.AnyAll
import HandS.EndTab
import HandS.Flow
import HandS.SetFor
import HandS.Zip
import PyProof.TupleOfGen
import HandS.TupAny
import HandS.Style
import KE.KDictZip
import KE.GoesEnum
import KE.GoesMore
import HandS.FStrTup
import PyProof.Rows.ReprOcc
import PySem.Challenge.RW_heldmarks_k01_turns_known
set_option Elab.async false
set_option linter.all false
set_option maxRecDepth 100000
set_option maxHeartbeats 8000000
namespace HM
open PySem PySem.Spec PyProof.Rows L2

/-! ### plain calls: expressions that keep every object -/
abbrev Grows (h h' : Heap) : Prop := ∀ b o, h.get? b = some o → h'.get? b = some o
theorem kp_refl (s : Shared) : Keeps s s := ⟨s.heap, s.toks, rfl, fun _ _ e => e⟩
theorem kp_tok (s : Shared) (k : Nat) : Keeps s { s with toks := k } := ⟨s.heap, k, rfl, fun _ _ e => e⟩
theorem kp_trans {a b c : Shared} (x : Keeps a b) (y : Keeps b c) : Keeps a c := by
  obtain ⟨h1, t1, rfl, k1⟩ := x
  obtain ⟨h2, t2, rfl, k2⟩ := y
  exact ⟨h2, t2, rfl, fun q o e => k2 q o (k1 q o e)⟩
theorem kp_grows {a b : Shared} (x : Keeps a b) : Grows a.heap b.heap := by
  obtain ⟨h1, t1, rfl, k1⟩ := x
  exact k1
def Firm (S : Heap → Prop) : Prop := ∀ h h', S h → Grows h h' → S h'
theorem mod_up {K : PySem.W.Frag} {mg : Str → Option Value} {h h' : Heap} (m : L2.Mod K mg h) (k : Grows h h') : L2.Mod K mg h' :=
  ⟨m.kin.keeps k, m.glob.keeps k, let ⟨mb, h1, h2⟩ := m.blt; ⟨mb, h1.keeps k, h2⟩, m.nolimit.keeps k⟩

/-- e gives a value with R wherever S holds of the heap; all objects are kept -/
def RX (prog : Program) (w : World) (A : Around) (env : Env) (S : Heap → Prop) (e : Expr) (R : Value → Prop) : Prop :=
  ∀ (E : Value → Shared → Prop) (s : Shared), S s.heap → wpAny (model prog w) A (eval e env) (fun y s' => R y ∧ Keeps s s') E s
section
variable {prog : Program} {w : World} {A : Around} {env : Env} {S : Heap → Prop} {R R' : Value → Prop}
theorem rx_mono {e : Expr} (h : RX prog w A env S e R) (k : ∀ y, R y → R' y) : RX prog w A env S e R' := fun E s hs => thn (h E s hs) fun y s' q => ⟨k y q.1, q.2⟩
theorem rx_local {x : Str} {pos : Pos} {v : Value} (hk : env.scope.kind = .function) (hl : env.kindOf x = some .local) (hS : ∀ h, S h → ∃ m, h.Ns env.locals m ∧ m x = some v) (hd : (x == ("__debug__" : Str)) = false := by decide) :
    RX prog w A env S (.Name x pos) (fun y => y = v) := fun E s hs => by
  obtain ⟨m, hn, hv⟩ := hS _ hs
  exact wpAny_Name (wpAny_loadName_local hk hl hn hv ⟨rfl, kp_refl s⟩) hd
theorem rx_free {x : Str} {pos : Pos} {v : Value} {c : Addr} (hk : env.scope.kind = .function) (hl : env.kindOf x = some .free) (hc : env.cells.lookup x = some c) (hS : ∀ h, S h → h.IsCell c (some v))
    (hd : (x == ("__debug__" : Str)) = false := by decide) (hcd : (x == ("__classdict__" : Str)) = false := by decide) :
    RX prog w A env S (.Name x pos) (fun y => y = v) := fun E s hs =>
  wpAny_Name (wpAny_loadName_free hk hl hc (hS _ hs) ⟨rfl, kp_refl s⟩ hcd) hd
theorem rx_glob {K : PySem.W.Frag} {mg : Str → Option Value} {x : Str} {pos : Pos} {v : Value} (hk : env.scope.kind = .function) (hl : env.kindOf x = some .globalImplicit) (hgl : env.globals = mainGlobals) (hS : ∀ h, S h → L2.Mod K mg h)
    (hv : mg x = some v) (hd : (x == ("__debug__" : Str)) = false := by decide) : RX prog w A env S (.Name x pos) (fun y => y = v) := fun E s hs =>
  Calls.Name_function_global hk hl (Calls.loadGlobal_global (by rw [hgl]; exact (hS _ hs).glob) hv ⟨rfl, kp_refl s⟩) hd
theorem rx_blt {K : PySem.W.Frag} {mg : Str → Option Value} {x : Str} {pos : Pos} {v : Value} (hk : env.scope.kind = .function) (hl : env.kindOf x = some .globalImplicit) (hgl : env.globals = mainGlobals) (hbl : env.builtins = builtinsNs) (hS : ∀ h, S h → L2.Mod K mg h)
    (hm : mg x = none) (hv : bootBuiltins x = some v) (hn : x ≠ "__name__" := by decide) (hd : (x == ("__debug__" : Str)) = false := by decide) : RX prog w A env S (.Name x pos) (fun y => y = v) := fun E s hs => by
  obtain ⟨mb, h1, h2⟩ := (hS _ hs).blt
  exact Calls.Name_function_global hk hl (Calls.loadGlobal_builtin (by rw [hgl]; exact (hS _ hs).glob) hm (by rw [hbl]; exact h1) ((h2 x hn).trans hv) ⟨rfl, kp_refl s⟩) hd
theorem rx_int {i : Int} {j : Nat} {pos : Pos} : RX prog w A env S (.Constant (.int i) j pos) (fun y => ∃ t, y = .int i t) := fun E s hs => wpAny_Constant_int ⟨⟨_, rfl⟩, kp_tok s _⟩
theorem rx_one {op : BoolOp} {a : Expr} {pos : Pos} (h : RX prog w A env S a R) : RX prog w A env S (.BoolOp op [a] pos) R := fun E s hs => BoolOp_one (h E s hs)
theorem rx_and {a b : Expr} {rest : List Expr} {pos : Pos} {x y : Bool} (fm : Firm S) (ha : RX prog w A env S a (fun v => v = .bool x)) (hb : x = true → RX prog w A env S (.BoolOp .And (b :: rest) pos) (fun v => v = .bool y)) :
    RX prog w A env S (.BoolOp .And (a :: b :: rest) pos) (fun v => v = .bool (x && y)) := fun E s hs => by
  refine BoolOp_and (thn (ha E s hs) fun v s1 q => ?_)
  obtain ⟨rfl, k1⟩ := q
  refine wpAny_truthy_bool ?_
  cases x with
  | false => exact ⟨rfl, k1⟩
  | true => exact thn (hb rfl E s1 (fm _ _ hs (kp_grows k1))) fun v s2 q => ⟨q.1, kp_trans k1 q.2⟩
theorem rx_not {a : Expr} {pos : Pos} {x : Bool} (ha : RX prog w A env S a (fun v => v = .bool x)) : RX prog w A env S (.UnaryOp .Not a pos) (fun v => v = .bool (!x)) := fun E s hs => by
  refine UnaryOp_ (thn (ha E s hs) fun v s1 q => ?_)
  obtain ⟨rfl, k1⟩ := q
  exact not_of (wpAny_truthy_bool ⟨rfl, k1⟩)
/-- a <= b < c of ints -/
theorem rx_between {a b c : Expr} {pos : Pos} {i j k : Int} (fm : Firm S) (ha : RX prog w A env S a (fun v => ∃ t, v = .int i t)) (hb : RX prog w A env S b (fun v => ∃ t, v = .int j t)) (hc : RX prog w A env S c (fun v => ∃ t, v = .int k t))
    (hm : lastMarks [.LtE, .Lt] [b, c] = false := by with_unfolding_all rfl) : RX prog w A env S (.Compare a [.LtE, .Lt] [b, c] pos) (fun v => v = .bool (decide (i ≤ j) && decide (j < k))) := fun E s hs => by
  refine Compare_chain (thn (ha E s hs) fun v s1 q => chain_link (thn (hb E s1 (fm _ _ hs (kp_grows q.2))) fun u s2 q2 => ?_)) hm
  obtain ⟨⟨t, rfl⟩, k1⟩ := q
  obtain ⟨⟨t2, rfl⟩, k2⟩ := q2
  refine PyProof.Rows.le_int ?_
  refine wpAny_truthy_bool ?_
  by_cases hij : i ≤ j
  · rw [decide_eq_true hij]
    have hs2 := fm _ _ (fm _ _ hs (kp_grows k1)) (kp_grows k2)
    refine chain_last (thn (hc E s2 hs2) fun z s3 q3 => ?_)
    obtain ⟨⟨t3, rfl⟩, k3⟩ := q3
    exact PyProof.Rows.lt_int ⟨rfl, kp_trans k1 (kp_trans k2 k3)⟩
  · rw [decide_eq_false hij]
    exact ⟨rfl, kp_trans k1 k2⟩
/-- f(a, b), f a built-in -/
theorem rx_callB2 {x : Str} {p pos : Pos} {a b : Expr} {id : String} {Ra Rb : Value → Prop} (fm : Firm S) (hf : RX prog w A env S (.Name x p) (fun v => v = .builtin id)) (ha : RX prog w A env S a Ra) (hb : RX prog w A env S b Rb)
    (hc : ∀ (E : Value → Shared → Prop) (s : Shared) (u v : Value), S s.heap → Ra u → Rb v → wpAny (model prog w) A (call (.builtin id) [u, v]) (fun y s' => R y ∧ Keeps s s') E s)
    (he : starEach [a, b] env = (false, eval a env) :: starEach [b] env := by rfl) (he2 : starEach [b] env = (false, eval b env) :: starEach [] env := by rfl) (hpl : (backTo pos (starEach [b] env)).any (·.1) = false := by rfl) :
    RX prog w A env S (.Call (.Name x p) [a, b] [] pos) R := fun E s hs => by
  refine wpAny_Call_Name_kw (thn (hf E s hs) fun fv s0 q0 => ?_)
  obtain ⟨rfl, k0⟩ := q0
  refine PyProof.Rows.callWith_builtin1 ?_ he hpl
  rw [he]
  show wpAny _ _ (spliced ((false, eval a env) :: backTo pos (starEach [b] env))) _ _ s0
  have hs0 := fm _ _ hs (kp_grows k0)
  refine Calls.spliced_cons (thn (ha E s0 hs0) fun u s1 q1 => ?_)
  rw [he2]
  show wpAny _ _ (spliced ((false, eval b env) :: backTo pos (starEach [] env))) _ _ s1
  have hs1 := fm _ _ hs0 (kp_grows q1.2)
  refine Calls.spliced_cons (thn (hb E s1 hs1) fun v s2 q2 => ?_)
  refine Calls.spliced_nil ?_
  have hs2 := fm _ _ hs1 (kp_grows q2.2)
  exact thn (hc E s2 u v hs2 q1.1 q2.1) fun y s3 q3 => ⟨q3.1, kp_trans k0 (kp_trans q1.2 (kp_trans q2.2 q3.2))⟩
/-- f(a), f(a, b), f a def of the text -/
theorem rx_callD1 {K : PySem.W.Frag} {x : Str} {p pos : Pos} {a : Expr} {f : Addr} {Ra : Value → Prop} (fm : Firm S) (hK : ∀ h, S h → K.In h) (hkp : PySem.W.keepIn K (.ref f) = true) (hf : RX prog w A env S (.Name x p) (fun v => v = .ref f)) (ha : RX prog w A env S a Ra)
    (hc : ∀ (E : Value → Shared → Prop) (s : Shared) (u : Value), S s.heap → Ra u → wpAny (model prog w) A (call (.ref f) [u]) (fun y s' => R y ∧ Keeps s s') E s)
    (he : starEach [a] env = (false, eval a env) :: starEach [] env := by rfl) (hpl : (backTo pos (starEach [] env)).any (·.1) = false := by rfl) :
    RX prog w A env S (.Call (.Name x p) [a] [] pos) R := fun E s hs => by
  refine wpAny_Call_Name_kw (thn (hf E s hs) fun fv s0 q0 => ?_)
  obtain ⟨rfl, k0⟩ := q0
  have hs0 := fm _ _ hs (kp_grows k0)
  refine PySem.W.callWith_K (h₀ := s0.heap) (hK _ hs0) hkp ?_ he hpl
  rw [he]
  show wpAny _ _ (spliced ((false, eval a env) :: backTo pos (starEach [] env))) _ _ s0
  refine Calls.spliced_cons (thn (ha E s0 hs0) fun u s1 q1 => ?_)
  have hs1 := fm _ _ hs0 (kp_grows q1.2)
  refine Calls.spliced_nil ⟨hK _ hs1, ?_⟩
  exact thn (hc E s1 u hs1 q1.1) fun y s3 q3 => ⟨q3.1, kp_trans k0 (kp_trans q1.2 q3.2)⟩
theorem rx_callD2 {K : PySem.W.Frag} {x : Str} {p pos : Pos} {a b : Expr} {f : Addr} {Ra Rb : Value → Prop} (fm : Firm S) (hK : ∀ h, S h → K.In h) (hkp : PySem.W.keepIn K (.ref f) = true) (hf : RX prog w A env S (.Name x p) (fun v => v = .ref f)) (ha : RX prog w A env S a Ra) (hb : RX prog w A env S b Rb)
    (hc : ∀ (E : Value → Shared → Prop) (s : Shared) (u v : Value), S s.heap → Ra u → Rb v → wpAny (model prog w) A (call (.ref f) [u, v]) (fun y s' => R y ∧ Keeps s s') E s)
    (he : starEach [a, b] env = (false, eval a env) :: starEach [b] env := by rfl) (he2 : starEach [b] env = (false, eval b env) :: starEach [] env := by rfl) (hpl : (backTo pos (starEach [b] env)).any (·.1) = false := by rfl) :
    RX prog w A env S (.Call (.Name x p) [a, b] [] pos) R := fun E s hs => by
  refine wpAny_Call_Name_kw (thn (hf E s hs) fun fv s0 q0 => ?_)
  obtain ⟨rfl, k0⟩ := q0
  have hs0 := fm _ _ hs (kp_grows k0)
  refine PySem.W.callWith_K (h₀ := s0.heap) (hK _ hs0) hkp ?_ he hpl
  rw [he]
  show wpAny _ _ (spliced ((false, eval a env) :: backTo pos (starEach [b] env))) _ _ s0
  refine Calls.spliced_cons (thn (ha E s0 hs0) fun u s1 q1 => ?_)
  rw [he2]
  show wpAny _ _ (spliced ((false, eval b env) :: backTo pos (starEach [] env))) _ _ s1
  have hs1 := fm _ _ hs0 (kp_grows q1.2)
  refine Calls.spliced_cons (thn (hb E s1 hs1) fun v s2 q2 => ?_)
  have hs2 := fm _ _ hs1 (kp_grows q2.2)
  refine Calls.spliced_nil ⟨hK _ hs2, ?_⟩
  exact thn (hc E s2 u v hs2 q1.1 q2.1) fun y s3 q3 => ⟨q3.1, kp_trans k0 (kp_trans q1.2 (kp_trans q2.2 q3.2))⟩
end

/-! ### kinds of raw values -/
inductive RTy (h : Heap) : Value → String → Prop
  | non : RTy h .none "NoneType"
  | bl (b : Bool) : RTy h (.bool b) "bool"
  | int (i : Int) (t : Tok) : RTy h (.int i t) "int"
  | str (x : Str) (t : Tok) : RTy h (.str x t) "str"
  | lst {a : Addr} {o : Obj} (e : h.get? a = some o) (c : o.cls = .type "list") : RTy h (.ref a) "list"
  | tup {a : Addr} {o : Obj} (e : h.get? a = some o) (c : o.cls = .type "tuple") : RTy h (.ref a) "tuple"
  | dct {a : Addr} {o : Obj} (e : h.get? a = some o) (c : o.cls = .type "dict") : RTy h (.ref a) "dict"
theorem RTy.up {h h' : Heap} {u : Value} {T : String} (r : RTy h u T) (k : Grows h h') : RTy h' u T := by
  cases r with
  | non => exact .non
  | bl b => exact .bl b
  | int i t => exact .int i t
  | str x t => exact .str x t
  | lst e c => exact .lst (k _ _ e) c
  | tup e c => exact .tup (k _ _ e) c
  | dct e c => exact .dct (k _ _ e) c
theorem RTy.kit {K : PySem.W.Frag} {h : Heap} {u : Value} {T : String} (r : RTy h u T) : ∃ Pz : Heap → Prop, PySem.W.KitX K u (.type T) Pz ∧ Pz h ∧ u ≠ .builtin "__main__.__loader__#opaque" := by
  cases r with
  | non => exact ⟨_, PySem.W.kitx_none, True.intro, fun z => nomatch z⟩
  | bl b => exact ⟨_, PySem.W.kitx_bool, True.intro, fun z => nomatch z⟩
  | int i t => exact ⟨_, PySem.W.kitx_int, True.intro, fun z => nomatch z⟩
  | str x t => exact ⟨_, PySem.W.kitx_str, True.intro, fun z => nomatch z⟩
  | lst e c => exact ⟨_, PySem.W.kitx_list, ⟨_, e, c⟩, fun z => nomatch z⟩
  | tup e c => exact ⟨_, PySem.W.kitx_tuple, ⟨_, e, c⟩, fun z => nomatch z⟩
  | dct e c => exact ⟨_, PySem.W.kitx_dict, ⟨_, e, c⟩, fun z => nomatch z⟩
/-- isinstance(x, C) -/
theorem raw_isi {prog : Program} {w : World} {A : Around} {E : Value → Shared → Prop} {s : Shared} {K : PySem.W.Frag} {u : Value} {T C : String} {b : Bool} (hK : K.In s.heap) (r : RTy s.heap u T) (hb : kitB T C = some b) :
    wpAny (model prog w) A (call (.builtin "isinstance") [u, .type C]) (fun y s' => y = .bool b ∧ Keeps s s') E s := by
  obtain ⟨Pz, Z, p, hx⟩ := r.kit (K := K)
  exact PySem.W.kia_one Z hK p (kit_ty hb) hx fun tk => ⟨rfl, kp_tok s tk⟩
end HM


namespace HM
open PySem PySem.Spec PyProof.Rows L2
/-- an int that is no truth -/
def isW : Value → Bool
  | .int _ _ => true
  | _ => false
def isNum (n : Int) : Value → Bool
  | .int i _ => decide (0 ≤ i) && decide (i < n)
  | _ => false
/-- within a def that was called at h0, its names at L -/
def FrS (K : PySem.W.Frag) (mg : Str → Option Value) (h0 : Heap) (L : Addr) (bs : List (Str × Value)) : Heap → Prop := fun h => L2.Mod K mg h ∧ Grows h0 h ∧ h.Ns L (fun y => bs.reverse.lookup y)
theorem frs_firm {K : PySem.W.Frag} {mg : Str → Option Value} {h0 : Heap} {L : Addr} {bs : List (Str × Value)} : Firm (FrS K mg h0 L bs) := fun h h' hs k => ⟨mod_up hs.1 k, fun b o e => k _ _ (hs.2.1 b o e), hs.2.2.keeps k⟩
/-- what a def with one return does, at the level of the heap -/
theorem raw_def {P : Program} {w : World} {K : PySem.W.Frag} {mg : Str → Option Value} {x qual : Str} {st : Stmt} {f : Addr} {fd : FuncData} {A : Around} {E : Value → Shared → Prop} {s : Shared} {us : List Value} {ps : List Str} {e : Expr} {pos : Pos} {R : Value → Prop}
    (F : Fun K x qual st f fd) (M : L2.Mod K mg s.heap) (hroom : A.depth < recursionLimit) (hb : defBody st = [.Return (some e) pos])
    (hbind : ∀ (kV doc pm : Value) (an : Option Addr) (cdv ct : Value), bindArgs (PySem.W.fnOf x qual (defArgs st) (defBody st) (defScope st) .none kV doc pm an cdv ct) ⟨us, []⟩ = pure (ps.zip us))
    (hcell : ∀ y ∈ (defScope st).names, y.2 ≠ .cell) (hloc : ∀ y ∈ ps, (defScope st).names.lookup y = some .local) (hco : (defScope st).isCoroutine = false) (hgen : (defScope st).isGenerator = false) (hk : (defScope st).kind = .function)
    (h : ∀ (env : Env) (L : Addr), env.scope = defScope st → env.globals = mainGlobals → env.builtins = builtinsNs → env.locals = L → RX P w (A.deeper env) env (FrS K mg s.heap L (ps.zip us)) e R) :
    wpAny (model P w) A (call (.ref f) us) (fun y s' => R y ∧ Keeps s s') E s := by
  obtain ⟨oc, od, kV, doc, pm, an, cdv, ct, osl, rfl, lk, hcd⟩ := F.ex
  have hb2 : (PySem.W.fnOf x qual (defArgs st) (defBody st) (defScope st) .none kV doc pm an cdv ct).body = .stmts [.Return (some e) pos] := by rw [← hb]
  refine wpAny_call (codeAny_call_straight hroom (M.kin _ _ lk) rfl M.nolimit (PySem.W.codeRec_of M.kin hcd) hb2 (hbind _ _ _ _ _ _) hcell (fun y hy => hloc _ (List.of_mem_zip hy).1) (fun s1 I => ?_) hco hgen hk)
  obtain ⟨h1, tk, rfl, k1⟩ := I.done
  refine wpAny_execs_cons (wpAny_Return_some ?_)
  refine thn (h _ s.heap.objs.size rfl rfl rfl rfl _ _ ⟨mod_up M k1, k1, I.ns⟩) fun y s2 q => ?_
  exact ⟨q.1, kp_trans ⟨h1, tk, rfl, k1⟩ q.2⟩
/-- a parameter within such a def -/
theorem rx_par {P : Program} {w : World} {A : Around} {env : Env} {K : PySem.W.Frag} {mg : Str → Option Value} {h0 : Heap} {L : Addr} {bs : List (Str × Value)} {x : Str} {p : Pos} {v : Value} {st : Stmt} (e1 : env.scope = defScope st) (e4 : env.locals = L)
    (hk : (defScope st).kind = .function) (hl : (defScope st).names.lookup x = some .local) (hv : bs.reverse.lookup x = some v) (hd : (x == ("__debug__" : Str)) = false := by decide) : RX P w A env (FrS K mg h0 L bs) (.Name x p) (fun y => y = v) :=
  rx_local (by rw [e1]; exact hk) (by show env.scope.names.lookup _ = _; rw [e1]; exact hl) (fun h hs => ⟨_, by rw [e4]; exact hs.2.2, hv⟩) hd
theorem rx_bn {P : Program} {w : World} {A : Around} {env : Env} {K : PySem.W.Frag} {mg : Str → Option Value} {h0 : Heap} {L : Addr} {bs : List (Str × Value)} {x : Str} {p : Pos} {v : Value} {st : Stmt} (e1 : env.scope = defScope st) (e2 : env.globals = mainGlobals) (e3 : env.builtins = builtinsNs)
    (hk : (defScope st).kind = .function) (hl : (defScope st).names.lookup x = some .globalImplicit) (hm : mg x = none) (hv : bootBuiltins x = some v) (hn : x ≠ "__name__" := by decide) (hd : (x == ("__debug__" : Str)) = false := by decide) : RX P w A env (FrS K mg h0 L bs) (.Name x p) (fun y => y = v) :=
  rx_blt (by rw [e1]; exact hk) (by show env.scope.names.lookup _ = _; rw [e1]; exact hl) e2 e3 (fun h hs => hs.1) hm hv hn hd
theorem rx_gn {P : Program} {w : World} {A : Around} {env : Env} {K : PySem.W.Frag} {mg : Str → Option Value} {h0 : Heap} {L : Addr} {bs : List (Str × Value)} {x : Str} {p : Pos} {v : Value} {st : Stmt} (e1 : env.scope = defScope st) (e2 : env.globals = mainGlobals)
    (hk : (defScope st).kind = .function) (hl : (defScope st).names.lookup x = some .globalImplicit) (hm : mg x = some v) (hd : (x == ("__debug__" : Str)) = false := by decide) : RX P w A env (FrS K mg h0 L bs) (.Name x p) (fun y => y = v) :=
  rx_glob (by rw [e1]; exact hk) (by show env.scope.names.lookup _ = _; rw [e1]; exact hl) e2 (fun h hs => hs.1) hm hd
end HM
namespace K01
open PySem PySem.Spec PyProof.Rows L2 HM
def topS (i : Nat) : Stmt := PySem.Challenge.pw_heldmarks_k01_turns_known.main.body.getD i (.Pass ⟨0, 0, 0, 0⟩)
abbrev sWhole : Stmt := topS 1
abbrev sNumber : Stmt := topS 2
section
variable {P : Program} {w : World} {K : PySem.W.Frag} {mg : Str → Option Value} {base : Heap}
theorem raw_whole {f : Addr} {fd : FuncData} {A : Around} {E : Value → Shared → Prop} {s : Shared} {u : Value} {T : String} (F : Fun K "is_whole" "is_whole" sWhole f fd) (mi : mg "isinstance" = none) (mt : mg "int" = none) (mb : mg "bool" = none)
    (M : L2.Mod K mg s.heap) (hroom : A.depth < recursionLimit) (r : RTy s.heap u T) : wpAny (model P w) A (call (.ref f) [u]) (fun y s' => y = .bool (isW u) ∧ Keeps s s') E s := by
  refine raw_def (ps := ["thing"]) (R := fun y => y = .bool (isW u)) F M hroom rfl (fun _ _ _ _ _ _ => rfl) (by decide +kernel) (by decide +kernel) rfl rfl rfl fun env L e1 e2 e3 e4 => ?_
  have vT : ∀ {p : Pos}, RX P w (A.deeper env) env (FrS K mg s.heap L ((["thing"] : List Str).zip [u])) (.Name "thing" p) (fun y => y = u) := rx_par e1 e4 rfl rfl rfl
  suffices hf : ∃ b1 b2, kitB T "int" = some b1 ∧ kitB T "bool" = some b2 ∧ (b1 && !b2) = isW u by
    obtain ⟨b1, b2, h1, h2, h3⟩ := hf
    rw [← h3]
    refine rx_and frs_firm (rx_callB2 (id := "isinstance") frs_firm (rx_bn e1 e2 e3 rfl rfl mi (by decide +kernel)) vT (rx_bn (v := .type "int") e1 e2 e3 rfl rfl mt (by decide +kernel)) fun E s2 u2 v2 hs hu hv => ?_) fun _ => rx_one (rx_not (rx_callB2 (id := "isinstance") frs_firm (rx_bn e1 e2 e3 rfl rfl mi (by decide +kernel)) vT (rx_bn (v := .type "bool") e1 e2 e3 rfl rfl mb (by decide +kernel)) fun E s2 u2 v2 hs hu hv => ?_))
    · subst hu hv
      exact raw_isi hs.1.kin (r.up hs.2.1) h1
    · subst hu hv
      exact raw_isi hs.1.kin (r.up hs.2.1) h2
  cases r with
  | non => exact ⟨false, false, by decide +kernel, by decide +kernel, rfl⟩
  | bl b => exact ⟨true, true, by decide +kernel, by decide +kernel, rfl⟩
  | int i t => exact ⟨true, false, by decide +kernel, by decide +kernel, rfl⟩
  | str x t => exact ⟨false, false, by decide +kernel, by decide +kernel, rfl⟩
  | lst e c => exact ⟨false, false, by decide +kernel, by decide +kernel, rfl⟩
  | tup e c => exact ⟨false, false, by decide +kernel, by decide +kernel, rfl⟩
  | dct e c => exact ⟨false, false, by decide +kernel, by decide +kernel, rfl⟩
theorem raw_number {f fW : Addr} {fd fdW : FuncData} {A : Around} {E : Value → Shared → Prop} {s : Shared} {u : Value} {n : Int} {t : Tok} {T : String} (F : Fun K "is_number" "is_number" sNumber f fd) (FW : Fun K "is_whole" "is_whole" sWhole fW fdW) (gW : mg "is_whole" = some (.ref fW))
    (mi : mg "isinstance" = none) (mt : mg "int" = none) (mb : mg "bool" = none) (M : L2.Mod K mg s.heap) (hroom : A.depth + 1 < recursionLimit) (r : RTy s.heap u T) :
    wpAny (model P w) A (call (.ref f) [u, .int n t]) (fun y s' => y = .bool (isNum n u) ∧ Keeps s s') E s := by
  refine raw_def (ps := ["thing", "many"]) (R := fun y => y = .bool (isNum n u)) F M (by omega) rfl (fun _ _ _ _ _ _ => rfl) (by decide +kernel) (by decide +kernel) rfl rfl rfl fun env L e1 e2 e3 e4 => ?_
  have vT : ∀ {p : Pos}, RX P w (A.deeper env) env (FrS K mg s.heap L ((["thing", "many"] : List Str).zip [u, .int n t])) (.Name "thing" p) (fun y => y = u) := rx_par e1 e4 rfl rfl rfl
  have vM : ∀ {p : Pos}, RX P w (A.deeper env) env (FrS K mg s.heap L ((["thing", "many"] : List Str).zip [u, .int n t])) (.Name "many" p) (fun y => y = .int n t) := rx_par e1 e4 rfl rfl rfl
  suffices hf : ∃ b, (isW u = true → ∃ i t', u = .int i t' ∧ (decide (0 ≤ i) && decide (i < n)) = b) ∧ (isW u && b) = isNum n u by
    obtain ⟨b, h1, h2⟩ := hf
    rw [← h2]
    refine rx_and frs_firm (rx_callD1 frs_firm (fun h hs => hs.1.kin) FW.kp (rx_gn e1 e2 rfl rfl gW) vT fun E s2 u2 hs hu => ?_) fun hw => ?_
    · subst hu
      exact raw_whole FW mi mt mb hs.1 (by show A.depth + 1 < _; exact hroom) (r.up hs.2.1)
    · obtain ⟨i, t', rfl, h3⟩ := h1 hw
      rw [← h3]
      exact rx_one (rx_between frs_firm rx_int (rx_mono vT fun y e => ⟨t', e⟩) (rx_mono vM fun y e => ⟨t, e⟩))
  cases r with
  | int i t' => exact ⟨_, fun _ => ⟨i, t', rfl, rfl⟩, rfl⟩
  | non => exact ⟨false, fun h => absurd h (by decide), rfl⟩
  | bl b => exact ⟨false, fun h => absurd h (by simp [isW]), rfl⟩
  | str x t => exact ⟨false, fun h => absurd h (by simp [isW]), rfl⟩
  | lst e c => exact ⟨false, fun h => absurd h (by simp [isW]), rfl⟩
  | tup e c => exact ⟨false, fun h => absurd h (by simp [isW]), rfl⟩
  | dct e c => exact ⟨false, fun h => absurd h (by simp [isW]), rfl⟩
end
end K01


namespace HM
open PySem PySem.Spec PyProof.Rows L2
/-- kept but for what stands at P -/
def GrowsBut (P : Addr) (h h' : Heap) : Prop := ∀ b o, b ≠ P → h.get? b = some o → h'.get? b = some o
section
variable {X : Cx} {pins : List (Addr × Obj)} {σ : L2.St} {H : Hp} {s : Shared}
/-- the walk of xv begins in s1: a new object o -/
structure Beg (X : Cx) (P : Addr) (s1 : Shared) (xv : Value) (its : List Value) (o : Obj) (fp : List Addr) (St : Nat → Heap → Prop) : Prop where
  beg : ∀ (E : Value → Shared → Prop) (Q : Value → Shared → Prop), Q (.ref s1.heap.objs.size) { s1 with heap := s1.heap.push o } → wpAny (model X.prog X.w) X.A (pyIter xv) Q E s1
  walk : ∀ A' : Around, A'.handled = none → Walks X.prog X.w A' s1.heap.objs.size fp [s1.heap.objs.size] its.length (fun i v => its[i]? = some v) St
  st0 : ∀ h3 : Heap, GrowsBut P (s1.heap.push o) h3 → St 0 h3
  fpl : ∀ b ∈ fp, b ≤ s1.heap.objs.size
/-- the generator g, n items with F, ready to be walked -/
def ReadyG (X : Cx) (pins : List (Addr × Obj)) (σ : L2.St) (H1 : Hp) (P : Addr) (n : Nat) (F : Nat → Value → Prop) (g : Addr) (s5 : Shared) : Prop :=
  ∃ (fp wr : List Addr) (G : Array GenState → Array GenState → Prop) (Fv : Nat → Value → Prop) (St : Nat → Shared → Prop),
    WalksS X.prog X.w X.A.in4 g fp wr G n Fv St ∧ St 0 s5 ∧ (∀ b ∈ fp, b < s5.heap.objs.size) ∧ g ∈ fp ∧ (∀ i s9, St i s9 → s9.TypeIs (.ref g) "generator") ∧ (∀ j v, Fv j v → j < n ∧ F j v) ∧
    ∀ s', Moved wr G s5 s' → ∃ H2, GxR.Tabbed P H1 H2 ∧ Inv X pins σ H2 s'
/-- what the element is to do -/
def EltG (X : Cx) (P : Addr) (s1 : Shared) (scope : Scope) (x : Str) (elt : Expr) (its : List Value) (F : Nat → Value → Prop) : Prop :=
  ∀ (A' : Around) (cenv : Env) (i : Nat) (v : Value), A'.handled = none → A'.depth ≤ X.A.depth + 1 → A'.units ≤ X.A.units + 8 → cenv.scope = scope → cenv.globals = mainGlobals → cenv.builtins = builtinsNs →
    cenv.cells = cloFrom X.env.cells scope.names [] → its[i]? = some v → RX X.prog X.w A' cenv (fun h => GrowsBut P s1.heap h ∧ ∃ m, h.Ns cenv.locals m ∧ m x = some v) elt (F i)
theorem gen_any {c P : Addr} {elt iter : Expr} {x : Str} {px gpos : Pos} {scope : Scope} {te : TE} {k : Nat} {Q' : Value → Shared → Prop} {Rr : V → Hp → Prop}
    (hr : Room k X.A) (TB : GxR.TabB X.base X.mg c P) (hcode : X.env.code = .ref c) (Sc : GxR.GenS X.env scope x) (hi : PE X iter te) (hs : ∀ v, genFold iter X.env v = pure v) (I : Inv X pins σ H s)
    (h : te σ H fun v H1 => GxR.TabG H1 P ∧ Rr v H1)
    (hu : ∀ (v : V) (H1 : Hp) (s1 : Shared) (xv : Value), Inv X pins σ H1 s1 → RelV v xv → GxR.TabG H1 P → Rr v H1 → ∃ (its : List Value) (o : Obj) (fp : List Addr) (St : Nat → Heap → Prop) (F : Nat → Value → Prop),
      Beg X P s1 xv its o fp St ∧ EltG X P s1 scope x elt its F ∧ ∀ g s5, ReadyG X pins σ H1 P its.length F g s5 → Q' (.ref g) s5) :
    wpAny (model X.prog X.w) X.A (eval (.GeneratorExp elt [⟨.Name x px, iter, [], 0⟩] scope gpos) X.env) Q' X.xe s := by
  refine wpAny_GeneratorExp_walksQD hr.hd Sc.co (closure_ok Sc.free) Sc.cell Sc.dot Sc.loc Sc.kind (by have := hr.dp; omega) ?_ hs
  refine thn (hi.run pins s σ H _ I h) fun xv s1 hx1 => ?_
  obtain ⟨v, H1, I1, r1, tg, q1⟩ := hx1
  obtain ⟨its, o, fp, St, F, B, hel, hQ⟩ := hu v H1 s1 xv I1 r1 tg q1
  obtain ⟨ps, hP, ht⟩ := tg
  refine B.beg _ _ ?_
  have hPs : s1.heap.get? P = some { cls := .none, data := .fields ps } := I1.hok P _ hP
  have hPlt : P < s1.heap.objs.size := Heap.lt_size hPs
  have up : Grows s1.heap (s1.heap.push o) := fun b u e => Heap.get?_push_of_some _ e
  have hP2 := up _ _ hPs
  have cd : PySem.W.CodeHd (s1.heap.push o) c P := TB.code.keeps fun b u e => up _ _ (I1.bk b u e)
  have lim2 : (s1.heap.push o).NoLimit := I1.nolimit.push o
  have sz2 : (s1.heap.push o).objs.size = s1.heap.objs.size + 1 := Heap.size_push ..
  have hclt : cStatics < s1.heap.objs.size := let ⟨_, hns, _⟩ := I1.nolimit; hns.lt
  have hcP : cStatics ≠ P := fun e => by
    obtain ⟨_, ⟨o', es, ep, ho, hd, _⟩, _⟩ := I1.nolimit
    rw [e, hPs] at ho
    cases ho
    cases hd
  refine ⟨lim2, ?_⟩
  -- whatever code object the generator gets
  have key : ∀ (code : Value) (h3 : Heap) (tk : Nat) (more : Array Value), Heap.ExtBut P (s1.heap.push o) h3 → (s1.heap.push o).objs.size ≤ h3.objs.size → h3.get? P = some { cls := .none, data := .fields (ps ++ more) } → TriplesOk (ps ++ more).toList →
      wpAny (model X.prog X.w) X.A (builtinsFor X.env.globals X.env.builtins) (fun bi s₄ =>
        ∃ Ia fp wr n₀ Pf St₀ pz F, Value.ref s1.heap.objs.size = .ref Ia ∧ (∀ A' : Around, A'.handled = none → Walks X.prog X.w A' Ia fp wr n₀ Pf St₀) ∧ St₀ 0 s₄.heap ∧ (∀ b ∈ fp, b < s₄.heap.objs.size) ∧ s₄.heap.NoLimit ∧ cStatics ∉ wr ∧
          (∀ href : Heap, (∀ b o, s₄.heap.get? b = some o → href.get? b = some o) →
            QuietGenD X.prog X.w (genEnv scope (cloFrom X.env.cells scope.names []) s₄.heap.objs.size code bi X.env) x [] elt (List.range s₄.heap.objs.size) wr Pf pz F href (X.A.depth + 1) (X.A.units + 8)) ∧
          (∀ a h₅ tk gs, gs.bare = true → s₄.heap.objs.size < a → h₅.objs.size = a + 1 → (∀ b o, s₄.heap.get? b = some o → h₅.get? b = some o) →
            WalksS X.prog X.w X.A.in4 a (a :: s₄.heap.objs.size :: List.range s₄.heap.objs.size) (s₄.heap.objs.size :: wr) (GenOnlyQ s₄.gens.size) (passing pz n₀ 0).length
              (fun j y => ∃ i, (passing pz n₀ 0)[j]? = some i ∧ F i y) (GenAt X.prog X.w X.A.in4 a s₄.gens.size s₄.heap.objs.size (List.range s₄.heap.objs.size) wr pz n₀ F) →
            GenAt X.prog X.w X.A.in4 a s₄.gens.size s₄.heap.objs.size (List.range s₄.heap.objs.size) wr pz n₀ F 0 { s₄ with gens := s₄.gens.push gs, toks := tk, heap := h₅ } →
            Q' (.ref a) { s₄ with gens := s₄.gens.push gs, toks := tk, heap := h₅ })) X.xe { s1 with heap := h3, toks := tk } := by
    intro code h3 tk more hx hsz hP3 ht3
    obtain ⟨bm, ob, e1, e2, e3, e4, e5, e6, e7, e8⟩ := TB.bm
    have keep3 : GrowsBut P s1.heap h3 := fun b u hb e => hx b u hb (up _ _ e)
    refine wpAny_builtinsFor (m := X.mg) (by rw [I1.ok.glob]; exact ((I1.mod.glob.keeps I1.bk).push o).extBut hx TB.gP) e1 e2 (keep3 _ _ e4 (I1.bk _ _ e5)) e6 e7 e8 ?_
    refine ⟨s1.heap.objs.size, fp, [s1.heap.objs.size], its.length, fun i v => its[i]? = some v, St, fun _ => true, F, rfl, B.walk, B.st0 h3 fun b u hb e => hx b u hb e, fun b hb => ?_, lim2.extBut hx hcP, fun z => ?_, fun href hhref => ?_, fun g h5 tk5 gs hgb hag hsz5 hk5 W5 hgat => ?_⟩
    · exact Nat.lt_of_le_of_lt (B.fpl b hb) (by show s1.heap.objs.size < h3.objs.size; omega)
    · exact Nat.ne_of_lt hclt (List.mem_singleton.mp z)
    · refine ⟨fun A' E' i v s₂ m₂ hA _ _ hPv hn hm hk => ?_, fun A' E' i v s₂ m₂ hA hdp hun hPv _ hn hm hk => ?_⟩
      · simp only [List.forIn_nil]
        exact wpAny_pure ⟨rfl, kp_refl _⟩
      · refine hel A' (genEnv scope (cloFrom X.env.cells scope.names []) h3.objs.size code builtinsNs X.env) i v hA hdp hun rfl I1.ok.glob rfl rfl hPv E' s₂ ⟨fun b u hb e => ?_, m₂, hn, hm⟩
        have hl := Heap.lt_size e
        exact hk b (List.mem_range.mpr (Nat.lt_of_lt_of_le hl (by show s1.heap.objs.size ≤ h3.objs.size; omega))) (fun z => Nat.ne_of_lt hl (List.mem_singleton.mp z)) u (hhref b u (keep3 b u hb e))
    · simp only [GxR.passing_true, List.length_range] at W5
      refine hQ g _ ⟨_, _, _, _, _, W5, hgat, fun b hb => ?_, List.mem_cons_self, fun i s9 h9 => h9.1.typeIs, fun j y hy => ?_, fun s' hm => ?_⟩
      · have f1 : h5.objs.size = g + 1 := hsz5
        have f2 : h3.objs.size < g := hag
        show b < h5.objs.size
        rw [f1]
        rcases List.mem_cons.mp hb with z | z
        · rw [z]
          exact Nat.lt_succ_self g
        · rcases List.mem_cons.mp z with z | z
          · rw [z]
            exact Nat.lt_succ_of_lt f2
          · exact Nat.lt_succ_of_lt (Nat.lt_trans (List.mem_range.mp z) f2)
      · obtain ⟨i, hij, hy⟩ := hy
        obtain ⟨hj, ej⟩ := List.getElem?_eq_some_iff.mp hij
        rw [List.getElem_range] at ej
        subst ej
        rw [List.length_range] at hj
        exact ⟨hj, hy⟩
      · have nwr : ∀ b u, s1.heap.get? b = some u → b ∉ h3.objs.size :: [s1.heap.objs.size] := fun b u e hb => by
          have hl := Heap.lt_size e
          rcases List.mem_cons.mp hb with z | z
          · rw [z] at hl
            exact Nat.lt_irrefl _ (Nat.lt_of_lt_of_le hl (by show s1.heap.objs.size ≤ h3.objs.size; omega))
          · rw [List.mem_singleton.mp z] at hl
            exact Nat.lt_irrefl _ hl
        have J := GxR.inv_tab (more := more) (h' := s'.heap) (g' := s'.gens) (d' := s'.drawn) (t' := s'.toks) I1 hP (fun b u hb e => hm.heap b u (nwr b u e) (hk5 b u (keep3 b u hb e)))
          (hm.heap P _ (nwr P _ hPs) (hk5 P _ hP3)) (AllBare.movedS (I1.bare.push hgb) hm)
        rw [GxR.sh_eta s1 s' hm.os] at J
        exact ⟨upd H1 P (.tbl (ps ++ more)), ⟨⟨ps ++ more, upd_same, ht3⟩, fun b hb => upd_ne hb⟩, J⟩
  cases hf : codeAmong gpos ps.toList with
  | some cv =>
    refine wpAny_genexprCode_hit hcode (cd.code hP2 ht) hf ?_
    have e0 : ps ++ (#[] : Array Value) = ps := by simp
    exact key cv (s1.heap.push o) s1.toks #[] (Heap.ExtBut.refl _ _) (Nat.le_refl _) (by rw [e0]; exact hP2) (by rw [e0]; exact ht)
  | none =>
    refine wpAny_genexprCodeX hcode (cd.code hP2 ht) (cd.tab hP2) hf fun c' h' tk hx hge hlt hco' _ htab' _ => ?_
    obtain ⟨o1, vs, f1, tf, fl, tgv, inF, tx, tt, op, _, _, _, _, _, _, _, _, _, htr, _⟩ := hco'
    exact key _ h' tk _ hx (Nat.le_trans hge (Nat.le_of_lt hlt)) htab'.2 htr
/-- a list or a tuple begins to be walked -/
theorem beg_list {P a : Addr} {xs : List V} {H1 : Hp} {s1 : Shared} (I1 : Inv X pins σ H1 s1) (tg : GxR.TabG H1 P) (h : SqL X.K H1 a xs) : ∃ (its : List Value) (o : Obj) (fp : List Addr) (St : Nat → Heap → Prop), Vals xs its ∧ Beg X P s1 (.ref a) its o fp St := by
  obtain ⟨its, rv, hl, hz⟩ := I1.list h
  have hIL := hl.isList
  obtain ⟨ps, hP, _⟩ := tg
  have hPs : s1.heap.get? P = some { cls := .none, data := .fields ps } := I1.hok P _ hP
  have hlt : a < s1.heap.objs.size := by
    obtain ⟨_, e, _⟩ := _root_.id hIL
    exact Heap.lt_size e
  have haP : a ≠ P := fun z => by
    obtain ⟨_, e, _, _, hd⟩ := _root_.id hIL
    rw [z, hPs] at e
    cases e
    cases hd
  have hPlt := Heap.lt_size hPs
  refine ⟨its, { cls := .type "list_iterator", data := .fields #[.ref a, .int 0 0] }, [s1.heap.objs.size, a], (fun i h => h.IsListIter s1.heap.objs.size a i ∧ h.IsList a its.toArray), rv, ⟨fun E Q q => wpAny_pyIter_list hIL q, fun A' hA => ?_, fun h3 g => ⟨?_, ?_⟩, fun b hb => ?_⟩⟩
  · have W := Walks.list (prog := X.prog) (w := X.w) hA s1.heap.objs.size a (Nat.ne_of_lt hlt) its.toArray
    have e : its.toArray.size = its.length := by simp
    have e2 : (fun (i : Nat) (v : Value) => its.toArray[i]? = some v) = fun i v => its[i]? = some v := by
      funext i v
      simp
    rw [e, e2] at W
    exact W
  · exact ⟨_, g _ _ (Nat.ne_of_gt hPlt) (Heap.get?_push_size _ rfl), rfl, rfl⟩
  · obtain ⟨ob, e, r⟩ := _root_.id hIL
    exact ⟨ob, g _ _ haP (Heap.get?_push_of_some _ e), r⟩
  · rcases List.mem_cons.mp hb with z | z
    · exact Nat.le_of_eq z
    · rw [List.mem_singleton.mp z]
      exact Nat.le_of_lt hlt
theorem beg_tup {P a : Addr} {xs : List V} {H1 : Hp} {s1 : Shared} (I1 : Inv X pins σ H1 s1) (tg : GxR.TabG H1 P) (h : SqT X.K H1 a xs) : ∃ (its : List Value) (o : Obj) (fp : List Addr) (St : Nat → Heap → Prop), Vals xs its ∧ Beg X P s1 (.ref a) its o fp St := by
  obtain ⟨its, rv, hIL, hz⟩ := I1.tuple h
  obtain ⟨ps, hP, _⟩ := tg
  have hPs : s1.heap.get? P = some { cls := .none, data := .fields ps } := I1.hok P _ hP
  have hlt : a < s1.heap.objs.size := by
    obtain ⟨_, e, _⟩ := _root_.id hIL
    exact Heap.lt_size e
  have haP : a ≠ P := fun z => by
    obtain ⟨_, e, _, _, hd⟩ := _root_.id hIL
    rw [z, hPs] at e
    cases e
    cases hd
  have hPlt := Heap.lt_size hPs
  refine ⟨its, { cls := .type "tuple_iterator", data := .fields #[.ref a, .int 0 0] }, [s1.heap.objs.size, a], (fun i h => h.IsTupleIter s1.heap.objs.size a i ∧ h.IsTuple a its.toArray), rv, ⟨fun E Q q => wpAny_pyIter_tuple hIL q, fun A' hA => ?_, fun h3 g => ⟨?_, ?_⟩, fun b hb => ?_⟩⟩
  · have W := Walks.tuple (prog := X.prog) (w := X.w) hA s1.heap.objs.size a (Nat.ne_of_lt hlt) its.toArray
    have e : its.toArray.size = its.length := by simp
    have e2 : (fun (i : Nat) (v : Value) => its.toArray[i]? = some v) = fun i v => its[i]? = some v := by
      funext i v
      simp
    rw [e, e2] at W
    exact W
  · exact ⟨_, g _ _ (Nat.ne_of_gt hPlt) (Heap.get?_push_size _ rfl), rfl, rfl⟩
  · obtain ⟨ob, e, r⟩ := _root_.id hIL
    exact ⟨ob, g _ _ haP (Heap.get?_push_of_some _ e), r⟩
  · rcases List.mem_cons.mp hb with z | z
    · exact Nat.le_of_eq z
    · rw [List.mem_singleton.mp z]
      exact Nat.le_of_lt hlt
end
end HM


namespace HM
open PySem PySem.Spec PyProof.Rows L2
/-! ### kinds of tracked values -/
inductive VTy (K : PySem.W.Frag) (H : Hp) : V → String → Prop
  | non : VTy K H .non "NoneType"
  | bl (b : Bool) : VTy K H (.bl b) "bool"
  | int (i : Int) : VTy K H (.int i) "int"
  | str (x : Str) : VTy K H (.str x) "str"
  | lst {a : Addr} {xs : List V} (e : SqL K H a xs) : VTy K H (.ref a) "list"
  | tup {a : Addr} {xs : List V} (e : SqT K H a xs) : VTy K H (.ref a) "tuple"
  | dct {a : Addr} {kvs : List (Key × V)} (e : H a = some (.dK kvs)) : VTy K H (.ref a) "dict"
section
variable {X : Cx} {pins : List (Addr × Obj)} {σ : L2.St} {H : Hp} {s : Shared}
theorem VTy.raw {x : V} {u : Value} {T : String} (t : VTy X.K H x T) (I : Inv X pins σ H s) (r : RelV x u) : RTy s.heap u T := by
  cases t with
  | non => cases (show u = Value.none from r); exact .non
  | bl b => cases (show u = Value.bool b from r); exact .bl b
  | int i => obtain ⟨t, rfl⟩ := (show ∃ t, u = Value.int i t from r); exact .int i t
  | str y => obtain ⟨t, rfl⟩ := (show ∃ t, u = Value.str y t from r); exact .str y t
  | @lst a xs e =>
    cases (show u = Value.ref a from r)
    obtain ⟨its, _, ⟨o, n, h1, h2, _⟩, _⟩ := I.list e
    exact .lst h1 h2
  | @tup a xs e =>
    cases (show u = Value.ref a from r)
    obtain ⟨its, _, ⟨o, h1, h2, _⟩, _⟩ := I.tuple e
    exact .tup h1 h2
  | @dct a kvs e =>
    cases (show u = Value.ref a from r)
    obtain ⟨_, _, vs, _, o, es, ep, h1, h2, _⟩ := (show ObjOk X.prog X.w H s.heap a (.dK kvs) from I.hok a _ e)
    exact .dct h1 h2.1
theorem RTy.but {h h' : Heap} {u : Value} {T : String} {P : Addr} {ps : Array Value} (r : RTy h u T) (hP : h.get? P = some { cls := .none, data := .fields ps }) (k : GrowsBut P h h') : RTy h' u T := by
  have ne : ∀ {a : Addr} {o : Obj} {C : String}, h.get? a = some o → o.cls = .type C → a ≠ P := fun {a o C} e c z => by
    rw [z, hP] at e
    cases e
    cases c
  cases r with
  | non => exact .non
  | bl b => exact .bl b
  | int i t => exact .int i t
  | str x t => exact .str x t
  | lst e c => exact .lst (k _ _ (ne e c) e) c
  | tup e c => exact .tup (k _ _ (ne e c) e) c
  | dct e c => exact .dct (k _ _ (ne e c) e) c
/-- the module's ground is kept, for P is none of it -/
theorem mod_but {H1 : Hp} {s1 : Shared} {P : Addr} {h : Heap} (I1 : Inv X pins σ H1 s1) (tg : GxR.TabG H1 P) (k : GrowsBut P s1.heap h) : L2.Mod X.K X.mg h := by
  obtain ⟨ps, hP, _⟩ := tg
  refine mod_up I1.mod fun b o e => k b o (fun z => ?_) (I1.bk b o e)
  have q := (I1.bs b o e).2
  rw [z, hP] at q
  cases q
/-- a name of the def that the generator reads -/
theorem free_cell {H1 : Hp} {s1 : Shared} {P : Addr} {h : Heap} {i : Nat} {y : Str} {v : V} {scope : Scope} (I1 : Inv X pins σ H1 s1) (tg : GxR.TabG H1 P) (k : GrowsBut P s1.heap h) (hN : X.N[i]? = some y) (hσ : σ[i]? = some (some v)) (hk : X.env.kindOf y = some .cell)
    (hcl : ∀ c, X.env.cells.lookup y = some c → (cloFrom X.env.cells scope.names []).lookup y = some c) : ∃ c u, (cloFrom X.env.cells scope.names []).lookup y = some c ∧ RelV v u ∧ h.IsCell c (some u) := by
  obtain ⟨m, _, hl⟩ := I1.loc
  obtain ⟨u, r, l⟩ := hl i y v hN hσ (.inr (.inl hk))
  rcases l with ⟨hk2, _⟩ | ⟨_, c, hc, hcell⟩
  · rw [hk] at hk2
    cases hk2
  · refine ⟨c, u, hcl c hc, r, ?_⟩
    obtain ⟨ps, hP, _⟩ := tg
    have hn := I1.freeC y c hc
    have hne : c ≠ P := fun z => by
      rw [z, hP] at hn
      cases hn
    obtain ⟨o, e, q⟩ := hcell
    exact ⟨o, k c o hne e, q⟩
/-! ### all(..) and tuple(..) of a generator expression -/
def tAllG (P : Addr) (Rr : L2.St → V → Hp → Nat → (Nat → Bool) → Prop) (te : TE) : TE := fun σ H Q => te σ H fun v H1 => GxR.TabG H1 P ∧ ∃ n pb, Rr σ v H1 n pb ∧ ∀ H2, GxR.Tabbed P H1 H2 → Q (.bl ((List.range n).all pb)) H2
theorem pe_allG {c P : Addr} {elt iter : Expr} {x : Str} {px p pos gpos : Pos} {scope : Scope} {te : TE} {k : Nat} {Rr : L2.St → V → Hp → Nat → (Nat → Bool) → Prop}
    (hr : Room k X.A) (hg : Gl X "all") (hm : X.mg "all" = none) (TB : GxR.TabB X.base X.mg c P) (hcode : X.env.code = .ref c) (Sc : GxR.GenS X.env scope x) (hi : PE X iter te) (hs : ∀ v, genFold iter X.env v = pure v)
    (hu : ∀ (pins : List (Addr × Obj)) (σ : L2.St) (v : V) (H1 : Hp) (s1 : Shared) (xv : Value) (n : Nat) (pb : Nat → Bool), Inv X pins σ H1 s1 → RelV v xv → GxR.TabG H1 P → Rr σ v H1 n pb →
      ∃ (its : List Value) (o : Obj) (fp : List Addr) (St : Nat → Heap → Prop), its.length = n ∧ Beg X P s1 xv its o fp St ∧ EltG X P s1 scope x elt its (fun i y => y = .bool (pb i)))
    (he : starEach [.GeneratorExp elt [⟨.Name x px, iter, [], 0⟩] scope gpos] X.env = (false, eval (.GeneratorExp elt [⟨.Name x px, iter, [], 0⟩] scope gpos) X.env) :: starEach [] X.env := by rfl) :
    PE X (.Call (.Name "all" p) [.GeneratorExp elt [⟨.Name x px, iter, [], 0⟩] scope gpos] [] pos) (tAllG P Rr te) := by
  refine ⟨fun pins s σ H Q I h => ?_⟩
  refine wpAny_Call_Name_kw (ld_blt I hg hm (u := .builtin "all") (by decide +kernel) ?_)
  refine PyProof.Rows.callWith_builtin1 ?_ he (by rfl)
  rw [he]
  show wpAny _ _ (spliced ((false, eval (.GeneratorExp elt [⟨.Name x px, iter, [], 0⟩] scope gpos) X.env) :: backTo pos (starEach [] X.env))) _ _ s
  refine Calls.spliced_cons (gen_any (Rr := fun v H1 => ∃ n pb, Rr σ v H1 n pb ∧ ∀ H2, GxR.Tabbed P H1 H2 → Q (.bl ((List.range n).all pb)) H2) hr TB hcode Sc hi hs I h fun v H1 s1 xv I1 r1 tg q1 => ?_)
  obtain ⟨n, pb, q1, q2⟩ := q1
  obtain ⟨its, o, fp, St, hn, B, hel⟩ := hu pins σ v H1 s1 xv n pb I1 r1 tg q1
  refine ⟨its, o, fp, St, _, B, hel, fun g s5 hG => ?_⟩
  obtain ⟨fp5, wr, G, Fv, St5, W, hst, _, _, _, hF, hI⟩ := hG
  refine Calls.spliced_nil ?_
  refine call_all_walkS ((W.in4_1).self 0 _ _ _ hst ⟨g, fp5, wr, G, _, Fv, St5, pb, rfl, W.in4_1, hst, fun j y sj Qj Ej hy hQj => ?_, fun s' hmv => ?_⟩)
  · rw [(hF j y hy).2]
    exact wpAny_truthy_bool hQj
  · obtain ⟨H2, hT, J⟩ := hI s' hmv
    refine ⟨.bl _, H2, J, rfl, ?_⟩
    rw [hn]
    exact q2 H2 hT
/-! ### len(set(t)), t a tuple of ints -/
def Dist (ns : List Int) (c : Nat) : Prop := ∃ L : List Int, L.Nodup ∧ (∀ k, k ∈ L ↔ k ∈ ns) ∧ L.length = c
def tLenSetT (K : PySem.W.Frag) (ta : TE) : TE := fun σ H Q => ta σ H fun x H1 => ∃ (l : Addr) (ns : List Int), x = .ref l ∧ SqT K H1 l (ns.map V.int) ∧ ns.length ≤ 4000 ∧ ∀ c, Dist ns c → Q (.int (c : Nat)) H1
theorem pe_lenSetT {a : Expr} {ta : TE} {p p2 q pos : Pos} (hg : Gl X "len") (hm : X.mg "len" = none) (hg2 : Gl X "set") (hm2 : X.mg "set" = none) (ha : PE X a ta) (hc : X.calm = true := by rfl)
    (na : starEach [a] X.env = (false, eval a X.env) :: starEach [] X.env := by rfl) : PE X (.Call (.Name "len" p) [.Call (.Name "set" p2) [a] [] q] [] pos) (tLenSetT X.K ta) := by
  refine ⟨fun pins s σ H Q I h => ?_⟩
  refine Call_ (ld_blt I hg hm boot_len ?_)
  refine PyProof.Rows.callWith_builtin1 (PyProof.Rows.args_cons ?_ rfl) rfl rfl
  refine Call_ (ld_blt I hg2 hm2 boot_set ?_)
  refine PyProof.Rows.callWith_type1 (PyProof.Rows.args_cons (thn (ha.run pins s σ H _ I h) fun v s1 hx => PyProof.Rows.args_nil ?_) na) na rfl
  obtain ⟨x, H1, I1, r1, l, ns, rfl, hq, hl, q1⟩ := hx
  cases r1
  obtain ⟨its, r, pl, hz⟩ := I1.tuple hq
  refine call_set_tupI (w := X.w) ns (I1.ok.hd hc) pl (by simpa using RZ.intsAre_vals r) (by unfold scanBound; omega) fun h' tk c hS hcn hk => ?_
  have I2 := I1.kept (h' := h') (t' := tk) hk
  refine PyProof.Rows.args_nil ?_
  obtain ⟨o, es, ep, t, ho, hex, hd, _, hnd, hmem, hsb, hf, hn, _⟩ := hS
  have hsz : (es.size : Int) < 2 ^ 63 := by
    have h9 : scanBound ≤ 2 ^ 62 := by decide
    omega
  refine call_len_set ho hex hd hf hsz ⟨.int es.size, H1, I2.tok _, ⟨_, rfl⟩, ?_⟩
  refine q1 es.size ⟨es.toList.map keyOf, hnd, fun k => ?_, by simp⟩
  rw [← hmem k]
  exact decide_eq_true_iff
end
end HM


namespace HM
open PySem PySem.Spec PyProof.Rows L2
/-! ### a def's promise under a condition gd on what runs around it -/
def noRepr (A : Around) : Prop := A.guards = some []
def anyA (_ : Around) : Prop := True
structure PFn (gd : Around → Prop) (P : Program) (w : World) (K : PySem.W.Frag) (mg : Str → Option Value) (base : Heap) (CX : CXT) (k : Nat) (f : Addr) (fd : FuncData) (ps : List Str) (sp : Sp) : Prop where
  len : ∀ vs H Q E, sp vs H Q E → vs.length = ps.length
  go : ∀ (A : Around) (out : List Env) (s : Shared) (H : Hp) (args : Args) (us : List Value) (vs : List V) (Q : VK) (E : XK), gd A → Room k A → Env0 P w K mg base A out s H → BindsTo s fd args (ps.zip us) → Vals vs us → sp vs H Q E →
    codeAny (model P w) A (.call (.ref f) args) (CR CX out P w H s Q E) s
section
variable {P : Program} {w : World} {K : PySem.W.Frag} {mg : Str → Option Value} {base : Heap}
theorem PFn.ok {CX : CXT} {k : Nat} {f : Addr} {fd : FuncData} {ps : List Str} {sp : Sp} (G : PFn anyA P w K mg base CX k f fd ps sp) : FnOk P w K mg base CX k f fd ps sp := ⟨G.len, fun A out s H args us vs Q E => G.go A out s H args us vs Q E trivial⟩
theorem PFn.of_ok {gd : Around → Prop} {CX : CXT} {k : Nat} {f : Addr} {fd : FuncData} {ps : List Str} {sp : Sp} (G : FnOk P w K mg base CX k f fd ps sp) : PFn gd P w K mg base CX k f fd ps sp := ⟨G.len, fun A out s H args us vs Q E _ => G.run A out s H args us vs Q E⟩
/-- by the body; fd.code is the running code object -/
theorem pfn_of {gd : Around → Prop} {x qual : Str} {st : Stmt} {f : Addr} {fd : FuncData} {N ps : List Str} {k : Nat} {sp : Sp} (F : Fun K x qual st f fd) (S : FnScope N ps (defScope st)) (len : ∀ vs H Q E, sp vs H Q E → vs.length = ps.length)
    (body : ∀ (cdv : Value) (A : Around) (out : List Env) (s : Shared) (H : Hp) (vs : List V) (Q : VK) (E : XK), fd.code = cdv → gd A → Room k (A.deeper (envOfC qual (defScope st) s.heap.objs.size f cdv)) → sp vs H Q E →
      ∃ t, PSs (cxOf CX0 P w K mg base N qual (defScope st) f cdv A out s H E).nox (defBody st) t ∧ t { nx := fun _ H' => Q .non H', rt := Q } (start N vs) H) : PFn gd P w K mg base CX0 (k + 1) f fd ps sp := by
  obtain ⟨oc, od, kV, doc, pm, an, cdv, ct, osl, rfl, lk, hcd⟩ := F.ex
  refine ⟨len, fun A out s H args us vs Q E hgd hr e0 hb r hsp => ?_⟩
  have M := mod_up e0.mod (fun b o e => (e0.bs b o e).1 : Grows base s.heap)
  have kinds : ∀ y ∈ ps.zip us, (defScope st).names.lookup y.1 = some .local ∨ ((defScope st).names.lookup y.1 = some .cell ∧ ((cellsFrom (s.heap.objs.size + 1) (defScope st).names []).lookup y.1).isSome = true) := by
    intro y hy
    rcases S.par y.1 (List.of_mem_zip (show (y.1, y.2) ∈ ps.zip us from hy)).1 with q | q
    · exact .inl q
    · exact .inr ⟨q, PySem.W.cellsFrom_some _ _ _ (.inl q)⟩
  refine codeAny_call_function hr.depth (M.kin _ _ lk) rfl S.co S.gen rfl (PySem.W.codeRec_of M.kin hcd) (hb _ _ _ _ ?_)
  refine wpAny_newFunctionEnv_cells S.kind kinds fun env he s1 x => ?_
  subst he
  obtain ⟨t, ht, hq⟩ := body cdv A out s H vs Q E rfl hgd (hr.deeper _) hsp
  refine ⟨M.nolimit.keeps x.toInCall.keep, codeAny_func (wpAny_mono (ht.nox.run [] s1 (start N vs) H _ (inv_start S hr.hd e0 (len _ _ _ _ hsp) r x) hq) (fun fl s' hs => ?_) fun e s' hs => hs)⟩
  cases fl with
  | ret u =>
    obtain ⟨v, σ', H', J, rv, q⟩ := hs
    exact ⟨v, H', J.os, J.bare, J.base, J.hok, rv, q⟩
  | next =>
    obtain ⟨σ', H', J, q⟩ := hs
    exact ⟨.non, H', J.os, J.bare, J.base, J.hok, rfl, q⟩
  | brk =>
    obtain ⟨_, _, _, q⟩ := hs
    exact q.elim
  | cont =>
    obtain ⟨_, _, _, q⟩ := hs
    exact q.elim
end
/-- f(e, ..) by such a promise -/
theorem pe_callP {X : Cx} {gd : Around → Prop} {CX : CXT} {k : Nat} {f : Addr} {fd : FuncData} {ps : List Str} {sp : Sp} {E : XK} {x : Str} {p pos : Pos} {e : Expr} {es : List Expr} {t : TA} (G : PFn gd X.prog X.w X.K X.mg X.base CX k f fd ps sp) (hgd : gd X.A) (hr : Room k X.A) (hg : Gl X x) (hm : X.mg x = some (.ref f))
    (hk : PySem.W.keepIn X.K (.ref f) = true) (hb : Binds X.K fd ps []) (hx : Passes CX X E) (ha : PA X (e :: es) t) (hdb : (x == ("__debug__" : Str)) = false := by decide)
    (he : starEach (e :: es) X.env = (false, eval e X.env) :: starEach es X.env := by rfl) (hpl : (backTo pos (starEach es X.env)).any (·.1) = false := by rfl) : PE X (.Call (.Name x p) (e :: es) [] pos) (tCall sp [] E t) := by
  refine ⟨fun pins s σ H Q I h => ?_⟩
  refine wpAny_Call_Name_kw (ld_glob I hg hm ?_ hdb)
  refine PySem.W.callWith_K (h₀ := X.base) I.ok.mod.kin hk (thn (ha.run pos pins s σ H _ I h) fun us s1 hus => ?_) he hpl
  obtain ⟨vs, H1, I1, r, q⟩ := hus
  refine ⟨I1.kIn, ?_⟩
  rw [List.append_nil] at q
  have hl : us.length = ps.length := by rw [← r.length]; exact G.len _ _ _ _ q
  have hbs := hb s1 us I1.kIn (by rw [List.append_nil]; exact hl)
  rw [List.append_nil] at hbs
  refine wpAny_call (codeAny_mono (G.go X.A X.stack s1 H1 ⟨us, []⟩ us vs Q E hgd hr I1.env0 hbs r q) fun r s' hq => ?_)
  match r, hq with
  | .error e, hq => exact hx pins σ H1 s1 e s' I1 hq
  | .ok (.ret u), hq => exact I1.after hq
  | .ok .next, hq => exact hq.elim
  | .ok .brk, hq => exact hq.elim
  | .ok .cont, hq => exact hq.elim
/-! ### repr -/
theorem reads_ints {P : Program} {w : World} {h : Heap} : ∀ (ps : List (Int × Int)) (vs : List (Key × Value)) (es : List DictEntry), KV (ps.map fun p => ((Sum.inl p.1 : Key), V.int p.2)) vs → Pairs (mixKind P w) es vs →
    ReadsAll h (es.map (·.key)) (ps.map fun p => .int p.1) [] ∧ ReadsAll h (es.map (·.val)) (ps.map fun p => .int p.2) []
  | [], _, _, .nil, .nil => ⟨.nil, .nil⟩
  | p :: ps, _, _, .cons a r, .cons k v t => by
    obtain ⟨h1, h2⟩ := reads_ints ps _ _ r t
    obtain ⟨e1, e2⟩ := a
    obtain ⟨t2, e3⟩ := (show ∃ t, _ = Value.int p.2 t from e2)
    rw [← e1] at k
    obtain ⟨t1, e4⟩ := Value.isInt_shape (show Value.isInt p.1 _ = true from k)
    rw [List.map_cons, List.map_cons, List.map_cons, List.map_cons, e4, v, e3]
    exact ⟨.cons (as := []) (bs := []) (.int _ _) h1, .cons (as := []) (bs := []) (.int _ _) h2⟩
/-- what repr may be asked of -/
inductive RP (K : PySem.W.Frag) (H : Hp) : V → PyData → Prop
  | flat {x : V} {d : PyData} (h : Dp K H x d) (n : d.hasDict = false) : RP K H x d
  | dict {a : Addr} (ps : List (Int × Int)) (h : H a = some (.dK (ps.map fun p => ((Sum.inl p.1 : Key), V.int p.2)))) : RP K H (.ref a) (.dict (ps.map fun p => (.int p.1, .int p.2)))
section
variable {X : Cx} {pins : List (Addr × Obj)} {σ : L2.St} {H : Hp} {s : Shared}
theorem RP.reads {x : V} {u : Value} {d : PyData} (h : RP X.K H x d) (I : Inv X pins σ H s) (r : RelV x u) : ∃ as, Reads s.heap u d as ∧ (d.hasDict = true → sysModules ∉ as) := by
  cases h with
  | flat h n =>
    obtain ⟨as, q⟩ := Dp.reads I d x u h r
    exact ⟨as, q, PyData.noDict_hsm n⟩
  | @dict a ps h =>
    cases (show u = Value.ref a from r)
    obtain ⟨_, hne, vs, hkv, o, es, ep, h1, h2, h3, _, hp, _⟩ := (show ObjOk X.prog X.w H s.heap a (.dK _) from I.hok a _ h)
    obtain ⟨q1, q2⟩ := reads_ints (h := s.heap) ps vs es.toList hkv hp
    refine ⟨_, Reads.dict h1 h2.1 h3 (kvs := ps.map fun p => (.int p.1, .int p.2)) (by rw [List.map_map]; exact q1) (by rw [List.map_map]; exact q2), fun _ hm => ?_⟩
    have z : sysModules = a := by simpa using hm
    rw [z] at hne
    simp at hne
def rRepr (K : PySem.W.Frag) : List V → Hp → VK → Prop := fun xs H Q => ∃ (x : V) (d : PyData), xs = [x] ∧ RP K H x d ∧ d.showable = true ∧ d.depth ≤ 40 ∧ d.shown.length ≤ sizeLine ∧ Q (.str d.shown) H
theorem call_reprD {k : Nat} (hg : X.A.guards = some []) (hr : Room k X.A) : CallR X (.builtin "repr") (rRepr X.K) := by
  intro pins s σ H xs us Q I r h
  obtain ⟨x, d, rfl, hp, hs, hd, hz, q⟩ := h
  cases r with
  | cons r1 r2 =>
    cases r2
    rename_i u
    obtain ⟨as, hrd, hsm⟩ := hp.reads I r1
    have hu := hr.units
    cases hrd with
    | none => exact PySem.P.repr_of_none ⟨.str _, H, I.tok _, ⟨_, rfl⟩, q⟩
    | bool b => exact PySem.P.repr_of_bool ⟨.str _, H, I.tok _, ⟨_, rfl⟩, q⟩
    | int i t => exact PySem.P.repr_of_int (by simpa [PyData.showable] using hs) ⟨.str _, H, I.tok _, ⟨_, rfl⟩, q⟩
    | str y t => exact PySem.P.repr_of_str ⟨.str _, H, I.tok _, ⟨_, rfl⟩, q⟩ hz
    | list h1 h2 h3 h4 => exact repr_of_reads' (Reads.list h1 h2 h3 h4) hs hsm hg (by omega) (fun _ _ e => e) (fun h' u tk hk => ⟨.str _, H, I.kept hk, ⟨_, rfl⟩, q⟩) hz
    | tuple h1 h2 h3 h4 => exact repr_of_reads' (Reads.tuple h1 h2 h3 h4) hs hsm hg (by omega) (fun _ _ e => e) (fun h' u tk hk => ⟨.str _, H, I.kept hk, ⟨_, rfl⟩, q⟩) hz
    | dict h1 h2 h3 h4 h5 => exact repr_of_reads' (Reads.dict h1 h2 h3 h4 h5) hs hsm hg (by omega) (fun _ _ e => e) (fun h' u tk hk => ⟨.str _, H, I.kept hk, ⟨_, rfl⟩, q⟩) hz
/-- str(x), x a list, a tuple -/
theorem call_strD {k : Nat} (hg : X.A.guards = some []) (hr : Room k X.A) : CallR X (.type "str") (fun xs H Q => ∃ (a : Addr) (d : PyData), xs = [.ref a] ∧ RP X.K H (.ref a) d ∧ d.showable = true ∧ d.depth ≤ 40 ∧ d.shown.length ≤ sizeLine ∧ Q (.str d.shown) H) := by
  intro pins s σ H xs us Q I r h
  obtain ⟨a, d, rfl, hp, hs, hd, hz, q⟩ := h
  cases r with
  | cons r1 r2 =>
    cases r2
    cases (show _ = Value.ref a from r1)
    obtain ⟨as, hrd, hsm⟩ := hp.reads I r1
    have hu := hr.units
    exact str_of_reads hrd hs hsm hg (by omega) (fun _ _ e => e) (fun h' u tk hk => ⟨.str _, H, I.kept hk, ⟨_, rfl⟩, q⟩) hz
end
end HM


namespace HM
open PySem PySem.Spec PyProof.Rows L2
/-! ### the end of a law whose defs hold generator expressions and ask repr -/
abbrev tabObj : Obj := { cls := .none, data := .fields #[] }
abbrev scrObj (vs : List Value) : Obj := { cls := .type "list", data := .seq vs.toArray }
/-- the tables ts; the script, where it is none of the written part -/
def H0 (K : PySem.W.Frag) (ts : List Addr) (a : Addr) (vs : List Value) (ns : List Int) : Hp := fun b =>
  if b ∈ ts then some (.tbl #[]) else if b = a ∧ K.lookup a = none then some (.frz (scrObj vs) (.lst (ns.map V.int))) else none
theorem H0_tab {K : PySem.W.Frag} {ts : List Addr} {a b : Addr} {vs : List Value} {ns : List Int} (h : b ∈ ts) : H0 K ts a vs ns b = some (.tbl #[]) := if_pos h
theorem H0_scr {K : PySem.W.Frag} {ts : List Addr} {a : Addr} {vs : List Value} {ns : List Int} (h : a ∉ ts) (k : K.lookup a = none) : H0 K ts a vs ns a = some (.frz (scrObj vs) (.lst (ns.map V.int))) := (if_neg h).trans (if_pos ⟨rfl, k⟩)
theorem H0_cases {K : PySem.W.Frag} {ts : List Addr} {a b : Addr} {vs : List Value} {ns : List Int} {u : HO} (h : H0 K ts a vs ns b = some u) : (b ∈ ts ∧ u = .tbl #[]) ∨ (b = a ∧ K.lookup a = none ∧ u = .frz (scrObj vs) (.lst (ns.map V.int))) := by
  unfold H0 at h
  by_cases h1 : b ∈ ts
  · rw [if_pos h1] at h
    exact .inl ⟨h1, (Option.some.inj h).symm⟩
  · rw [if_neg h1] at h
    by_cases h2 : b = a ∧ K.lookup a = none
    · rw [if_pos h2] at h
      exact .inr ⟨h2.1, h2.2, (Option.some.inj h).symm⟩
    · rw [if_neg h2] at h
      cases h
theorem H0_none {K : PySem.W.Frag} {ts : List Addr} {a b : Addr} {vs : List Value} {ns : List Int} (h1 : b ∉ ts) (h2 : b = a → K.lookup a ≠ none) : H0 K ts a vs ns b = none := by
  unfold H0
  rw [if_neg h1, if_neg fun z => h2 z.1 z.2]
/-- the script: locked, or of the written part -/
def Scr (K : PySem.W.Frag) (H : Hp) (a : Addr) (ns : List Int) : Prop := (∃ ob, H a = some (.frz ob (.lst (ns.map V.int)))) ∨
  ∃ (o : Obj) (its : Array Value) (n : Nat), K.lookup a = some o ∧ o.cls = .type "list" ∧ o.dict = none ∧ o.data = .seq its n ∧ its.size ≤ sizeLine ∧ Vals (ns.map V.int) its.toList
theorem Scr.sq {K : PySem.W.Frag} {H : Hp} {a : Addr} {ns : List Int} (h : Scr K H a ns) : SqL K H a (ns.map V.int) := by
  rcases h with h | h
  · exact .inl (.inr h)
  · exact .inr h
/-- it stays while nothing locked is lost -/
theorem Scr.up {K : PySem.W.Frag} {H H' : Hp} {a : Addr} {ns : List Int} (h : Scr K H a ns) (k : ∀ b ob u, H b = some (.frz ob u) → H' b = some (.frz ob u)) : Scr K H' a ns := by
  rcases h with ⟨ob, h⟩ | h
  · exact .inl ⟨ob, k _ _ _ h⟩
  · exact .inr h
theorem end_go {P : Program} {w : World} {K : PySem.W.Frag} {mg mb : Str → Option Value} {k : Nat} {fa a : Addr} {cs : List (Addr × Addr)} {fd : FuncData} {x : Str} {sp : Sp} {s₁ : Shared} {vs : List Value} {ns : List Int}
    (KX : K.In s₁.heap) (hns : s₁.heap.Ns mainGlobals mg) (hb : s₁.heap.Ns builtinsNs mb) (hbb : ∀ y : Str, y ≠ "__name__" → mb y = bootBuiltins y) (hlim : s₁.heap.NoLimit) (hg : s₁.gens = #[])
    (hT : ∀ p ∈ cs, s₁.heap.get? p.2 = some tabObj) (nT : ∀ p ∈ cs, K.lookup p.2 = none) (hC : ∀ p ∈ cs, PySem.W.CodeHd s₁.heap p.1 p.2)
    (hbm : ∃ (bm : Addr) (ob : Obj), mg "__builtins__" = some (.ref bm) ∧ bm ≠ builtinsNs ∧ s₁.heap.get? bm = some ob ∧ ob.cls = .type "module" ∧ ob.dict = some builtinsNs ∧ ob.data = .plain)
    (ha : s₁.heap.get? a = some (scrObj vs)) (hi : IntsAre vs ns) (hl : ns.length ≤ sizeLine) (hr : Room k callerA)
    (F : ∀ base : Heap, K.In base → base.Ns mainGlobals mg → (∀ p ∈ cs, GxR.TabB base mg p.1 p.2) → PFn noRepr P w K mg base CX0 k fa fd [x] sp) (hbind : ∀ (s : Shared) (u : Value), BindsTo s fd ⟨[u], []⟩ [(x, u)])
    (hsp : ∀ H : Hp, (∀ p ∈ cs, H p.2 = some (.tbl #[])) → Scr K H a ns → sp [.ref a] H (fun v _ => v = .bl true) fun _ _ _ => False) :
    codeAny (model P w) callerA (.call (.ref fa) ⟨[.ref a], []⟩) (fun r s' => r = .ok (.ret (.bool true)) ∧ OldK s₁.heap s'.heap ∧ s'.os = s₁.os ∧ AllBare s'.gens) s₁ := by
  have isT : ∀ b ∈ cs.map (·.2), s₁.heap.get? b = some tabObj := fun b hb => by
    obtain ⟨p, hp, e⟩ := List.mem_map.mp hb
    exact e ▸ hT p hp
  have kT : ∀ b ∈ cs.map (·.2), K.lookup b = none := fun b hb => by
    obtain ⟨p, hp, e⟩ := List.mem_map.mp hb
    exact e ▸ nT p hp
  have inT : ∀ p ∈ cs, p.2 ∈ cs.map (·.2) := fun p hp => List.mem_map.mpr ⟨p, hp, rfl⟩
  have aT : a ∉ cs.map (·.2) := fun z => by
    have q := (isT a z).symm.trans ha
    cases q
  obtain ⟨H, eH⟩ : ∃ H : Hp, H = H0 K (cs.map (·.2)) a vs ns := ⟨_, rfl⟩
  -- what is neither a table nor the script is not tracked
  have free : ∀ (b : Addr) (o : Obj), s₁.heap.get? b = some o → o ≠ tabObj → o ≠ scrObj vs → H b = none := fun b o e n1 n2 => by
    rw [eH]
    refine H0_none (fun z => n1 ?_) fun z => absurd ?_ n2
    · exact Option.some.inj (e.symm.trans (isT b z))
    · rw [z] at e
      exact Option.some.inj (e.symm.trans ha)
  have freeK : ∀ (b : Addr) (o : Obj), K.lookup b = some o → H b = none := fun b o e => by
    rw [eH]
    refine H0_none (fun z => ?_) fun z h => ?_
    · rw [kT b z] at e
      cases e
    · rw [z, h] at e
      cases e
  have hok : HOk P w H s₁.heap := fun b u e => by
    rw [eH] at e
    rcases H0_cases e with ⟨h1, rfl⟩ | ⟨rfl, h2, rfl⟩
    · exact isT b h1
    · exact ⟨ha, by rw [List.length_map]; exact hl, vs, _, vals_ints hi, ha⟩
  have hS : Scr K H a ns := by
    cases hk : K.lookup a with
    | none =>
      rw [eH]
      exact .inl ⟨_, H0_scr aT hk⟩
    | some o =>
      have e := (KX a o hk).symm.trans ha
      cases e
      exact .inr ⟨_, vs.toArray, _, hk, rfl, rfl, rfl, by rw [List.size_toArray, hi.length]; exact hl, by simpa using vals_ints hi⟩
  have nsB : ∀ {b : Addr} {m : Str → Option Value}, s₁.heap.Ns b m → (hidT s₁.heap H).Ns b m := fun {b m} h => by
    obtain ⟨o, es, ep, e, d, r⟩ := h
    refine ⟨o, es, ep, hidT_get e (free b o e (fun z => ?_) fun z => ?_), d, r⟩
    · rw [z] at d
      cases d
    · rw [z] at d
      cases d
  have kB : K.In (hidT s₁.heap H) := fun b o e => hidT_get (KX b o e) (freeK b o e)
  have modB : L2.Mod K mg (hidT s₁.heap H) := ⟨kB, nsB hns, ⟨mb, nsB hb, hbb⟩, let ⟨mc, h1, h2⟩ := hlim; ⟨mc, nsB h1, h2⟩⟩
  have tabB : ∀ p ∈ cs, GxR.TabB (hidT s₁.heap H) mg p.1 p.2 := fun p hp => by
    refine ⟨?_, ?_, fun z => ?_⟩
    · obtain ⟨o, us, file, tf, flags, tg, inF, text, tt, e1, c1, d1, r3, r⟩ := hC p hp
      refine ⟨o, us, file, tf, flags, tg, inF, text, tt, hidT_get e1 (free _ o e1 (fun z => ?_) fun z => ?_), c1, d1, r3, r⟩
      · rw [z] at c1
        cases c1
      · rw [z] at c1
        injection (show Value.type "list" = Value.type "code" from c1) with c2
        exact absurd c2 (by decide)
    · obtain ⟨bm, ob, b1, b2, b3, b4, b5, b6⟩ := hbm
      refine ⟨bm, ob, b1, b2, fun q => ?_, fun q => ?_, hidT_get b3 (free bm ob b3 (fun z => ?_) fun z => ?_), b4, b5, b6⟩
      · obtain ⟨o, es, ep, e, d, _⟩ := hns
        rw [q, e] at b3
        cases b3
        rw [d] at b6
        cases b6
      · rw [q, hT p hp] at b3
        cases b3
        cases b6
      · rw [z] at b6
        cases b6
      · rw [z] at b6
        cases b6
    · obtain ⟨o, es, ep, e, d, _⟩ := hns
      rw [z, hT p hp] at e
      cases e
      cases d
  have e0 : Env0 P w K mg (hidT s₁.heap H) callerA [] s₁ H := ⟨rfl, modB, fun b o e => of_hidT e, Nat.le_of_eq (hidT_size _ _), trivial, fun b hb => absurd (show b ∈ ([] : List Addr) from hb) (by simp), hok, .of_eq hg⟩
  have tH : ∀ p ∈ cs, H p.2 = some (.tbl #[]) := fun p hp => by
    rw [eH]
    exact H0_tab (inT p hp)
  refine codeAny_mono ((F _ kB (nsB hns) tabB).go callerA [] s₁ H ⟨[.ref a], []⟩ [.ref a] [.ref a] _ _ rfl hr e0 (hbind s₁ (.ref a)) (.cons rfl .nil) (hsp H tH hS)) fun r s' h => ?_
  match r, h with
  | .error e, h => exact False.elim h
  | .ok .next, h => exact False.elim h
  | .ok .brk, h => exact False.elim h
  | .ok .cont, h => exact False.elim h
  | .ok (.ret u), h =>
    obtain ⟨v, H', os, bare, un, hok', r', q⟩ := h
    obtain rfl : v = .bl true := q
    obtain rfl : u = Value.bool true := r'
    have same : ∀ b o, b ∉ cs.map (·.2) → s₁.heap.get? b = some o → s'.heap.get? b = some o := fun b o nb e => by
      cases q : H b with
      | none => exact un.keep b o e q (fun z => absurd (show b ∈ ([] : List Addr) from z) (by simp)) (by simp)
      | some u =>
        have q2 := q
        rw [eH] at q2
        rcases H0_cases q2 with ⟨h1, _⟩ | ⟨_, _, rfl⟩
        · exact absurd h1 nb
        · have e1 := (hok b _ q).1
          have e2 := (hok' b _ (un.frzs b _ _ q)).1
          exact e2.trans (e1.symm.trans e)
    have grew : ∀ p ∈ cs, ∃ more : Array Value, s'.heap.get? p.2 = some { cls := .none, data := .fields more } := fun p hp => by
      obtain ⟨more, z⟩ := un.tbls p.2 #[] (tH p hp)
      exact ⟨_, hok' p.2 _ z⟩
    refine ⟨rfl, ⟨fun b o e => ?_, fun b o e => ?_⟩, os, bare⟩
    · by_cases hb : b ∈ cs.map (·.2)
      · obtain ⟨p, hp, rfl⟩ := List.mem_map.mp hb
        obtain ⟨more, hm⟩ := grew p hp
        obtain rfl : o = tabObj := Option.some.inj (e.symm.trans (hT p hp))
        exact .inr (.inl ⟨((hC p hp).tab (hT p hp)).isCodeTable, rfl, #[], more, rfl, by rw [Array.empty_append]; exact hm⟩)
      · exact .inl (same b o hb e)
    · by_cases hb : b ∈ cs.map (·.2)
      · obtain ⟨p, hp, rfl⟩ := List.mem_map.mp hb
        obtain ⟨more, hm⟩ := grew p hp
        exact ⟨_, hm⟩
      · exact ⟨o, same b o hb e⟩
/-- the table of the def called n: its code object's, empty as yet -/
def TabOf (mg : Str → Option Value) (h : Heap) (n : Str) (c Pt : Addr) : Prop := ∃ (f : Addr) (o : Obj) (fd : FuncData), mg n = some (.ref f) ∧ h.get? f = some o ∧ o.data = .func fd ∧ fd.code = .ref c ∧ PySem.W.CodeHd h c Pt ∧ h.get? Pt = some tabObj
theorem walk_G {l : PySem.W.OpenLaw} {n k : Nat} {q : Program} {loose : List Str} {XP : (Str → Option Value) → Heap → Prop} {YP : World → Heap → Prop} {d : DefRec} {K : Params → PySem.W.Frag} {x : Str} (gs : List Str)
    (hn : l.most = some n) (hn2 : n ≤ sizeLine) (hdf : d.params.defaults = []) (hr : Room k callerA) (hrec : ∀ g ∈ gs, ((recsOf q).any fun e => e.name == g) = true) (hY : ∀ (w : World) (h : Heap), YP w h → (K w.params).In h)
    (F : ∀ (w : World) (mg : Str → Option Value) (fa : Addr) (h : Heap), YP w h → (K w.params).In h → h.Ns mainGlobals mg → mg d.name = some (.ref fa) → (∀ g ∈ gs, ∃ c Pt, TabOf mg h g c Pt) →
      ∃ (fd : FuncData) (cs : List (Addr × Addr)) (sp : Sp), (∀ p ∈ cs, h.get? p.2 = some tabObj) ∧ (∀ p ∈ cs, (K w.params).lookup p.2 = none) ∧ (∀ p ∈ cs, PySem.W.CodeHd h p.1 p.2) ∧ (∀ (s : Shared) (u : Value), BindsTo s fd ⟨[u], []⟩ [(x, u)]) ∧
        (∀ (H : Hp) (a : Addr) (ns : List Int), ns.length ≤ n → (∀ z ∈ ns, Builtin.Int.intBits z ≤ 1048576) → (∀ p ∈ cs, H p.2 = some (.tbl #[])) → Scr (K w.params) H a ns → sp [.ref a] H (fun v _ => v = .bl true) fun _ _ _ => False) ∧
        ∀ base : Heap, (K w.params).In base → base.Ns mainGlobals mg → (∀ p ∈ cs, GxR.TabB base mg p.1 p.2) → PFn noRepr l.prog w (K w.params) mg base CX0 k fa fd [x] sp) :
    PySem.W.WalkO q loose XP YP l.row.toRowW d [] (fun f vs => PySem.call f vs) := by
  refine Att.attach_callB hn hdf fun w s₀ s₁ mg mb fa o pm cd doc a vs ns G Y ho hd hcd hmg hobj hints hlen hbits hg => ?_
  have KX := hY w _ Y
  have tabs : ∀ g ∈ gs, ∃ c Pt, TabOf mg s₁.heap g c Pt := fun g hgm => by
    obtain ⟨dL, hm, hn1⟩ := List.any_eq_true.mp (hrec g hgm)
    obtain ⟨f, o', fd', c, Pt, h1, h2, h3, h4, h5, h6⟩ := G.T.tab dL hm
    rw [beq_iff_eq.mp hn1] at h1
    exact ⟨c, Pt, f, o', fd', h1, h2, h3, h4, PySem.W.CodeHd.of h5 h6, h6.2⟩
  obtain ⟨fd, cs, sp, hT, nT, hC, hb, hsp, hF⟩ := F w mg fa _ Y KX G.T.g hmg tabs
  exact end_go KX G.T.g G.T.b G.T.builtins G.T.nolimit hg hT nT hC G.T.bmain hobj hints (Nat.le_trans hlen hn2) hr hF hb fun H hH hS => hsp H a ns hlen hbits hH hS
end HM


namespace HM
open PySem PySem.Spec PyProof.Rows L2
/-! ### the pen of a law: its script, where it stands, what is left of a number -/
def pk (a : Addr) (t l : Int) : List (Key × V) := [(.inr "script", .ref a), (.inr "at", .int t), (.inr "left", .int l)]
theorem pk_script (a : Addr) (t l : Int) : valV (pk a t l) (.inr "script") = some (.ref a) := rfl
theorem pk_at (a : Addr) (t l : Int) : valV (pk a t l) (.inr "at") = some (.int t) := by
  have h : ¬ (Sum.inr ("script" : Str) : Key) = Sum.inr ("at" : Str) := by decide +kernel
  unfold valV pk
  rw [List.find?_cons_of_neg (by simpa using h), List.find?_cons_of_pos (by simp)]
  rfl
theorem pk_left (a : Addr) (t l : Int) : valV (pk a t l) (.inr "left") = some (.int l) := by
  have h1 : ¬ (Sum.inr ("script" : Str) : Key) = Sum.inr ("left" : Str) := by decide +kernel
  have h2 : ¬ (Sum.inr ("at" : Str) : Key) = Sum.inr ("left" : Str) := by decide +kernel
  unfold valV pk
  rw [List.find?_cons_of_neg (by simpa using h1), List.find?_cons_of_neg (by simpa using h2), List.find?_cons_of_pos (by simp)]
  rfl
theorem pk_put_at (a : Addr) (t l t' : Int) : putK (pk a t l) (.inr "at") (.int t') = pk a t' l := by
  have h1 : ¬ (Sum.inr ("script" : Str) : Key) = Sum.inr ("at" : Str) := by decide +kernel
  have h2 : ¬ (Sum.inr ("left" : Str) : Key) = Sum.inr ("at" : Str) := by decide +kernel
  unfold putK pk
  simp [h1, h2]
theorem pk_put_left (a : Addr) (t l l' : Int) : putK (pk a t l) (.inr "left") (.int l') = pk a t l' := by
  have h1 : ¬ (Sum.inr ("script" : Str) : Key) = Sum.inr ("left" : Str) := by decide +kernel
  have h2 : ¬ (Sum.inr ("at" : Str) : Key) = Sum.inr ("left" : Str) := by decide +kernel
  unfold putK pk
  simp [h1, h2]
theorem pk_merge (a : Addr) (t l : Int) : mergeK [] (pk a t l) = pk a t l := by
  have h1 : ¬ (Sum.inr ("script" : Str) : Key) = Sum.inr ("at" : Str) := by decide +kernel
  have h2 : ¬ (Sum.inr ("script" : Str) : Key) = Sum.inr ("left" : Str) := by decide +kernel
  have h3 : ¬ (Sum.inr ("at" : Str) : Key) = Sum.inr ("left" : Str) := by decide +kernel
  unfold mergeK pk
  simp [putK, h1, h2, h3]
def isPen (K : PySem.W.Frag) (H : Hp) (p : Addr) (t : Int) : Prop := ∃ (a : Addr) (ns : List Int) (l : Int), H p = some (.dK (pk a t l)) ∧ Scr K H a ns ∧ ns.length ≤ 63 ∧ 0 ≤ t ∧ 0 ≤ l
/-- only what stands at p has changed -/
def But (p : Addr) (H H' : Hp) : Prop := ∀ b, b ≠ p → H' b = H b
end HM


namespace HM
open PySem PySem.Spec PyProof.Rows L2
/-! ### tuples whose object is known: they have no dict of their own, so that their methods can be asked for -/
def TF (H : Hp) (a : Addr) (xs : List V) : Prop := ∃ o : Obj, o.dict = none ∧ H a = some (.frz o (.tup xs))
theorem TF.sq {K : PySem.W.Frag} {H : Hp} {a : Addr} {xs : List V} (h : TF H a xs) : SqT K H a xs := let ⟨o, _, e⟩ := h; .inl (.inr ⟨o, e⟩)
/-- a new tuple of xs -/
def newT (xs : List V) (H : Hp) (Q : VK) : Prop := ∀ (p : Addr) (o : Obj), H p = none → o.dict = none → Q (.ref p) (upd H p (.frz o (.tup xs)))
section
variable {X : Cx} {pins : List (Addr × Obj)} {σ : L2.St} {H : Hp} {s : Shared}
theorem laidF {h' : Heap} {a : Addr} {its : List Value} {xs : List V} {t' : Nat} {Q : VK} (I : Inv X pins σ H s) (k : Grows s.heap h') (hp : s.heap.objs.size ≤ a) (hz : xs.length ≤ sizeLine) (r : Vals xs its) (e : h'.get? a = some { cls := .type "tuple", data := .seq its.toArray }) (q : newT xs H Q) :
    EP X pins σ Q (.ref a) { s with heap := h', toks := t' } :=
  ⟨.ref a, upd H a (.frz { cls := .type "tuple", data := .seq its.toArray } (.tup xs)), I.laid k hp ⟨e, hz, its, r, ⟨_, e, rfl, _, rfl⟩⟩, rfl, q a _ (I.hok.fresh hp) rfl⟩
/-- (a, b, ..) -/
def tTupF (t : TA) : TE := fun σ H Q => t σ H fun xs H1 => xs.length ≤ sizeLine ∧ newT xs H1 Q
theorem pe_tupF {x1 : Nat} {es : List Expr} {t : TA} {pos : Pos} (h : PA X es t) : PE X (.Tuple es x1 pos) (tTupF t) := by
  refine ⟨fun pins s σ H Q I hq => ?_⟩
  refine wpAny_Tuple_spliced (thn (h.run pos pins s σ H _ I hq) fun us s1 hx => ?_)
  obtain ⟨xs, H1, I1, r, z, q⟩ := hx
  exact ⟨by rw [← r.length]; exact z, laidF (t' := s1.toks) I1 (fun b u e => Heap.get?_push_of_some _ e) (Nat.le_refl _) z r (Heap.get?_push_size _ rfl) q⟩
/-- tuple(list) -/
def tTupOfF (K : PySem.W.Frag) (ta : TE) : TE := fun σ H Q => ta σ H fun x H1 => ∃ p xs, x = .ref p ∧ SqL K H1 p xs ∧ newT xs H1 Q
theorem pe_tupOfF {p pos : Pos} {a : Expr} {ta : TE} (hg : Gl X "tuple") (hm : X.mg "tuple" = none) (ha : PE X a ta) (na : starEach [a] X.env = (false, eval a X.env) :: starEach [] X.env := by rfl) : PE X (.Call (.Name "tuple" p) [a] [] pos) (tTupOfF X.K ta) := by
  refine ⟨fun pins s σ H Q I h => ?_⟩
  refine Call_ (ld_blt I hg hm boot_tuple (PyProof.Rows.callWith_type1 (one_arg ha I h (fun v s2 x H2 I2 r q => ?_) na) na))
  obtain ⟨b, xs, rfl, hs, q⟩ := q
  obtain rfl : v = .ref b := r
  obtain ⟨its, rv, pl, hz⟩ := I2.list hs
  refine call_tuple_list pl.isList (fun h' hk => ?_) (by rw [List.size_toArray, ← rv.length]; exact hz)
  have I3 : Inv X pins σ H2 { s2 with heap := h' } := I2.kept (t' := s2.toks) hk
  exact laidF (s := { s2 with heap := h' }) (t' := s2.toks) I3 (fun b u e => Heap.get?_push_of_some _ e) (Nat.le_refl _) hz rv (Heap.get?_push_size _ rfl) q
/-- tuple(range(..)) -/
def tTupRgF (te : L2.St → Hp → (Int → Int → Hp → Prop) → Prop) : TE := fun σ H Q => te σ H fun a b H1 => RgOk a b ∧ newT (rgV a b) H1 Q
theorem pe_tupRgF {p pos : Pos} {e : Expr} {te : L2.St → Hp → (Int → Int → Hp → Prop) → Prop} (hc : X.calm = true) (hg : Gl X "tuple") (hm : X.mg "tuple" = none) (he : PRg X e te) (na : starEach [e] X.env = (false, eval e X.env) :: starEach [] X.env := by rfl) :
    PE X (.Call (.Name "tuple" p) [e] [] pos) (tTupRgF te) := by
  refine ⟨fun pins s σ H Q I h => ?_⟩
  refine Call_ (ld_blt I hg hm boot_tuple (PyProof.Rows.callWith_type1 (PyProof.Rows.args_cons (thn (he pins s σ H _ I h) fun x s1 hx => PyProof.Rows.args_nil ?_) na) na))
  obtain ⟨r, a, b, t, u, v, H1, ex, hr, I1, ok, q⟩ := hx
  subst ex
  obtain ⟨b1, b2, b3, b4, b5⟩ := ok
  refine call_tuple_range (n := (b - a).toNat) (I1.ok.hd hc) hr (small_one b1 b2 b3 b4) (rangeSize_nat a b) b5 fun h' tk acc hk hi => ?_
  have I2 : Inv X pins σ H1 { s1 with heap := h', toks := tk } := I1.kept hk
  exact laidF (s := { s1 with heap := h', toks := tk }) (t' := tk) (its := acc.toList) I2 (fun b u e => Heap.get?_push_of_some _ e) (Nat.le_refl _) (by rw [rgV_length, sizeLine_eq]; omega) (vals_rg hi) (by rw [Array.toArray_toList]; exact Heap.get?_push_size _ rfl) q
/-- t + u -/
def rCatF (K : PySem.W.Frag) : R2 := fun x y H Q => ∃ a b xs ys, x = .ref a ∧ y = .ref b ∧ SqT K H a xs ∧ SqT K H b ys ∧ xs.length + ys.length ≤ sizeLine ∧ (xs = [] → Q (.ref b) H) ∧ (xs ≠ [] → ys = [] → Q (.ref a) H) ∧ (xs ≠ [] → ys ≠ [] → newT (xs ++ ys) H Q)
theorem op_catF : OpR X (binaryOp .Add) (rCatF X.K) := by
  intro pins s σ H x y v u Q I rx ry h
  obtain ⟨a, b, xs, ys, rfl, rfl, ha, hb, hz, q0, q1, q2⟩ := h
  cases rx
  cases ry
  obtain ⟨its, r1, p1, _⟩ := I.tuple ha
  obtain ⟨its2, r2, p2, _⟩ := I.tuple hb
  by_cases hx : xs = []
  · subst hx
    cases r1
    exact cat_tup0 p1 p2 ⟨.ref b, H, I, rfl, q0 rfl⟩
  · refine HT.cat_tup p1 p2 (fun z => hx (r1.nil_iff.mp z)) (fun z => ⟨.ref a, H, I, rfl, q1 hx (r2.nil_iff.mp z)⟩) (fun z => ?_) (by rw [← r1.length, ← r2.length]; exact hz)
    exact laidF (t' := s.toks) I (fun b u e => Heap.get?_push_of_some _ e) (Nat.le_refl _) (by rw [List.length_append]; exact hz) (r1.append r2) (Heap.get?_push_size _ rfl) (q2 hx fun w => z (r2.nil_iff.mpr w))
/-- t[lo:hi] -/
def rSlF (K : PySem.W.Frag) : V → Option Int → Option Int → Hp → VK → Prop := fun x lo hi H Q => ∃ a xs, x = .ref a ∧ SqT K H a xs ∧
  (HT.sIx xs.length 0 lo = 0 ∧ HT.sIx xs.length xs.length hi = xs.length → Q (.ref a) H) ∧ (¬ (HT.sIx xs.length 0 lo = 0 ∧ HT.sIx xs.length xs.length hi = xs.length) → newT (cutV xs lo hi) H Q)
theorem sl_tupF : SlR X (rSlF X.K) := by
  intro pins s σ H x v vl vu lo hi sl Q I rx hs pl pu h
  obtain ⟨a, xs, rfl, hx, q1, q2⟩ := h
  cases rx
  obtain ⟨its, r, ht, hz⟩ := I.tuple hx
  have hlen : its.toArray.size = xs.length := by rw [List.size_toArray]; exact r.length.symm
  refine ⟨"tuple", _, PyProof.Rows.slot_tuple_getitem.lookup, ht.typeIs, ?_⟩
  by_cases hw : HT.sIx xs.length 0 lo = 0 ∧ HT.sIx xs.length xs.length hi = xs.length
  · exact getItem_tuple_whole ht hs pl pu (by rw [hlen]; exact hw) ⟨.ref a, H, I, rfl, q1 hw⟩
  · refine HT.getItem_tuple_cut ht hs pl pu (by rw [hlen]; exact hw) ?_ (by rw [hlen]; exact hz)
    rw [hlen]
    exact laidF (t' := s.toks) I (fun b u e => Heap.get?_push_of_some _ e) (Nat.le_refl _) (Nat.le_trans (cutV_length xs lo hi) hz) ((r.drop (HT.sIx xs.length 0 lo)).take (HT.sIx xs.length xs.length hi - HT.sIx xs.length 0 lo)) (Heap.get?_push_size _ rfl) (q2 hw)
/-- t.m(e, ..) -/
def tTM (r : V → List V → Hp → VK → Prop) (to : TE) (t : TA) : TE := fun σ H Q => to σ H fun x H1 => (∃ a xs, x = .ref a ∧ TF H1 a xs) ∧ t σ H1 fun ys H2 => r x ys H2 Q
theorem pe_tm {o e : Expr} {es : List Expr} {to : TE} {t : TA} {name : Str} {apos cpos : Pos} {id : String} {r : V → List V → Hp → VK → Prop} (slot : Slot "tuple" name id) (hty : typeOf (.builtin id) = pure (.type "method_descriptor")) (hm : MtR X id r) (ho : PE X o to) (ha : PA X (e :: es) t)
    (hbase : attributeBase o name X.env (eval o X.env) = eval o X.env := by rfl)
    (hfew : ((backTo cpos (starEach (e :: es) X.env)).all (fun x => !x.1) && (backToKw cpos (keywordEach [] X.env)).all (fun x => x.1.isSome) && decide ((e :: es).length + ([] : List Keyword).length + (if ([] : List Keyword).isEmpty then 0 else 1) < 30)) = true := by rfl)
    (hline : (apos.endLine == cpos.line) = true := by rfl) (hs : starEach (e :: es) X.env = (false, eval e X.env) :: starEach es X.env := by rfl) (hplain : (backTo cpos (starEach es X.env)).any (·.1) = false := by rfl) : PE X (.Call (.Attribute o name apos) (e :: es) [] cpos) (tTM r to t) := by
  refine ⟨fun pins s σ H Q I h => ?_⟩
  refine wpAny_Call_method_late hbase hfew hline rfl (thn (ho.run pins s σ H _ I h) fun v s1 hx => ?_)
  obtain ⟨x, H1, I1, r1, ⟨a, xs, rfl, ob, hd, hA⟩, q1⟩ := hx
  cases r1
  obtain ⟨g1, _, its, _, o2, g2, hc, _⟩ := (show ObjOk X.prog X.w H1 s1.heap a (.frz ob (.tup xs)) from I1.hok a _ hA)
  refine ⟨"tuple", id, PySem.F.plainAttrs_tuple, slot, hty, ⟨o2, g2, hc⟩, fun b z => ?_, ?_⟩
  · cases z
    exact ⟨ob, g1, hd⟩
  · have hp := ha.run cpos pins s1 σ H1 _ I1 q1
    rw [hs] at hp ⊢
    refine Calls.callWith_builtin (by show (false || (backTo cpos (starEach es X.env)).any (·.1)) = false; rw [hplain] <;> rfl) (Calls.evalArgs_plain (thn hp fun us s2 hy => ?_))
    obtain ⟨vs, H2, I2, r2, q2⟩ := hy
    exact hm pins s2 σ H2 (.ref a) vs (.ref a) us Q I2 rfl r2 q2
end
/-! ### t[::-1] -/
section
variable {prog : Program} {w : World} {A : Around} {E : Value → Shared → Prop} {s : Shared}
theorem pick_back (xs : Array Value) : ((List.range xs.size).filterMap fun (k : Nat) => xs[(((xs.size : Int) - 1) + (k : Int) * (-1)).toNat]?).toArray = xs.toList.reverse.toArray := by
  have e : (fun (k : Nat) => xs[(((xs.size : Int) - 1) + (k : Int) * (-1)).toNat]?) = fun k => xs[xs.size - 1 - k]? := by
    funext k
    have : (((xs.size : Int) - 1) + (k : Int) * (-1)).toNat = xs.size - 1 - k := by omega
    rw [this]
  have h := PySem.W.krv_range xs.size
  have h2 := congrArg (List.filterMap (xs[·]?)) h
  rw [List.filterMap_map, List.filterMap_reverse, PySem.W.krv_all] at h2
  rw [e]
  exact congrArg List.toArray h2
theorem getItem_tuple_back {t sl : Addr} {items : Array Value} {vl vu vk : Value} {Q : Value → Shared → Prop} (ht : IsTup s.heap t items) (hs : s.heap.IsSliceOf sl vl vu vk) (pl : IsPart vl none) (pu : IsPart vu none) (pk : IsPart vk (some (-1)))
    (h : Q (.ref s.heap.objs.size) { s with heap := s.heap.push { cls := .type "tuple", data := .seq items.toList.reverse.toArray } }) (hsz : items.size ≤ sizeLine) : wpAny (model prog w) A (getItem (.ref t) (.ref sl)) Q E s := by
  obtain ⟨os, hos, hcs, hds⟩ := _root_.id hs
  have hTs : s.TypeIs (.ref sl) "slice" := ⟨os, hos, hcs⟩
  have hfit : sizeOk (.seq items.toList.reverse.toArray) := by
    show items.toList.reverse.toArray.size ≤ sizeLine
    rw [List.size_toArray, List.length_reverse, Array.length_toList]
    exact hsz
  unfold getItem
  try with_reducible refine wpAny_holding ?_
  first | refine wpAny_bind (wpAny_pure ?_) | skip
  refine wpAny_bind (wpAny_sequenceKey ht.typeIs (by decide) ?_)
  refine wpAny_bind (wpAny_callSpecial?_slot (name := Str.ofString "__getitem__") ht.typeIs PyProof.Rows.slot_tuple_getitem (wpAny_call_entry PyProof.Rows.slot_tuple_getitem ht.typeIs entry_tuple_getitem ?_ (args_tuple_getitem _ _)))
  show wpAny _ _ (Builtin.Tuple.tupleItemsOf (.ref t) >>= _) _ _ s
  refine wpAny_bind (tupleItemsOf_ ht (wpAny_bind (wpAny_typeOf hTs ?_)))
  rw [if_pos (by decide)]
  have ap : ∀ {Q2 : Int × Int × Nat → Shared → Prop} {E2 : Value → Shared → Prop} {A2 : Around}, Q2 ((items.size : Int) - 1, -1, items.size) s → wpAny (model prog w) A2 (Builtin.Slice.sliceApplied (.ref sl) (pure (items.size : Int))) Q2 E2 s := fun {Q2 E2 A2} hq => by
    unfold Builtin.Slice.sliceApplied Builtin.Slice.sliceFields
    refine wpAny_bind (wpAny_bind (wpAny_field hos hds (x := vl) rfl (wpAny_bind (wpAny_field hos hds (x := vu) rfl (wpAny_bind (wpAny_field hos hds (x := vk) rfl (wpAny_pure ?_)))))))
    refine wpAny_bind (HT.slicePart_ pk ?_)
    show wpAny _ _ (if ((-1 : Int) == 0) = true then _ else _) _ _ s
    rw [if_neg (by decide)]
    refine wpAny_bind (HT.slicePart_ pl (wpAny_bind (HT.slicePart_ pu (wpAny_bind (wpAny_pure ?_)))))
    have ea : Builtin.Slice.sliceAdjust none none (-1) (items.size : Int) = ((items.size : Int) - 1, -1) := rfl
    have ep : Builtin.Slice.slicePlaces ((items.size : Int) - 1) (-1) (-1) = items.size := by
      unfold Builtin.Slice.slicePlaces
      have h1 : ¬ ((-1 : Int) > 0) := by decide
      rw [if_neg h1]
      by_cases h2 : (items.size : Int) - 1 > -1
      · rw [if_pos h2, show (- (-1 : Int)) = 1 by decide, Int.ediv_one]
        omega
      · rw [if_neg h2]
        omega
    show wpAny _ _ (match Builtin.Slice.sliceAdjust none none (-1) (items.size : Int) with | (lo, hi) => pure (lo, (-1 : Int), Builtin.Slice.slicePlaces lo hi (-1))) _ _ s
    rw [ea]
    show wpAny _ _ (pure ((items.size : Int) - 1, (-1 : Int), Builtin.Slice.slicePlaces ((items.size : Int) - 1) (-1) (-1))) _ _ s
    rw [ep]
    exact wpAny_pure hq
  refine wpAny_bind (ap ?_)
  have hno : ¬ ((((items.size : Int) - 1) == 0 && (-1 : Int) == 1 && items.size == items.size) = true) := by
    rw [show ((-1 : Int) == 1) = false by decide, Bool.and_false, Bool.false_and]
    exact Bool.false_ne_true
  show wpAny _ _ (if (((items.size : Int) - 1) == 0 && (-1 : Int) == 1 && items.size == items.size) = true then _ else _) _ _ s
  rw [if_neg hno, pick_back]
  first
    | exact wpAny_bind (m := Builtin.Tuple.tupleExact _) (wpAny_newObj_type (wpAny_pure ⟨_, rfl, wpAny_pure h⟩) hfit)
    | exact wpAny_bind (m := Builtin.Tuple.tupleExact _) (wpAny_newObj_type (wpAny_bind (wpAny_pure (wpAny_pure ⟨_, rfl, wpAny_pure h⟩))) hfit)
    | exact wpAny_bind (wpAny_bind (m := Builtin.Tuple.tupleExact _) (wpAny_newObj_type (wpAny_pure (wpAny_pure ⟨_, rfl, wpAny_pure h⟩)) hfit))
    | exact wpAny_bind (wpAny_bind (m := Builtin.Tuple.tupleExact _) (wpAny_newObj_type (wpAny_pure ⟨_, rfl, wpAny_pure h⟩) hfit))
end
section
variable {X : Cx}
def tBackT (K : PySem.W.Frag) (te : TE) : TE := fun σ H Q => te σ H fun x H1 => ∃ a xs, x = .ref a ∧ SqT K H1 a xs ∧ newT xs.reverse H1 Q
theorem pe_backT {e : Expr} {te : TE} {k : Nat} {p1 p2 p3 pos : Pos} (he : PE X e te) : PE X (.Subscript e (.Slice none none (some (.UnaryOp .USub (.Constant (.int 1) k p1) p2)) p3) pos) (tBackT X.K te) := by
  refine ⟨fun pins s σ H Q I h => ?_⟩
  refine Subscript_ (thn (he.run pins s σ H _ I h) fun v s1 hx => ?_)
  obtain ⟨x, H1, I1, r1, a, xs, rfl, hq, q⟩ := hx
  cases r1
  have hst : PO X (some (.UnaryOp .USub (.Constant (.int 1) k p1) p2)) (tPart (tUn (rU fun i => .int (-i)) (tC (.int 1)))) := po_some (pe_un un_neg pe_int)
  refine wpAny_Slice (thn (po_none.run pins s1 σ H1 (fun o H2 => o = none ∧ H2 = H1) I1 ⟨rfl, rfl⟩) fun vl s2 h2 => ?_)
  obtain ⟨_, _, I2, pl, rfl, rfl⟩ := h2
  refine thn (po_none.run pins s2 σ _ (fun o H3 => o = none ∧ H3 = _) I2 ⟨rfl, rfl⟩) fun vu s3 h3 => ?_
  obtain ⟨_, _, I3, pu, rfl, rfl⟩ := h3
  refine thn (hst.run pins s3 σ _ (fun o H4 => o = some (-1) ∧ H4 = _) I3 ⟨1, rfl, -1, rfl, rfl, rfl⟩) fun vs s4 h4 => ?_
  obtain ⟨_, H4, I4, ps, rfl, rfl⟩ := h4
  have I5 : Inv X pins σ H4 { s4 with heap := s4.heap.push { cls := .type "slice", data := .fields #[vl, vu, vs] } } := I4.kept (t' := s4.toks) fun b ob q => Heap.get?_push_of_some _ q
  obtain ⟨its, r, ht, hz⟩ := I5.tuple hq
  have hlen := r.length
  show wpAny (model X.prog X.w) X.A (subscriptTail e (.Slice none none (some (.UnaryOp .USub (.Constant (.int 1) k p1) p2)) p3) (.ref a) (.ref s4.heap.objs.size)) (EP X pins σ Q) X.xe _
  refine tail_any (ops := [.ref a, .ref s4.heap.objs.size]) ht.typeIs PyProof.Rows.slot_tuple_getitem.lookup ?_ (by with_unfolding_all rfl)
  refine getItem_tuple_back ht (Heap.IsSliceOf.new _ vl vu vs) pl pu ps ?_ (by rw [List.size_toArray]; omega)
  exact laidF (t' := s4.toks) (its := its.reverse) I5 (fun b u e => Heap.get?_push_of_some _ e) (Nat.le_refl _) (by rw [List.length_reverse]; exact hz) r.reverse (Heap.get?_push_size _ rfl) q
end
end HM


namespace HM
open PySem PySem.Spec PyProof.Rows L2
/-! ### dict(enumerate(t)), t a tuple -/
section
variable {prog : Program} {w : World} {A : Around} {E : Value → Shared → Prop} {s : Shared}
abbrev pairObj (c : Int) (tk : Nat) (x : Value) : Obj := { cls := .type "tuple", data := .seq #[.int c tk, x] }
/-- next(e) while the pair that was handed out before is still there -/
theorem enum_held {e it T : Addr} {fp : List Addr} {n i : Nat} {c : Int} {Pv : Nat → Value → Prop} {St : Nat → Heap → Prop} {old : Value} {fl : Bool} {oT : Obj} {Q : Value → Shared → Prop}
    (D : Draws prog w A it fp n Pv St) (he : IsEnumHeld s.heap e it c old T fl) (hT : s.heap.get? T = some oT) (hTe : T ≠ e) (hTi : T ≠ it) (st : St i s.heap) (hi : i < n) (hei : e ≠ it) (hef : e ∉ fp)
    (hQ : ∀ x h' tk, Pv i x → IsEnumHeld h' e it (c + 1) old T true → St (i + 1) h' → h'.get? s.heap.objs.size = some (pairObj c tk x) → (∀ b o, b ≠ e → b ≠ it → s.heap.get? b = some o → h'.get? b = some o) → Q (.ref s.heap.objs.size) { s with heap := h', toks := tk + 1 }) :
    wpAny (model prog w) A (Builtin.«enumerate.__next__» ⟨[.ref e], []⟩) (fun fin s' => ∃ v, fin = .done (.ret v) ∧ Q v s') E s := by
  obtain ⟨hp, gs, dr, tk0, os⟩ := s
  show wpAny _ _ (field (.ref e) 2 >>= _) _ _ _
  refine wpAny_bind (wpAny_field he rfl (x := .ref it) rfl (wpAny_bind (D.item i _ _ _ hi st fun x g1 tk hx st1 m1 => ?_)))
  replace m1 : Heap.SameBut it hp g1 := m1
  have q1 : IsEnumHeld g1 e it c old T fl := (m1.2 e hei).trans he
  show wpAny _ _ (field (.ref e) 3 >>= _) _ _ ⟨g1, gs, dr, tk, os⟩
  refine wpAny_bind (wpAny_field q1 rfl (x := rawInt c) rfl ?_)
  show wpAny _ _ (field (.ref e) 4 >>= _) _ _ ⟨g1, gs, dr, tk, os⟩
  refine wpAny_bind (wpAny_field q1 rfl (x := .none) rfl ?_)
  show wpAny _ _ (mkInt c >>= _) _ _ ⟨g1, gs, dr, tk, os⟩
  refine wpAny_bind (wpAny_mkInt ?_)
  show wpAny _ _ (setField (.ref e) 3 (rawInt (c + 1)) >>= _) _ _ ⟨g1, gs, dr, tk + 1, os⟩
  refine wpAny_bind (wpAny_setField_rec q1 (by simp) fun g2 q2 m2 => ?_)
  replace m2 : Heap.SameBut e g1 g2 := m2
  replace q2 : IsEnumHeld g2 e it (c + 1) old T fl := q2
  show wpAny _ _ (setField (.ref e) 4 .none >>= _) _ _ ⟨g2, gs, dr, tk + 1, os⟩
  refine wpAny_bind (wpAny_setField_rec q2 (by simp) fun g3 q3 m3 => ?_)
  replace m3 : Heap.SameBut e g2 g3 := m3
  replace q3 : IsEnumHeld g3 e it (c + 1) old T fl := q3
  show wpAny _ _ (newTuple [.int c tk, x] >>= _) _ _ ⟨g3, gs, dr, tk + 1, os⟩
  refine wpAny_bind (wpAny_newTuple ?_)
  have z3 : g3.objs.size = hp.objs.size := by rw [m3.1, m2.1, m1.1]
  obtain ⟨g4, eg⟩ : ∃ g4, g4 = g3.push (pairObj c tk x) := ⟨_, rfl⟩
  have q4 : IsEnumHeld g4 e it (c + 1) old T fl := by
    rw [eg]
    exact Heap.get?_push_of_some _ q3
  have p4 : g4.get? hp.objs.size = some (pairObj c tk x) := by
    rw [eg, ← z3]
    exact Heap.get?_push_size _ rfl
  have k4 : ∀ b o, b ≠ e → b ≠ it → hp.get? b = some o → g4.get? b = some o := fun b o n1 n2 y => by
    rw [eg]
    exact Heap.get?_push_of_some _ (m3.extBut b o n1 (m2.extBut b o n1 (m1.extBut b o n2 y)))
  have st4 : St (i + 1) g4 := D.frame _ _ _ st1 fun b hb o y => by
    have n1 : b ≠ e := fun z => hef (z ▸ hb)
    rw [eg]
    exact Heap.get?_push_of_some _ (m3.extBut b o n1 (m2.extBut b o n1 y))
  show wpAny _ _ (Builtin.SmallTypes.ownedTupleIsFree (.ref e) >>= _) _ _ ⟨g3.push (pairObj c tk x), gs, dr, tk + 1, os⟩
  rw [← eg, z3]
  refine wpAny_bind (wpAny_tupleHeld_enum (s := ⟨g4, gs, dr, tk + 1, os⟩) q4 (k4 T oT hTe hTi hT) fun g5 q5 m5 => ?_)
  replace m5 : Heap.SameBut e g4 g5 := m5
  simp only [Bool.false_eq_true, if_false]
  have ne : hp.objs.size ≠ e := Nat.ne_of_gt (Heap.lt_size (show hp.get? e = some _ from he))
  exact wpAny_pure ⟨_, rfl, hQ x g5 tk hx q5 (D.frame _ _ _ st4 fun b hb o y => m5.extBut b o (fun z => hef (z ▸ hb)) y) (m5.extBut _ _ ne p4) fun b o n1 n2 y => m5.extBut b o n1 (k4 b o n1 n2 y)⟩
theorem next_held {e it T : Addr} {fp : List Addr} {n i : Nat} {c : Int} {Pv : Nat → Value → Prop} {St : Nat → Heap → Prop} {old : Value} {fl : Bool} {oT : Obj} {Q : Option Value → Shared → Prop}
    (D : Draws prog w A.in1 it fp n Pv St) (he : IsEnumHeld s.heap e it c old T fl) (hT : s.heap.get? T = some oT) (hTe : T ≠ e) (hTi : T ≠ it) (st : St i s.heap) (hi : i < n) (hei : e ≠ it) (hef : e ∉ fp)
    (hQ : ∀ x h' tk, Pv i x → IsEnumHeld h' e it (c + 1) old T true → St (i + 1) h' → h'.get? s.heap.objs.size = some (pairObj c tk x) → (∀ b o, b ≠ e → b ≠ it → s.heap.get? b = some o → h'.get? b = some o) → Q (some (.ref s.heap.objs.size)) { s with heap := h', toks := tk + 1 }) :
    wpAny (model prog w) A (pyNext (.ref e)) Q E s := by
  have ty : s.TypeIs (.ref e) "enumerate" := ⟨_, he, rfl⟩
  unfold pyNext
  refine wpAny_bind (wpAny_attempt (wpAny_callSpecial?_slot (name := Str.ofString "__next__") ty F.slot_enumerate_next (wpAny_call_entry F.slot_enumerate_next ty F.entry_enumerate_next ?_ (F.args_enumerate_next_1 _))))
  exact enum_held D he hT hTe hTi st hi hei hef fun x h' tk a b c d k => wpAny_pure (hQ x h' tk a b c d k)
theorem end_held {e it T : Addr} {fp : List Addr} {n : Nat} {c : Int} {Pv : Nat → Value → Prop} {St : Nat → Heap → Prop} {old : Value} {fl : Bool} {Q : Option Value → Shared → Prop} (D : Draws prog w A.in1 it fp n Pv St) (he : IsEnumHeld s.heap e it c old T fl) (st : St n s.heap)
    (hQ : ∀ h', Heap.ExtBut it s.heap h' → Q none { s with heap := h' }) : wpAny (model prog w) A (pyNext (.ref e)) Q E s := by
  have ty : s.TypeIs (.ref e) "enumerate" := ⟨_, he, rfl⟩
  unfold pyNext
  refine wpAny_bind (wpAny_attempt (wpAny_callSpecial?_slot (name := Str.ofString "__next__") ty F.slot_enumerate_next (wpAny_call_entry F.slot_enumerate_next ty F.entry_enumerate_next ?_ (F.args_enumerate_next_1 _))))
  show wpAny _ _ (field (.ref e) 2 >>= _) _ _ _
  refine wpAny_bind (wpAny_field he rfl (x := .ref it) rfl (wpAny_bind (D.done _ _ _ st fun h' x m hx => ?_)))
  obtain ⟨o, ho, hc⟩ := hx
  exact wpAny_bind (wpAny_isInstance (T := "StopIteration") (b := true) ⟨o, ho, hc⟩ isSubtype_stop (wpAny_pure (hQ _ m)))
end
section
variable {prog : Program} {w : World}
theorem pairs_enumT (e it l : Addr) (hei : e ≠ it) (hle : l ≠ e) (hli : l ≠ it) (items : Array Value) :
    PairArg prog w "enumerate" e [e, it, l] [e, it] items.size (fun i k v => (∃ t, k = .int i t) ∧ items[i]? = some v) (fun h => (∃ old, IsEnum h e it 0 old) ∧ h.IsTupleIter it l 0 ∧ h.IsTuple l items) where
  type := fun s ok => let ⟨⟨_, he⟩, _⟩ := ok; ⟨_, he, rfl⟩
  notDict := by decide
  keep := fun h h' ok k => let ⟨⟨old, he⟩, hit, hl⟩ := ok; ⟨⟨old, k _ _ he⟩, hit.at fun o x => k _ o x, hl.at fun o x => k _ o x⟩
  there := fun h ok b hb => by
    obtain ⟨⟨old, he⟩, ⟨o1, h1, _⟩, ⟨o2, h2, _⟩⟩ := ok
    rcases List.mem_cons.mp hb with z | hb
    · exact z ▸ ⟨_, he⟩
    rcases List.mem_cons.mp hb with z | hb
    · exact z ▸ ⟨_, h1⟩
    · exact (List.mem_singleton.mp hb) ▸ ⟨_, h2⟩
  sub := fun b hb => by
    rcases List.mem_cons.mp hb with z | hb
    · rw [z]; simp
    · rw [List.mem_singleton.mp hb]; simp
  noKeys := fun A s Q E hA ok h => let ⟨⟨_, he⟩, _⟩ := ok; getAttrOr_miss_enumerate he rfl rfl rfl enumerate_no_keys (by decide +kernel) hA h
  iter := fun A s d Q E hA ok hd hdf h => by
    obtain ⟨⟨old, he⟩, hit, hl⟩ := ok
    have de : d ≠ e := fun z => hdf (by rw [z]; simp)
    have dit : d ≠ it := fun z => hdf (by rw [z]; simp)
    have dl : d ≠ l := fun z => hdf (by rw [z]; simp)
    have D : ∀ {A' : Around}, A'.handled = none → Draws prog w A'.in1 it [it, l] items.size (fun i v => items[i]? = some v) (fun i h => h.IsTupleIter it l i ∧ h.IsTuple l items) := fun {A'} hA' => Draws.tuple (A := A'.in1) hA' it l hli items
    have nef : e ∉ [it, l] := fun z => by
      rcases List.mem_cons.mp z with z | z
      · exact hei z
      · exact hle (List.mem_singleton.mp z).symm
    refine wpAny_pyIter_enum he (h e [e, it] (fun i h => (h.IsTupleIter it l i ∧ h.IsTuple l items) ∧ ((∃ old, IsEnum h e it i old) ∨ ∃ old T fl oT, IsEnumHeld h e it i old T fl ∧ h.get? T = some oT ∧ T ≠ e ∧ T ≠ it ∧ T ≠ d)) s.heap s.toks ?_ ⟨⟨hit, hl⟩, .inl ⟨old, he⟩⟩ (fun _ _ e => e) fun b hb => .inl hb)
    refine ⟨fun z => ?_, fun i h1 h2 st k => ?_, fun i s1 Q1 E1 hi st hds hQ => ?_, fun s1 Q1 E1 st hQ => ?_⟩
    · rcases List.mem_cons.mp z with z | z
      · exact de z
      · exact dit (List.mem_singleton.mp z)
    · obtain ⟨⟨g1, g2⟩, he⟩ := st
      refine ⟨⟨g1.at fun o x => k _ o (Ne.symm dit) x, g2.at fun o x => k _ o (Ne.symm dl) x⟩, ?_⟩
      rcases he with ⟨old, he⟩ | ⟨old, T, fl, oT, he, hT, r1, r2, r3⟩
      · exact .inl ⟨old, k _ _ (Ne.symm de) he⟩
      · exact .inr ⟨old, T, fl, oT, k _ _ (Ne.symm de) he, k _ _ r3 hT, r1, r2, r3⟩
    · obtain ⟨st, he⟩ := st
      have ec : ((i + 1 : Nat) : Int) = (i : Int) + 1 := by omega
      have nit : s1.heap.objs.size ≠ it := let ⟨_, x, _⟩ := st.1; Nat.ne_of_gt (Heap.lt_size x)
      rcases he with ⟨old, he⟩ | ⟨old, T, fl, oT, he, hT, r1, r2, r3⟩
      · refine wpAny_pyNext_enum_itemC (D hA) he st hi hei nef fun x h' tk hx ho st' hT hsz k => ?_
        refine hQ s1.heap.objs.size _ _ h' (tk + 1) ⟨⟨_, rfl⟩, hx⟩ (.inl ⟨_, hT, rfl, _, rfl⟩) ⟨st', .inr ⟨_, s1.heap.objs.size, false, _, by rw [ec]; exact ho, hT, Nat.ne_of_gt (Heap.lt_size (show s1.heap.get? e = some _ from he)), nit, Nat.ne_of_gt hds⟩⟩ fun b o hb x => k b o (fun y => hb (by rw [y]; simp)) (fun y => hb (by rw [y]; simp)) x
      · refine next_held (D hA) he hT r1 r2 st hi hei nef fun x h' tk hx ho st' hT' k => ?_
        refine hQ s1.heap.objs.size _ _ h' (tk + 1) ⟨⟨_, rfl⟩, hx⟩ (.inl ⟨_, hT', rfl, _, rfl⟩) ⟨st', .inr ⟨old, T, true, oT, by rw [ec]; exact ho, k _ _ r1 r2 hT, r1, r2, r3⟩⟩ fun b o hb x => k b o (fun y => hb (by rw [y]; simp)) (fun y => hb (by rw [y]; simp)) x
    · obtain ⟨st, he⟩ := st
      rcases he with ⟨old, he⟩ | ⟨old, T, fl, oT, he, hT, r1, r2, r3⟩
      · exact wpAny_pyNext_enum_endD (D hA) he st fun h' m => hQ h' s1.toks fun b o hb x => m b o (fun y => hb (by rw [y]; simp)) x
      · exact end_held (D hA) he st fun h' m => hQ h' s1.toks fun b o hb x => m b o (fun y => hb (by rw [y]; simp)) x
set_option maxHeartbeats 2000000 in
theorem meets_enum1 {v : Value} {o : Obj} {Hs : Heap → Prop} (B : Begins v o Hs) : Meets (Builtin.«enumerate.__new__» ⟨[.type "enumerate", v], []⟩) (fun _ R s => Hs s.heap ∧
    R (.ok (.ret (.ref (s.heap.push o).objs.size))) { s with heap := (s.heap.push o).push { cls := .type "enumerate", data := .fields #[.none, .bool false, .ref s.heap.objs.size, rawInt 0, .none, .none] } }) :=
  .of_wp fun prog w A R s h => by
    obtain ⟨hp, gs, dr, tk, os⟩ := s
    obtain ⟨h1, h⟩ := h
    have hsub := sub_enumerate
    have begun : ∀ {A' : Around} {E : Value → Shared → Prop} {Q : Value → Shared → Prop}, Q (.ref hp.objs.size) ⟨hp.push o, gs, dr, tk, os⟩ → wpAny (model prog w) A' (pyIter v) Q E ⟨hp, gs, dr, tk, os⟩ := fun q => B.iter prog w _ _ ⟨hp, gs, dr, tk, os⟩ _ h1 q
    wp_walk using begun
    refine wpAny_stack_any fun st => wpAny_pure ?_
    split
    · rename_i c _ _ _ _ _
      cases (c == Value.type "enumerate")
      · wp_walk using begun
        exact ⟨_, rfl, h⟩
      · wp_walk using begun
        exact ⟨_, rfl, h⟩
    · wp_walk using begun
      exact ⟨_, rfl, h⟩
theorem call_enum1 {A : Around} {E : Value → Shared → Prop} {s : Shared} {v : Value} {o : Obj} {Hs : Heap → Prop} {Q : Value → Shared → Prop} (B : Begins v o Hs) (h1 : Hs s.heap)
    (h : ∀ h', IsEnum h' (s.heap.objs.size + 1) s.heap.objs.size 0 .none → h'.get? s.heap.objs.size = some o → (∀ b u, s.heap.get? b = some u → h'.get? b = some u) → Q (.ref (s.heap.objs.size + 1)) { s with heap := h' }) : wpAny (model prog w) A (call (.type "enumerate") [v]) Q E s := by
  refine callType_new F.called_enumerate (by decide) (F.typeCall_enumerate_1 _) (F.newCall_enumerate_1 _) (fun obj => F.args_object_init_2 obj _) F.entry_enumerate_new (meets_enum1 B) ⟨h1, ?_⟩
  have hz : (s.heap.push o).objs.size = s.heap.objs.size + 1 := Heap.size_push ..
  show _ ∧ _
  have he := Heap.get?_push_size (s.heap.push o) (o := { cls := .type "enumerate", data := .fields #[.none, .bool false, .ref s.heap.objs.size, rawInt 0, .none, .none] }) rfl
  rw [hz] at he ⊢
  exact ⟨⟨_, he, rfl⟩, h _ he (Heap.get?_push_of_some _ (Heap.get?_push_size _ B.free)) fun b u x => Heap.get?_push_of_some _ (Heap.get?_push_of_some _ x)⟩
end
theorem kv_zip : ∀ (ns : List Int) (its : List Value) (k : Nat), Vals (ns.map V.int) its → KV (((ns.zipIdx k).map fun q => (((q.2 : Nat) : Int), q.1)).map fun p => ((Sum.inl p.1 : Key), V.int p.2)) ((its.zipIdx k).map fun q => ((Sum.inl ((q.2 : Nat) : Int) : Key), q.1))
  | [], _, _, .nil => .nil
  | n :: ns, _ :: its, k, .cons r t => .cons ⟨rfl, r⟩ (kv_zip ns its (k + 1) t)
section
variable {X : Cx}
/-- dict(enumerate(t)), t a tuple of ints -/
def tDictEnum (K : PySem.W.Frag) (ta : TE) : TE := fun σ H Q => ta σ H fun x H1 => ∃ (a : Addr) (ns : List Int), x = .ref a ∧ SqT K H1 a (ns.map V.int) ∧ ns.length ≤ 1000 ∧ ∀ p, H1 p = none → Q (.ref p) (upd H1 p (.dK ((ns.zipIdx.map fun q => (((q.2 : Nat) : Int), q.1)).map fun p => ((Sum.inl p.1 : Key), V.int p.2))))
theorem pe_dictEnum {a : Expr} {ta : TE} {p p2 q pos : Pos} (hc : X.calm = true) (hg : Gl X "dict") (hm : X.mg "dict" = none) (hg2 : Gl X "enumerate") (hm2 : X.mg "enumerate" = none) (ha : PE X a ta)
    (na : starEach [a] X.env = (false, eval a X.env) :: starEach [] X.env := by rfl) : PE X (.Call (.Name "dict" p) [.Call (.Name "enumerate" p2) [a] [] q] [] pos) (tDictEnum X.K ta) := by
  refine ⟨fun pins s σ H Q I h => ?_⟩
  refine Call_ (ld_blt I hg hm (u := .type "dict") (by decide +kernel) ?_)
  refine PyProof.Rows.callWith_type1 (PyProof.Rows.args_cons ?_ rfl) rfl rfl
  refine Call_ (ld_blt I hg2 hm2 (u := .type "enumerate") (by decide +kernel) ?_)
  refine PyProof.Rows.callWith_type1 (PyProof.Rows.args_cons (thn (ha.run pins s σ H _ I h) fun v s1 hx => PyProof.Rows.args_nil ?_) na) na rfl
  obtain ⟨x, H1, I1, r1, l, ns, rfl, hq, hl, q1⟩ := hx
  cases r1
  obtain ⟨its, rv, pl, hz⟩ := I1.tuple hq
  have hlt : l < s1.heap.objs.size := let ⟨_, e, _⟩ := pl; Heap.lt_size e
  refine call_enum1 (begins_tuple l its.toArray) pl fun h' he hit hk => PyProof.Rows.args_nil ?_
  have I2 : Inv X pins σ H1 { s1 with heap := h' } := I1.kept (t' := s1.toks) hk
  have hei : s1.heap.objs.size + 1 ≠ s1.heap.objs.size := by omega
  have hle : l ≠ s1.heap.objs.size + 1 := Nat.ne_of_lt (Nat.lt_succ_of_lt hlt)
  have hlen : its.length = ns.length := by rw [← rv.length, List.length_map]
  obtain ⟨kvs, ekv⟩ : ∃ kvs : List (Key × Value), kvs = its.zipIdx.map fun q => ((Sum.inl ((q.2 : Nat) : Int) : Key), q.1) := ⟨_, rfl⟩
  refine call_dict_pairs (knd := mixKind X.prog X.w) (kvs := kvs) (pairs_enumT (s1.heap.objs.size + 1) s1.heap.objs.size l hei hle (Nat.ne_of_lt hlt) its.toArray) (I1.ok.hd hc) ⟨⟨_, he⟩, ⟨_, hit, rfl, rfl⟩, let ⟨o, e, r⟩ := pl; ⟨o, hk _ _ e, r⟩⟩ ⟨?_, fun i key v hr => ?_⟩ (by rw [List.size_toArray]; exact Nat.le_of_lt (small1000 (by omega))) fun h2 tk hD hk2 => ?_
  · rw [ekv, List.length_map, List.length_zipIdx, List.size_toArray]
  · obtain ⟨⟨t, rfl⟩, hv⟩ := hr
    refine ⟨Sum.inl (i : Int), ?_, mixKind_int _ _ _ _⟩
    have hv2 : its[i]? = some v := by simpa using hv
    rw [ekv, List.getElem?_map, List.getElem?_zipIdx, hv2]
    simp
  · have ndk : (kvs.map (·.1)).Nodup := by
      rw [ekv, List.map_map]
      have e9 : ((fun (x : Key × Value) => x.1) ∘ fun (q : Value × Nat) => ((Sum.inl ((q.2 : Nat) : Int) : Key), q.1)) = (fun j : Nat => (Sum.inl ((j : Nat) : Int) : Key)) ∘ fun q : Value × Nat => q.2 := rfl
      rw [e9, ← List.map_map, List.zipIdx_map_snd]
      refine List.Pairwise.map _ (fun x y hxy z => hxy ?_) (List.nodup_range' ..)
      have z2 := Sum.inl.inj z
      omega
    rw [merged_nil_of_nodup kvs ndk] at hD
    have hsz : s1.heap.objs.size ≤ h'.objs.size := Nat.le_of_lt (Nat.lt_of_succ_lt (Heap.lt_size (show h'.get? (s1.heap.objs.size + 1) = some _ from he)))
    have grow : Grows s1.heap h2 := fun b o e => by
      have hb := Heap.lt_size e
      refine hk2 b o (fun z => ?_) (hk b o e)
      rcases List.mem_cons.mp z with z | z
      · rw [z] at hb
        exact Nat.lt_irrefl _ (Nat.lt_of_succ_lt hb)
      · rw [List.mem_singleton.mp z] at hb
        exact Nat.lt_irrefl _ hb
    have ob : ∀ H2 : Hp, ObjOk X.prog X.w H2 h2 h'.objs.size (.dK ((ns.zipIdx.map fun q => (((q.2 : Nat) : Int), q.1)).map fun p => ((Sum.inl p.1 : Key), V.int p.2))) := fun H2 => ⟨?_, ?_, kvs, ?_, hD⟩
    · exact ⟨.ref h'.objs.size, _, I1.laid (t' := tk) grow hsz (ob _), rfl, q1 _ (I1.hok.fresh hsz)⟩
    · rw [List.length_map, List.length_map, List.length_zipIdx]
      exact Nat.le_of_lt (small1000 hl)
    · exact beq_eq_false_iff_ne.mpr (Nat.ne_of_gt (Nat.lt_of_lt_of_le I1.big hsz))
    · rw [ekv]
      exact kv_zip ns its 0 rv
end
end HM


namespace K01
open PySem PySem.Spec PyProof.Rows L2 HM
abbrev bn : List Str := ["isinstance", "int", "bool", "len", "abs", "list", "range", "tuple", "set", "all", "repr", "str", "dict", "enumerate"]
theorem emodb (x : Int) : -(2 ^ 64) < x % 2147483647 ∧ x % 2147483647 < 2 ^ 64 := ⟨by have := Int.emod_nonneg x (b := 2147483647) (by decide); omega, by have := Int.emod_lt_of_pos x (b := 2147483647) (by decide); omega⟩
abbrev sPen : Stmt := topS 9
abbrev sDraw : Stmt := topS 10
section
variable {P : Program} {w : World} {K : PySem.W.Frag} {mg : Str → Option Value} {base : Heap}
theorem scPen : FnScope ["_law_script"] ["_law_script"] (defScope sPen) := ⟨rfl, rfl, rfl, by decide +kernel, rfl, by decide +kernel, by decide +kernel⟩
def spPen : Sp := fun vs H Q _ => ∃ a : Addr, vs = [.ref a] ∧ ∀ p, H p = none → Q (.ref p) (upd H p (.dK (pk a 0 0)))
theorem ok_pen {f : Addr} {fd : FuncData} {k : Nat} (F : Fun K "_law_pen" "_law_pen" sPen f fd) : FnOk P w K mg base CX0 (k + 1) f fd ["_law_script"] spPen := by
  refine F.ok scPen (fun vs H Q E h => ?_) (fun cdv A outer s H vs Q E hr h => ?_)
  · obtain ⟨a, rfl, _⟩ := h
    rfl
  · obtain ⟨a, rfl, q⟩ := h
    refine ⟨_, pss_one (ps_ret (pe_disp (pps_cons pe_str (pv 0) (pps_cons pe_str pe_int (pps_cons pe_str pe_int pps_nil))) rfl rfl (by simp) (by decide))), ?_⟩
    refine fun p np => ⟨_, rfl, upd_same, pk a 0 0, rfl, by show 3 ≤ 15; decide, ?_⟩
    rw [upd_upd, pk_merge]
    exact q p np
theorem scDraw : FnScope ["_law_pen_here", "_law_most", "_law_script", "_law_at", "_law_cell", "_law_mixed", "_law_found"] ["_law_pen_here", "_law_most"] (defScope sDraw) := ⟨rfl, rfl, rfl, by decide +kernel, rfl, by decide +kernel, by decide +kernel⟩
def spDraw (K : PySem.W.Frag) : Sp := fun vs H Q _ => ∃ (p : Addr) (m t : Int), vs = [.ref p, .int m] ∧ isPen K H p t ∧ 0 < m ∧ m ≤ 10000 ∧ t ≤ 1000000 ∧
  ∀ (r t' : Int) (H' : Hp), 0 ≤ r → r < m → t ≤ t' → t' ≤ t + 1 → isPen K H' p t' → But p H H' → Q (.int r) H'
theorem ok_draw {f : Addr} {fd : FuncData} {k : Nat} (F : Fun K "_law_draw" "_law_draw" sDraw f fd) (mz : ∀ x ∈ bn, mg x = none) : FnOk P w K mg base CX0 (k + 1) f fd ["_law_pen_here", "_law_most"] (spDraw K) := by
  refine F.ok scDraw (fun vs H Q E h => ?_) (fun cdv A outer s H vs Q E hr h => ?_)
  · obtain ⟨p, m, t, rfl, _⟩ := h
    rfl
  · obtain ⟨p, m, t, rfl, ⟨a, ns, l, hp, hS, hlen, ht, hl⟩, hm0, hm1, ht1, q⟩ := h
    have hu := hu_of hr
    have ml := mz "len" (by decide)
    have ma := mz "abs" (by decide)
    refine ⟨_, pss_cons (ps_set (i := 2) scDraw.nd rfl (.inl rfl) (pe_dget hu (pv 0) pe_str (fun _ _ => rfl)))
      (pss_cons (ps_set (i := 3) scDraw.nd rfl (.inl rfl) (pe_dget hu (pv 0) pe_str (fun _ _ => rfl)))
      (pss_cons (ps_if (pt_cmpR op_eq (pe_dget hu (pv 0) pe_str (fun _ _ => rfl)) pe_int (nomark _))
        (pss_cons (ps_dput hu (pv 0) pe_str (pe_op op_add (pv 3) pe_int) rfl)
        (pss_cons (ps_set (i := 4) scDraw.nd rfl (.inl rfl) pe_int)
        (pss_cons (ps_if (pt_cmpR op_gt (pe_callB call_len_seq (by rfl) ml PySem.boot_len (pa_cons (pv 2) pa_nil)) pe_int (nomark _))
          (pss_one (ps_set (i := 4) scDraw.nd rfl (.inl rfl) (pe_ix ix_list (pv 2) (pe_op op_mod (pv 3) (pe_callB call_len_seq (by rfl) ml PySem.boot_len (pa_cons (pv 2) pa_nil))) (fun _ _ => rfl)))) pss_nil)
        (pss_cons (ps_if (pw_or (pt_cmpR op_ge (pv 3) (pe_callB call_len_seq (by rfl) ml PySem.boot_len (pa_cons (pv 2) pa_nil)) (nomark _)) (pw_or1 (pt_cmpR op_lt (pe_callB call_abs (by rfl) ma (by decide +kernel) (pa_cons (pv 4) pa_nil)) (pe_op op_pow pe_int pe_int) (nomark _)))).pt
          (pss_cons (ps_set (i := 5) scDraw.nd rfl (.inl rfl) (pe_op op_mod (pe_op op_mul (pe_op op_add (pe_op op_add (pe_op op_mod (pv 4) pe_int) (pe_op op_mul pe_int (pv 3))) pe_int) pe_int) pe_int))
          (pss_cons (ps_set (i := 5) scDraw.nd rfl (.inl rfl) (pe_op op_mod (pe_op op_add (pe_op op_add (pe_op op_mul (pv 5) (pv 5)) (pe_op op_mul pe_int (pv 5))) (pv 3)) pe_int))
          (pss_one (ps_ret (pe_op op_mod (pe_op op_fdiv (pv 5) pe_int) (pv 1)))))) pss_nil)
        (pss_one (ps_dput hu (pv 0) pe_str (pe_callB call_abs (by rfl) ma (by decide +kernel) (pa_cons (pv 4) pa_nil)) rfl)))))) pss_nil)
      (pss_cons (ps_set (i := 6) scDraw.nd rfl (.inl rfl) (pe_op op_mod (pe_dget hu (pv 0) pe_str (fun _ _ => rfl)) (pv 1)))
      (pss_cons (ps_dput hu (pv 0) pe_str (pe_op op_fdiv (pe_dget hu (pv 0) pe_str (fun _ _ => rfl)) (pv 1)) rfl)
      (pss_one (ps_ret (pv 6))))))), ?_⟩
    have gS : ∀ {H' : Hp} {t' l' : Int}, H' p = some (.dK (pk a t' l')) → DGet H' p (.str "script") (some (.ref a)) := fun {H' t' l'} e => pk_script a t' l' ▸ DGet.k (k := Sum.inr "script") e
    have gA : ∀ {H' : Hp} {t' l' : Int}, H' p = some (.dK (pk a t' l')) → DGet H' p (.str "at") (some (.int t')) := fun {H' t' l'} e => pk_at a t' l' ▸ DGet.k (k := Sum.inr "at") e
    have gL : ∀ {H' : Hp} {t' l' : Int}, H' p = some (.dK (pk a t' l')) → DGet H' p (.str "left") (some (.int l')) := fun {H' t' l'} e => pk_left a t' l' ▸ DGet.k (k := Sum.inr "left") e
    have pA : ∀ {H' : Hp} {t' l' v : Int}, H' p = some (.dK (pk a t' l')) → DPut H' p (.str "at") (.int v) (upd H' p (.dK (pk a v l'))) := fun {H' t' l' v} e => pk_put_at a t' l' v ▸ DPut.k (k := Sum.inr "at") e (by show 3 < sizeLine; decide)
    have pL : ∀ {H' : Hp} {t' l' v : Int}, H' p = some (.dK (pk a t' l')) → DPut H' p (.str "left") (.int v) (upd H' p (.dK (pk a t' v))) := fun {H' t' l' v} e => pk_put_left a t' l' v ▸ DPut.k (k := Sum.inr "left") e (by show 3 < sizeLine; decide)
    have sc : ∀ {o : List (Key × V)}, Scr K (upd H p (.dK o)) a ns := fun {o} => hS.up fun b ob u e => by
      rw [upd_ne (ne_of e hp (by intro z; cases z))]
      exact e
    have sq : ∀ {o : List (Key × V)}, SqL K (upd H p (.dK o)) a (ns.map V.int) := fun {o} => sc.sq
    have fin : ∀ (r t' l' : Int), 0 ≤ r → r < m → t ≤ t' → t' ≤ t + 1 → 0 ≤ l' → Q (.int r) (upd H p (.dK (pk a t' l'))) := fun r t' l' h1 h2 h3 h4 h5 =>
      q r t' _ h1 h2 h3 h4 ⟨a, ns, l', upd_same, sc, hlen, by omega, h5⟩ fun b hb => upd_ne hb
    have hne : ∀ (c : Int), 0 ≤ (if c < 0 then -c else c) := fun c => by split <;> omega
    refine ⟨.ref p, rfl, p, _, rfl, gS hp, .ref p, rfl, p, _, rfl, gA hp, .ref p, rfl, p, _, rfl, gL hp, rfl, _, rfl, ite2 (fun e => ?_) (fun e => ?_)⟩
    · -- nothing is left: the next number of the script
      refine ⟨.int t, rfl, t, 1, rfl, rfl, .ref p, rfl, p, _, rfl, pA hp, .ref a, rfl, a, _, rfl, .inl sq, _, _, rfl, rfl, _, rfl, ite2 (fun e1 => ?_) (fun e1 => ?_)⟩
      · have hpos : (0 : Int) < ((ns.map V.int).length : Int) := of_decide_eq_true e1
        have hb0 : 0 ≤ t % ((ns.map V.int).length : Int) := Int.emod_nonneg _ (by omega)
        have hb1 : t % ((ns.map V.int).length : Int) < ((ns.map V.int).length : Int) := Int.emod_lt_of_pos _ hpos
        have hj : (t % ((ns.map V.int).length : Int)).toNat < ns.length := by
          rw [List.length_map] at hb0 hb1 ⊢
          omega
        have hat : atI (ns.map V.int) (t % ((ns.map V.int).length : Int)) = some (.int (ns[(t % ((ns.map V.int).length : Int)).toNat]'hj)) := by
          refine at_of (j := (t % ((ns.map V.int).length : Int)).toNat) (by omega) ?_
          rw [List.getElem?_map, List.getElem?_eq_getElem hj]
          rfl
        refine ⟨.ref a, rfl, .int t, rfl, .ref a, rfl, a, _, rfl, .inl sq, _, _, rfl, rfl, hpos, a, _, _, _, rfl, rfl, sq, hat, ?_⟩
        generalize (ns[(t % ((ns.map V.int).length : Int)).toNat]'hj) = c
        refine ⟨.int t, rfl, .ref a, rfl, a, _, rfl, .inl sq, _, _, rfl, rfl, _, rfl, ite2 (fun e2 => ?_) (fun e2 => ⟨.int c, rfl, c, rfl, 10, 18, rfl, rfl, ⟨by decide, by decide, by decide⟩, _, _, rfl, rfl, _, rfl, ?_⟩)⟩
        · refine iteT ⟨.int c, rfl, _, _, rfl, rfl, (by show (0 : Int) < _; decide), .int t, rfl, _, _, rfl, rfl, .inl ⟨by decide, by decide⟩, _, _, rfl, rfl, _, _, rfl, rfl, _, _, rfl, rfl, .inr ⟨by decide, by decide⟩, _, _, rfl, rfl, (by show (0 : Int) < _; decide), ?_⟩
          refine ⟨.int _, rfl, .int _, rfl, _, _, rfl, rfl, .inl (emodb _), .int _, rfl, _, _, rfl, rfl, .inl ⟨by decide, by decide⟩, _, _, rfl, rfl, .int t, rfl, _, _, rfl, rfl, _, _, rfl, rfl, (by show (0 : Int) < _; decide), .int _, rfl, _, _, rfl, rfl, ⟨by decide, by decide⟩, .int m, rfl, _, _, rfl, rfl, hm0, ?_⟩
          exact fin _ (t + 1) l (Int.emod_nonneg _ (by omega)) (Int.emod_lt_of_pos _ hm0) (by omega) (by omega) hl
        · refine ite2 (fun e3 => ?_) (fun e3 => ?_)
          · refine ⟨.int c, rfl, _, _, rfl, rfl, (by show (0 : Int) < _; decide), .int t, rfl, _, _, rfl, rfl, .inl ⟨by decide, by decide⟩, _, _, rfl, rfl, _, _, rfl, rfl, _, _, rfl, rfl, .inr ⟨by decide, by decide⟩, _, _, rfl, rfl, (by show (0 : Int) < _; decide), ?_⟩
            refine ⟨.int _, rfl, .int _, rfl, _, _, rfl, rfl, .inl (emodb _), .int _, rfl, _, _, rfl, rfl, .inl ⟨by decide, by decide⟩, _, _, rfl, rfl, .int t, rfl, _, _, rfl, rfl, _, _, rfl, rfl, (by show (0 : Int) < _; decide), .int _, rfl, _, _, rfl, rfl, ⟨by decide, by decide⟩, .int m, rfl, _, _, rfl, rfl, hm0, ?_⟩
            exact fin _ (t + 1) l (Int.emod_nonneg _ (by omega)) (Int.emod_lt_of_pos _ hm0) (by omega) (by omega) hl
          · refine ⟨.int c, rfl, c, rfl, .ref p, rfl, p, _, rfl, pL upd_same, ?_⟩
            rw [upd_upd]
            refine ⟨.ref p, rfl, p, _, rfl, gL upd_same, .int m, rfl, _, _, rfl, rfl, hm0, .ref p, rfl, p, _, rfl, gL upd_same, .int m, rfl, _, _, rfl, rfl, ⟨hm0, by omega⟩, .ref p, rfl, p, _, rfl, pL upd_same, _, rfl, ?_⟩
            rw [upd_upd]
            exact fin _ (t + 1) _ (Int.emod_nonneg _ (by omega)) (Int.emod_lt_of_pos _ hm0) (by omega) (by omega) (Int.ediv_nonneg (hne c) (by omega))
      · refine ⟨.int t, rfl, .ref a, rfl, a, _, rfl, .inl sq, _, _, rfl, rfl, _, rfl, ite2 (fun e2 => ?_) (fun e2 => ⟨.int 7, rfl, 7, rfl, 10, 18, rfl, rfl, ⟨by decide, by decide, by decide⟩, _, _, rfl, rfl, _, rfl, ?_⟩)⟩
        · refine iteT ⟨.int 7, rfl, _, _, rfl, rfl, (by show (0 : Int) < _; decide), .int t, rfl, _, _, rfl, rfl, .inl ⟨by decide, by decide⟩, _, _, rfl, rfl, _, _, rfl, rfl, _, _, rfl, rfl, .inr ⟨by decide, by decide⟩, _, _, rfl, rfl, (by show (0 : Int) < _; decide), ?_⟩
          refine ⟨.int _, rfl, .int _, rfl, _, _, rfl, rfl, .inl (emodb _), .int _, rfl, _, _, rfl, rfl, .inl ⟨by decide, by decide⟩, _, _, rfl, rfl, .int t, rfl, _, _, rfl, rfl, _, _, rfl, rfl, (by show (0 : Int) < _; decide), .int _, rfl, _, _, rfl, rfl, ⟨by decide, by decide⟩, .int m, rfl, _, _, rfl, rfl, hm0, ?_⟩
          exact fin _ (t + 1) l (Int.emod_nonneg _ (by omega)) (Int.emod_lt_of_pos _ hm0) (by omega) (by omega) hl
        · refine ite2 (fun e3 => ?_) (fun e3 => ?_)
          · refine ⟨.int 7, rfl, _, _, rfl, rfl, (by show (0 : Int) < _; decide), .int t, rfl, _, _, rfl, rfl, .inl ⟨by decide, by decide⟩, _, _, rfl, rfl, _, _, rfl, rfl, _, _, rfl, rfl, .inr ⟨by decide, by decide⟩, _, _, rfl, rfl, (by show (0 : Int) < _; decide), ?_⟩
            refine ⟨.int _, rfl, .int _, rfl, _, _, rfl, rfl, .inl (emodb _), .int _, rfl, _, _, rfl, rfl, .inl ⟨by decide, by decide⟩, _, _, rfl, rfl, .int t, rfl, _, _, rfl, rfl, _, _, rfl, rfl, (by show (0 : Int) < _; decide), .int _, rfl, _, _, rfl, rfl, ⟨by decide, by decide⟩, .int m, rfl, _, _, rfl, rfl, hm0, ?_⟩
            exact fin _ (t + 1) l (Int.emod_nonneg _ (by omega)) (Int.emod_lt_of_pos _ hm0) (by omega) (by omega) hl
          · exact absurd (by decide +kernel) e3
    · refine ⟨.ref p, rfl, p, _, rfl, gL hp, .int m, rfl, _, _, rfl, rfl, hm0, .ref p, rfl, p, _, rfl, gL hp, .int m, rfl, _, _, rfl, rfl, ⟨hm0, by omega⟩, .ref p, rfl, p, _, rfl, pL hp, _, rfl, ?_⟩
      exact fin _ t _ (Int.emod_nonneg _ (by omega)) (Int.emod_lt_of_pos _ hm0) (by omega) (by omega) (Int.ediv_nonneg hl (by omega))
end
end K01


namespace HM
open PySem PySem.Spec PyProof.Rows L2
def iota (n : Nat) : List Int := (List.range n).map fun i => ((i : Nat) : Int)
theorem rgV0 (n : Nat) : rgV 0 (n : Int) = (iota n).map V.int := by
  unfold rgV iota
  rw [List.map_map, Int.sub_zero, Int.toNat_natCast]
  exact List.map_congr_left fun i _ => by simp
theorem iota_len (n : Nat) : (iota n).length = n := by simp [iota]
theorem perm_step {rem acc : List Int} {n k : Nat} (h : (acc ++ rem).Perm (iota n)) (hk : k < rem.length) : (acc ++ [rem[k]] ++ rem.eraseIdx k).Perm (iota n) := by
  refine List.Perm.trans ?_ h
  rw [List.append_assoc]
  refine List.Perm.append_left acc ?_
  rw [List.singleton_append]
  have e : rem.Perm (rem[k] :: rem.eraseIdx k) := by
    have h1 := List.perm_cons_erase (List.getElem_mem hk)
    have h2 : rem = rem.take k ++ rem[k] :: rem.drop (k + 1) := by rw [List.getElem_cons_drop, List.take_append_drop]
    have h3 : rem.eraseIdx k = rem.take k ++ rem.drop (k + 1) := List.eraseIdx_eq_take_drop_succ rem k
    rw [h3]
    conv => lhs; rw [h2]
    exact List.perm_middle
  exact e.symm
theorem map_erzIx {α β : Type} (f : α → β) : ∀ (l : List α) (k : Nat), (l.map f).eraseIdx k = (l.eraseIdx k).map f
  | [], _ => rfl
  | _ :: _, 0 => rfl
  | a :: l, k + 1 => by
    show f a :: (l.map f).eraseIdx k = f a :: (l.eraseIdx k).map f
    rw [map_erzIx f l k]
theorem seqIx {r : Int} {n : Nat} (h0 : 0 ≤ r) (h1 : r < (n : Int)) : seqIndex? r n = some r.toNat := by
  unfold seqIndex?
  have h2 : ¬ r < 0 := by omega
  simp only [if_neg h2]
  rw [if_pos (by simp; exact ⟨h0, h1⟩)]
/-- all that was tracked but for p is as it was -/
def Kept (p : Addr) (H H' : Hp) : Prop := ∀ b o, H b = some o → b ≠ p → H' b = some o
theorem Kept.trans {p : Addr} {H H1 H2 : Hp} (a : Kept p H H1) (b : Kept p H1 H2) : Kept p H H2 := fun c o e n => b c o (a c o e n) n
theorem Kept.refl (p : Addr) (H : Hp) : Kept p H H := fun _ _ e _ => e
theorem But.kept {p : Addr} {H H' : Hp} (h : But p H H') : Kept p H H' := fun b o e n => by rw [h b n]; exact e
def rLenS (K : PySem.W.Frag) : List V → Hp → VK → Prop := fun xs H Q => ∃ p ys, xs = [.ref p] ∧ (SqL K H p ys ∨ SqT K H p ys) ∧ Q (.int ys.length) H
def noX : XK := fun _ _ _ => False
theorem isPen.up {K : PySem.W.Frag} {H H' : Hp} {p : Addr} {t : Int} (h : isPen K H p t) (k : ∀ b o, H b = some o → b = p ∨ (∃ ob u, o = .frz ob u) → H' b = some o) : isPen K H' p t := by
  obtain ⟨a, ns, l, h1, h2, r⟩ := h
  exact ⟨a, ns, l, k _ _ h1 (.inl rfl), h2.up fun b ob u e => k _ _ e (.inr ⟨ob, u, rfl⟩), r⟩
theorem isPen.lay {K : PySem.W.Frag} {H : Hp} {p q : Addr} {t : Int} {o : HO} (h : isPen K H p t) (n : H q = none) : isPen K (upd H q o) p t :=
  h.up fun b u e _ => by rw [upd_ne (ne_of_none e n)]; exact e
theorem isPen.put {K : PySem.W.Frag} {H : Hp} {p q : Addr} {t : Int} {xs ys : List V} (h : isPen K H p t) (n : H q = some (.lst xs)) : isPen K (upd H q (.lst ys)) p t := by
  obtain ⟨a, ns, l, h1, _⟩ := _root_.id h
  refine h.up fun b u e c => ?_
  rw [upd_ne fun z => ?_]
  · exact e
  · subst z
    rw [n] at e
    cases e
    rcases c with c | ⟨ob, u, c⟩
    · rw [c, h1] at n
      cases n
    · cases c
end HM
namespace K01
open PySem PySem.Spec PyProof.Rows L2 HM
abbrev sAny : Stmt := topS 11
section
variable {P : Program} {w : World} {K : PySem.W.Frag} {mg : Str → Option Value} {base : Heap}
theorem scAny : FnScope ["_law_pen_here", "_law_many", "_law_left", "_law_k"] ["_law_pen_here", "_law_many"] (defScope sAny) := ⟨rfl, rfl, rfl, by decide +kernel, rfl, by decide +kernel, by decide +kernel⟩
def spAny (K : PySem.W.Frag) : Sp := fun vs H Q _ => ∃ (p : Addr) (n : Nat) (t : Int), vs = [.ref p, .int (n : Int)] ∧ isPen K H p t ∧ n ≤ 100 ∧ t ≤ 900000 ∧
  ∀ (q : Addr) (ns : List Int) (t' : Int) (H' : Hp), ns.Perm (iota n) → t ≤ t' → t' ≤ t + n → isPen K H' p t' → H q = none → TF H' q (ns.map V.int) → Kept p H H' → Q (.ref q) H'
theorem ok_any {f fD : Addr} {fd fdD : FuncData} {k : Nat} (F : Fun K "_law_any_turn" "_law_any_turn" sAny f fd) (FD : Fun K "_law_draw" "_law_draw" sDraw fD fdD) (bD : Binds K fdD ["_law_pen_here", "_law_most"] []) (gD : mg "_law_draw" = some (.ref fD))
    (mz : ∀ x ∈ bn, mg x = none) : FnOk P w K mg base CX0 (k + 2) f fd ["_law_pen_here", "_law_many"] (spAny K) := by
  have GD : FnOk P w K mg base CX0 (k + 1) fD fdD ["_law_pen_here", "_law_most"] (spDraw K) := ok_draw FD mz
  refine F.ok scAny (fun vs H Q E h => ?_) (fun cdv A outer s H vs Q E hr h => ?_)
  · obtain ⟨p, n, t, rfl, _⟩ := h
    rfl
  · obtain ⟨p, n, t, rfl, hp, hn, ht, q⟩ := h
    have ml := mz "len" (by decide)
    have mr := mz "range" (by decide)
    refine ⟨_, pss_cons (ps_set (i := 2) scAny.nd rfl (.inr rfl) (pe_listRg rfl (by rfl) (mz "list" (by decide)) (prg_1 (by rfl) mr (pv 1))))
      (pss_one (ps_ret (pe_tupOfF (by rfl) (mz "tuple" (by decide)) (pe_lc (own := [("_law_k", 3)]) (g := gName 3) (tt := tYes) (te := tBM K "list" rPopAt (tVar 2) (tCons (tCall (spDraw K) [] noX (tCons (tVar 0) (tCons (tCB (rLenS K) (tCons (tVar 2) tNil)) tNil))) tNil)) rfl scAny.nd (pi_range1 (by rfl) mr (pa_cons (pv 1) pa_nil)) (blkOk_by (N := ["_law_pen_here", "_law_many", "_law_left", "_law_k"]) (sc := defScope sAny) (by decide +kernel))
        (fun _ _ _ _ _ => pg_name (i := 3) scAny.nd rfl (.inl rfl)) (fun _ _ _ _ _ => pts_nil)
        (fun _ _ _ _ _ => pe_bm PySem.F.plainAttrs_list PySem.F.slot_list_pop PySem.F.type_list_pop mt_popAt (pv 2) (pa_cons (pe_call GD hr (by rfl) gD FD.kp bD .nil pass0 (pa_cons (pv 0) (pa_cons (pe_callB call_len_seq (by rfl) ml PySem.boot_len (pa_cons (pv 2) pa_nil)) pa_nil))) pa_nil)))))), ?_⟩
    -- left = list(range(many))
    refine ⟨_, rfl, n, rfl, RgOk.of_le (by decide) (by omega) (by decide) (by omega), fun L nL => ?_⟩
    rw [rgV0]
    have pk1 : isPen K (upd H L (.lst ((iota n).map V.int))) p t := hp.lay nL
    have k1 : Kept p H (upd H L (.lst ((iota n).map V.int))) := fun b o e _ => by rw [upd_ne (ne_of_none e nL)]; exact e
    refine ⟨_, rfl, (n : Int), rfl, by omega, by omega, fun D nD => ?_⟩
    have nDL : D ≠ L := fun z => by
      rw [z, upd_same] at nD
      cases nD
    have nD0 : H D = none := by
      rw [upd_ne nDL] at nD
      exact nD
    rw [Int.toNat_natCast]
    refine lc_range (n := n) (fun i H2 => ∃ (rem acc : List Int) (t' : Int), H2 L = some (.lst (rem.map V.int)) ∧ H2 D = some (.lst (acc.map V.int)) ∧ (acc ++ rem).Perm (iota n) ∧ acc.length = i ∧ t ≤ t' ∧ t' ≤ t + i ∧ isPen K H2 p t' ∧ Kept p H H2)
      ⟨iota n, [], t, by rw [upd_ne nDL.symm, upd_same], upd_same, List.Perm.refl _, rfl, by omega, by omega, pk1.lay nD, fun b o e n1 => by rw [upd_ne (ne_of_none e nD0)]; exact k1 b o e n1⟩ (fun i H2 hi hW => ?_) fun H2 hW => ?_
    · obtain ⟨rem, acc, t', eL, eD, hpm, hac, h1, h2, hpn, hk⟩ := hW
      have hlen : acc.length + rem.length = n := by
        have := hpm.length_eq
        rw [List.length_append, iota_len] at this
        exact this
      refine ⟨rfl, .ref L, rfl, .inl ⟨rfl, _, .inl (.inl eL)⟩, .ref p, rfl, .ref L, rfl, L, _, rfl, .inl (.inl (.inl eL)), p, _, t', rfl, hpn, by rw [List.length_map]; omega, by rw [List.length_map]; omega, by omega, fun r t2 H3 r0 r1 h3 h4 hpn3 hbut => ?_⟩
      rw [List.length_map] at r1
      have hpL : L ≠ p := fun z => by
        obtain ⟨_, _, _, e, _⟩ := hpn
        rw [z, e] at eL
        cases eL
      have hpD : D ≠ p := fun z => by
        obtain ⟨_, _, _, e, _⟩ := hpn
        rw [z, e] at eD
        cases eD
      have eL3 : H3 L = some (.lst (rem.map V.int)) := by rw [hbut L hpL]; exact eL
      have eD3 : H3 D = some (.lst (acc.map V.int)) := by rw [hbut D hpD]; exact eD
      have hr1 : r.toNat < rem.length := by omega
      refine ⟨L, _, r, r.toNat, _, rfl, rfl, eL3, by omega, by omega, by rw [List.length_map]; exact seqIx r0 r1, by rw [List.getElem?_map, List.getElem?_eq_getElem hr1]; rfl, acc.map V.int, by rw [upd_ne nDL]; exact eD3, by rw [List.length_map]; exact small1000 (by omega), ?_⟩
      rw [map_erzIx]
      refine ⟨rem.eraseIdx r.toNat, acc ++ [rem[r.toNat]], t2, by rw [upd_ne nDL.symm, upd_same], by rw [upd_same, List.map_append]; rfl, perm_step hpm hr1, by rw [List.length_append, hac]; rfl, by omega, by omega, ?_, fun b o e n1 => ?_⟩
      · exact (hpn3.put eL3).put (q := D) (by rw [upd_ne nDL]; exact eD3)
      · have hbL : b ≠ L := ne_of_none e nL
        have hbD : b ≠ D := ne_of_none e nD0
        rw [upd_ne hbD, upd_ne hbL, hbut b n1]
        exact hk b o e n1
    · obtain ⟨rem, acc, t', eL, eD, hpm, hac, h1, h2, hpn, hk⟩ := hW
      have hlen : acc.length + rem.length = n := by
        have := hpm.length_eq
        rw [List.length_append, iota_len] at this
        exact this
      have er : rem = [] := List.length_eq_zero_iff.mp (by omega)
      rw [er, List.append_nil] at hpm
      refine ⟨D, _, rfl, .inl (.inl eD), fun T oT nT hoT => ?_⟩
      have nT0 : H T = none := by
        cases e : H T with
        | none => rfl
        | some o =>
          by_cases z : T = p
          · obtain ⟨_, _, _, e2, _⟩ := hpn
            rw [z, e2] at nT
            cases nT
          · rw [hk T o e z] at nT
            cases nT
      exact q T acc t' _ hpm h1 (by omega) (hpn.lay nT) nT0 ⟨oT, hoT, upd_same⟩ fun b o e n1 => by rw [upd_ne (ne_of_none e nT0)]; exact hk b o e n1
end
end K01


namespace HM
open PySem PySem.Spec PyProof.Rows L2
/-! ### the numbers from 0 on, each once -/
def numV (n : Int) : V → Bool
  | .int i => decide (0 ≤ i) && decide (i < n)
  | _ => false
def intV : V → Int
  | .int i => i
  | _ => 0
def numD (n : Int) : PyData → Bool
  | .int i => decide (0 ≤ i) && decide (i < n)
  | _ => false
def itD : PyData → Int
  | .int i => i
  | _ => 0
def eachOnce (ds : List PyData) (n : Int) : Bool := decide ((ds.length : Int) = n) && (ds.all (numD n) && decide (ds.map itD).Nodup)
def turnD : PyData → Bool
  | .tuple ds => (decide (1 ≤ ds.length) && decide (ds.length ≤ 7)) && eachOnce ds ds.length
  | _ => false
theorem dp_num {K : PySem.W.Frag} {H : Hp} {v : V} {d : PyData} (h : Dp K H v d) (n : Int) : numV n v = numD n d := by cases h <;> rfl
theorem dp_int {K : PySem.W.Frag} {H : Hp} {v : V} {d : PyData} (h : Dp K H v d) : intV v = itD d := by cases h <;> rfl
theorem dp_ty {K : PySem.W.Frag} {H : Hp} {v : V} {d : PyData} (h : Dp K H v d) : ∃ T, VTy K H v T := by
  cases h with
  | non => exact ⟨_, .non⟩
  | bl b => exact ⟨_, .bl b⟩
  | int i => exact ⟨_, .int i⟩
  | str x => exact ⟨_, .str x⟩
  | lst h _ => exact ⟨_, .lst h⟩
  | tup h _ => exact ⟨_, .tup h⟩
theorem dps_len {K : PySem.W.Frag} {H : Hp} : ∀ {vs : List V} {ds : List PyData}, DpAll K H vs ds → vs.length = ds.length
  | _, _, .nil => rfl
  | _, _, .cons _ t => congrArg (· + 1) (dps_len t)
theorem dps_num {K : PySem.W.Frag} {H : Hp} (n : Int) : ∀ {vs : List V} {ds : List PyData}, DpAll K H vs ds → vs.all (numV n) = ds.all (numD n)
  | _, _, .nil => rfl
  | _, _, .cons h t => by rw [List.all_cons, List.all_cons, dp_num h n, dps_num n t]
theorem dps_int {K : PySem.W.Frag} {H : Hp} : ∀ {vs : List V} {ds : List PyData}, DpAll K H vs ds → vs.map intV = ds.map itD
  | _, _, .nil => rfl
  | _, _, .cons h t => by rw [List.map_cons, List.map_cons, dp_int h, dps_int t]
theorem dps_ty {K : PySem.W.Frag} {H : Hp} : ∀ {vs : List V} {ds : List PyData}, DpAll K H vs ds → ∀ x ∈ vs, ∃ T, VTy K H x T
  | _, _, .nil, _, h => by cases h
  | _, _, .cons h t, x, hx => by
    rcases List.mem_cons.mp hx with e | e
    · subst e
      exact dp_ty h
    · exact dps_ty t x e
/-- where all are numbers they are ints -/
theorem all_ints {n : Int} : ∀ {xs : List V}, xs.all (numV n) = true → xs = (xs.map intV).map V.int
  | [], _ => rfl
  | x :: xs, h => by
    rw [List.all_cons, Bool.and_eq_true] at h
    have e := all_ints h.2
    rw [List.map_cons, List.map_cons, ← e]
    cases x with
    | int i => rfl
    | _ => exact absurd h.1 Bool.false_ne_true
theorem all_range {α : Type} (d : α) (f : α → Bool) (xs : List α) : ((List.range xs.length).all fun i => f (xs.getD i d)) = xs.all f := by
  rw [Bool.eq_iff_iff, List.all_eq_true, List.all_eq_true]
  constructor
  · intro h x hx
    obtain ⟨i, hi, e⟩ := List.getElem_of_mem hx
    have q := h i (List.mem_range.mpr hi)
    rw [List.getD_eq_getElem?_getD, List.getElem?_eq_getElem hi, Option.getD_some, e] at q
    exact q
  · intro h i hi
    have hi' := List.mem_range.mp hi
    rw [List.getD_eq_getElem?_getD, List.getElem?_eq_getElem hi', Option.getD_some]
    exact h _ (List.getElem_mem hi')
theorem len_sub : ∀ {L ns : List Int}, L.Nodup → (∀ x ∈ L, x ∈ ns) → L.length ≤ ns.length
  | [], ns, _, _ => Nat.zero_le _
  | a :: L, ns, nd, h => by
    have nd2 := List.nodup_cons.mp nd
    have ha := h a List.mem_cons_self
    have ih := len_sub (L := L) (ns := ns.erase a) nd2.2 fun x hx => (List.mem_erase_of_ne (fun (z : x = a) => nd2.1 (z ▸ hx))).mpr (h x (List.mem_cons_of_mem _ hx))
    rw [List.length_erase_of_mem ha] at ih
    have := List.length_pos_of_mem ha
    rw [List.length_cons]
    omega
theorem perm_sub : ∀ {L ns : List Int}, L.Nodup → (∀ x ∈ L, x ∈ ns) → ns.length ≤ L.length → L.Perm ns
  | [], ns, _, _, hl => by
    rw [List.length_eq_zero_iff.mp (Nat.le_zero.mp hl)]
  | a :: L, ns, nd, h, hl => by
    have nd2 := List.nodup_cons.mp nd
    have ha := h a List.mem_cons_self
    have hp := List.length_pos_of_mem ha
    have ih := perm_sub (L := L) (ns := ns.erase a) nd2.2 (fun x hx => (List.mem_erase_of_ne (fun (z : x = a) => nd2.1 (z ▸ hx))).mpr (h x (List.mem_cons_of_mem _ hx))) (by
      rw [List.length_erase_of_mem ha]
      rw [List.length_cons] at hl
      omega)
    exact (List.Perm.cons a ih).trans (List.perm_cons_erase ha).symm
theorem dist_all {ns : List Int} {c : Nat} (h : Dist ns c) : c ≤ ns.length ∧ (c = ns.length ↔ ns.Nodup) := by
  obtain ⟨L, nd, hm, rfl⟩ := h
  have sub : ∀ x ∈ L, x ∈ ns := fun x hx => (hm x).mp hx
  refine ⟨len_sub nd sub, fun e => ?_, fun n2 => ?_⟩
  · exact (perm_sub nd sub (Nat.le_of_eq e.symm)).nodup_iff.mp nd
  · exact Nat.le_antisymm (len_sub nd sub) (len_sub n2 fun x hx => (hm x).mpr hx)
theorem rel_num {x : V} {u : Value} {n : Int} {h : Heap} {T : String} (r : RelV x u) (t : RTy h u T) : isNum n u = numV n x := by
  cases x with
  | int i => obtain ⟨t, rfl⟩ := (show ∃ t, u = Value.int i t from r); rfl
  | non => cases (show u = Value.none from r); rfl
  | bl b => cases (show u = Value.bool b from r); rfl
  | str y => obtain ⟨t, rfl⟩ := (show ∃ t, u = Value.str y t from r); rfl
  | byt y => obtain ⟨t, rfl⟩ := (show ∃ t, u = Value.bytes y t from r); rfl
  | flt y => obtain ⟨t, rfl⟩ := (show ∃ t, u = Value.float y t from r); rfl
  | ref a => cases (show u = Value.ref a from r); rfl
  | ty n => cases (show u = Value.type n from r); rfl
theorem sqT_ne {K : PySem.W.Frag} {H H' : Hp} {a P : Addr} {xs : List V} (h : SqT K H a xs) (tg : GxR.TabG H P) (k : ∀ b, b ≠ P → H' b = H b) : SqT K H' a xs := by
  obtain ⟨ps, hP, _⟩ := tg
  rcases h with (h | ⟨o, h⟩) | h
  · exact .inl (.inl (by rw [k a (ne_of h hP (by intro z; cases z))]; exact h))
  · exact .inl (.inr ⟨o, by rw [k a (ne_of h hP (by intro z; cases z))]; exact h⟩)
  · exact .inr h
theorem vals_at : ∀ {xs : List V} {us : List Value} {i : Nat} {u : Value}, Vals xs us → us[i]? = some u → ∃ x, xs[i]? = some x ∧ RelV x u
  | _, _, _, _, .nil, e => by simp at e
  | _, _, 0, _, .cons r _, e => by simp at e; subst e; exact ⟨_, rfl, r⟩
  | _, _, i + 1, u, .cons _ t, e => by
    obtain ⟨x, h1, h2⟩ := vals_at (i := i) (u := u) t (by simpa using e)
    exact ⟨x, by simpa using h1, h2⟩
end HM
namespace K01
open PySem PySem.Spec PyProof.Rows L2 HM
abbrev sHas : Stmt := topS 3
section
variable {P : Program} {w : World} {K : PySem.W.Frag} {mg : Str → Option Value} {base : Heap}
theorem scHas : FnScope ["things", "many"] ["things", "many"] (defScope sHas) := ⟨rfl, rfl, rfl, by decide +kernel, rfl, by decide +kernel, by decide +kernel⟩
def spHas (K : PySem.W.Frag) (Pt : Addr) : Sp := fun vs H Q _ => ∃ (a : Addr) (n : Int) (xs : List V) (ds : List PyData), vs = [.ref a, .int n] ∧ SqT K H a xs ∧ DpAll K H xs ds ∧ GxR.TabG H Pt ∧ xs.length ≤ 4000 ∧
  ∀ H', GxR.Tabbed Pt H H' → Q (.bl (eachOnce ds n)) H'
theorem ok_has {f fN fW c Pt : Addr} {fd fdN fdW : FuncData} {k : Nat} (F : Fun K "has_each_once" "has_each_once" sHas f fd) (FN : Fun K "is_number" "is_number" sNumber fN fdN) (FW : Fun K "is_whole" "is_whole" sWhole fW fdW)
    (gN : mg "is_number" = some (.ref fN)) (gW : mg "is_whole" = some (.ref fW)) (mz : ∀ x ∈ bn, mg x = none) (hc : fd.code = .ref c) (TB : GxR.TabB base mg c Pt) : FnOk P w K mg base CX0 (k + 1) f fd ["things", "many"] (spHas K Pt) := by
  refine (pfn_of (gd := anyA) F scHas (fun vs H Q E h => ?_) (fun cdv A outer s H vs Q E hcd _ hr h => ?_)).ok
  · obtain ⟨a, n, xs, ds, rfl, _⟩ := h
    rfl
  · obtain ⟨a, n, xs, ds, rfl, hS, hD, tg, hlen, q⟩ := h
    have ml := mz "len" (by decide)
    have hcode : cdv = .ref c := hcd.symm.trans hc
    refine ⟨_, pss_cons (ps_if (pt_cmpR op_ne (pe_callB call_len_seq (by rfl) ml PySem.boot_len (pa_cons (pv 0) pa_nil)) (pv 1) (nomark _)) (pss_one (ps_ret pe_bl)) pss_nil)
      (pss_one (ps_ret (pe_and (pe_allG (c := c) (P := Pt) (Rr := fun σ v H1 m pb => ∃ (a : Addr) (n : Int) (xs : List V), v = .ref a ∧ SqT K H1 a xs ∧ (∀ x ∈ xs, ∃ T, VTy K H1 x T) ∧ σ[1]? = some (some (.int n)) ∧ m = xs.length ∧ pb = fun i => numV n (xs.getD i .non))
          hr (by rfl) (mz "all" (by decide)) TB hcode ⟨rfl, rfl, by decide +kernel, rfl, rfl, fun y hy e => cell_has (by revert y; decide +kernel)⟩ (pv 0) (fun _ => rfl) (fun pins σ v H1 s1 xv m pb I1 r1 tg1 hR => ?gen))
        (pe_one (pe_cmpR op_eq (pe_lenSetT (by rfl) ml (by rfl) (mz "set" (by decide)) (pv 0)) (pv 1) (nomark _)))))), ?_⟩
    case gen =>
      obtain ⟨a, n, xs, rfl, hS, hty, hσ, rfl, rfl⟩ := hR
      cases (show xv = Value.ref a from r1)
      obtain ⟨its, o, fp, St, rv, B⟩ := beg_tup I1 tg1 hS
      refine ⟨its, o, fp, St, rv.length.symm, B, fun A' cenv i u hA hdp hun e1 e2 e3 e4 hi => ?_⟩
      obtain ⟨x, hx, rx⟩ := vals_at rv hi
      obtain ⟨T, ty⟩ := hty x (List.mem_of_getElem? hx)
      have rt := ty.raw I1 rx
      have ex : xs.getD i .non = x := by
        rw [List.getD_eq_getElem?_getD, hx]
        all_goals rfl
      refine rx_mono (R := fun y => y = .bool (isNum n u)) ?_ fun y hy => by
        rw [hy]
        show Value.bool (isNum n u) = Value.bool (numV n (xs.getD i .non))
        rw [ex, rel_num rx rt]
      obtain ⟨ps, hPt, ht⟩ := _root_.id tg1
      have hPs : s1.heap.get? Pt = some { cls := .none, data := .fields ps } := I1.hok Pt _ hPt
      have fm : Firm (fun h => GrowsBut Pt s1.heap h ∧ ∃ m, h.Ns cenv.locals m ∧ m "thing" = some u) := fun h h' hs k => ⟨fun b ob hb e => k b ob (hs.1 b ob hb e), let ⟨m, h1, h2⟩ := hs.2; ⟨m, h1.keeps k, h2⟩⟩
      have hk : cenv.scope.kind = .function := by rw [e1]
      have hd := hr.dp
      have hdp2 : A'.depth ≤ (A.deeper (envOfC "has_each_once" (defScope sHas) s.heap.objs.size f cdv)).depth + 1 := hdp
      refine rx_callD2 fm (fun h hs => (mod_but I1 tg1 hs.1).kin) FN.kp (rx_glob hk (by show cenv.scope.names.lookup _ = _; rw [e1]; rfl) e2 (fun h hs => mod_but I1 tg1 hs.1) gN) (rx_local hk (by show cenv.scope.names.lookup _ = _; rw [e1]; rfl) fun h hs => hs.2)
        (Rb := fun y => ∃ t, y = .int n t) (fun E s2 hs => ?_) fun E s2 u2 v2 hs hu hv => ?_
      · obtain ⟨cc, uu, h1, h2, h3⟩ := free_cell (scope := _) (i := 1) (y := "many") (v := .int n) I1 tg1 hs.1 rfl hσ rfl fun c0 h0 => by
          rw [← e4]
          show cenv.cells.lookup _ = _
          rw [e4]
          show List.lookup _ [(_, (_ : Option Addr).getD 0)] = some c0
          rw [h0]
          rfl
        obtain ⟨t, rfl⟩ := (show ∃ t, uu = Value.int n t from h2)
        have fr : ∀ p, RX P w A' cenv (fun h => h.IsCell cc (some (.int n t))) (.Name "many" p) (fun y => y = .int n t) := fun p => rx_free hk (by show cenv.scope.names.lookup _ = _; rw [e1]; rfl) (by rw [e4]; exact h1) (fun h hh => hh)
        exact thn (fr _ E s2 h3) fun y s3 q => ⟨⟨t, q.1⟩, q.2⟩
      · subst hu
        obtain ⟨t, rfl⟩ := hv
        exact raw_number FN FW gW (mz "isinstance" (by decide)) (mz "int" (by decide)) (mz "bool" (by decide)) (mod_but I1 tg1 hs.1) (by omega) (rt.but hPs hs.1)
    -- the reading
    refine ⟨.ref a, rfl, a, xs, rfl, .inr hS, .int n, rfl, rfl, _, rfl, ite2 (fun e => ?_) (fun e => ?_)⟩
    · have e2 : ¬ ((xs.length : Int) = n) := fun z => by
        rw [z] at e
        simp at e
      have e3 : eachOnce ds n = false := by
        unfold eachOnce
        rw [decide_eq_false (by rw [← dps_len hD]; exact e2)]
        rfl
      rw [← e3]
      exact q H ⟨tg, fun _ _ => rfl⟩
    · have e2 : (xs.length : Int) = n := by
        have z : ¬ (!decide (V.int (xs.length : Int) = V.int n)) = true := e
        simp at z
        exact z
      refine ⟨.ref a, rfl, tg, _, _, ⟨a, n, xs, rfl, hS, dps_ty hD, rfl, rfl, rfl⟩, fun H2 hT => ⟨_, rfl, ?_⟩⟩
      rw [all_range V.non (numV n) xs, dps_num n hD]
      have e4 : eachOnce ds n = (ds.all (numD n) && decide (ds.map itD).Nodup) := by
        unfold eachOnce
        rw [decide_eq_true (by rw [← dps_len hD]; exact e2)]
        rfl
      by_cases ha : ds.all (numD n) = true
      · rw [if_pos ha]
        have hx := all_ints (n := n) (xs := xs) (by rw [dps_num n hD]; exact ha)
        refine ⟨.ref a, rfl, a, xs.map intV, rfl, by rw [← hx]; exact sqT_ne hS tg hT.2, by rw [List.length_map]; exact hlen, fun cc hcc => ⟨.int n, rfl, rfl, ?_⟩⟩
        have hq := q H2 hT
        rw [e4, ha, Bool.true_and] at hq
        have e5 : decide (V.int ((cc : Nat) : Int) = V.int n) = decide (ds.map itD).Nodup := by
          rw [← dps_int hD, decide_eq_decide, ← (dist_all hcc).2, List.length_map]
          constructor
          · intro z
            have z' := V.int.inj z
            omega
          · intro z
            rw [z, e2]
        rw [e5]
        exact hq
      · rw [if_neg ha]
        have hq := q H2 hT
        rw [e4, Bool.not_eq_true _ |>.mp ha, Bool.false_and] at hq
        exact hq
end
end K01


namespace HM
open PySem PySem.Spec PyProof.Rows L2
theorem VTy.tyx {K : PySem.W.Frag} {H : Hp} {x : V} {T : String} (t : VTy K H x T) : TyX K H x (.type T) := by
  cases t with
  | non => exact .base .non
  | bl b => exact .base (.bl b)
  | int i => exact .base (.int i)
  | str y => exact .base (.str y)
  | lst e =>
    rcases e with (e | ⟨o, e⟩) | ⟨o, its, n, hk, hc, _⟩
    · exact .base (.lst e)
    · exact .base (.frz e)
    · exact .kList hk hc
  | tup e =>
    rcases e with (e | ⟨o, e⟩) | ⟨o, its, n, hk, hc, _⟩
    · exact .base (.tup e)
    · exact .fTuple e
    · exact .kTuple hk hc
  | dct e => exact .base (.dK e)
/-- what a thing is, for who asks whether it is a turn -/
def TC (K : PySem.W.Frag) (H : Hp) (x : V) (d : PyData) : Prop := (∃ (a : Addr) (xs : List V) (ds : List PyData), x = .ref a ∧ d = .tuple ds ∧ TF H a xs ∧ DpAll K H xs ds) ∨ (∃ T, VTy K H x T ∧ kitB T "tuple" = some false ∧ turnD d = false)
def isI : PyData → Bool
  | .int _ => true
  | _ => false
theorem item_kit {K : PySem.W.Frag} {H : Hp} {v : V} {d : PyData} (h : Dp K H v d) : ∃ T b1 b2, VTy K H v T ∧ kitB T "int" = some b1 ∧ kitB T "bool" = some b2 ∧ (b1 && !b2) = isI d := by
  cases h with
  | non => exact ⟨_, false, false, .non, by decide +kernel, by decide +kernel, rfl⟩
  | bl b => exact ⟨_, true, true, .bl b, by decide +kernel, by decide +kernel, rfl⟩
  | int i => exact ⟨_, true, false, .int i, by decide +kernel, by decide +kernel, rfl⟩
  | str x => exact ⟨_, false, false, .str x, by decide +kernel, by decide +kernel, rfl⟩
  | lst h _ => exact ⟨_, false, false, .lst h, by decide +kernel, by decide +kernel, rfl⟩
  | tup h _ => exact ⟨_, false, false, .tup h, by decide +kernel, by decide +kernel, rfl⟩
theorem dps_at {K : PySem.W.Frag} {H : Hp} : ∀ {vs : List V} {ds : List PyData} {i : Nat} {v : V}, DpAll K H vs ds → vs[i]? = some v → ∃ d, ds[i]? = some d ∧ Dp K H v d
  | _, _, _, _, .nil, e => by simp at e
  | _, _, 0, _, .cons h _, e => by simp at e; subst e; exact ⟨_, rfl, h⟩
  | _, _, i + 1, v, .cons _ t, e => by
    obtain ⟨d, h1, h2⟩ := dps_at (i := i) (v := v) t (by simpa using e)
    exact ⟨d, by simpa using h1, h2⟩
/-! ### counting -/
def inR (n : Int) (i : Int) : Bool := decide (0 ≤ i) && decide (i < n)
theorem inR_iff {n : Nat} {i : Int} : inR (n : Int) i = true ↔ i ∈ iota n := by
  unfold inR iota
  rw [Bool.and_eq_true, decide_eq_true_eq, decide_eq_true_eq, List.mem_map]
  constructor
  · rintro ⟨h1, h2⟩
    exact ⟨i.toNat, List.mem_range.mpr (by omega), by omega⟩
  · rintro ⟨j, hj, e⟩
    have := List.mem_range.mp hj
    omega
theorem iota_nodup (n : Nat) : (iota n).Nodup := by
  unfold iota
  exact List.Pairwise.map _ (fun a b h z => h (by omega)) List.nodup_range
theorem count_nodup : ∀ {zs : List Int} {k : Int}, zs.Nodup → k ∈ zs → zs.count k = 1
  | z :: zs, k, nd, h => by
    have nd2 := List.nodup_cons.mp nd
    by_cases e : z = k
    · subst e
      rw [List.count_cons_self, List.count_eq_zero.mpr nd2.1]
    · rw [List.count_cons_of_ne e]
      exact count_nodup nd2.2 ((List.mem_cons.mp h).resolve_left fun q => e q.symm)
theorem due_iff {zs : List Int} {n : Nat} (h : zs.length = n) : ((iota n).all fun k => decide (zs.count k = 1)) = (zs.all (inR n) && decide zs.Nodup) := by
  rw [Bool.eq_iff_iff, List.all_eq_true, Bool.and_eq_true, List.all_eq_true, decide_eq_true_eq]
  constructor
  · intro hc
    have p : (iota n).Perm zs := perm_sub (iota_nodup n) (fun x hx => by
      have q := of_decide_eq_true (hc x hx)
      exact List.count_pos_iff.mp (by omega)) (by rw [iota_len, h]; exact Nat.le_refl _)
    exact ⟨fun x hx => inR_iff.mpr (p.symm.subset hx), p.nodup_iff.mp (iota_nodup n)⟩
  · rintro ⟨h1, h2⟩ k hk
    have p : zs.Perm (iota n) := perm_sub h2 (fun x hx => inR_iff.mp (h1 x hx)) (by rw [iota_len, h]; exact Nat.le_refl _)
    exact decide_eq_true (count_nodup h2 (p.symm.subset hk))
theorem num_ints (n : Int) : ∀ {ds : List PyData}, ds.all isI = true → ds.all (numD n) = (ds.map itD).all (inR n)
  | [], _ => rfl
  | d :: ds, h => by
    rw [List.all_cons, Bool.and_eq_true] at h
    rw [List.all_cons, List.map_cons, List.all_cons, num_ints n h.2]
    cases d with
    | int i => rfl
    | _ => exact absurd h.1 Bool.false_ne_true
theorem num_isI (n : Int) : ∀ {ds : List PyData}, ds.all isI = false → ds.all (numD n) = false
  | [], h => by cases h
  | d :: ds, h => by
    rw [List.all_cons] at h ⊢
    cases e : isI d with
    | true =>
      rw [e, Bool.true_and] at h
      rw [num_isI n h, Bool.and_false]
    | false => cases d <;> first | rfl | cases e
theorem dps_ints {K : PySem.W.Frag} {H : Hp} : ∀ {vs : List V} {ds : List PyData}, DpAll K H vs ds → ds.all isI = true → vs = (ds.map itD).map V.int
  | _, _, .nil, _ => rfl
  | _, _, .cons h t, e => by
    rw [List.all_cons, Bool.and_eq_true] at e
    rw [List.map_cons, List.map_cons, ← dps_ints t e.2]
    cases h with
    | int i => rfl
    | _ => exact absurd e.1 Bool.false_ne_true
theorem eqv_nil (ns : List Int) : PyData.eqv (.list (ns.map .int)) (.list []) = ns.isEmpty := by cases ns <;> rfl
theorem dp_ints {K : PySem.W.Frag} {H : Hp} : ∀ ns : List Int, DpAll K H (ns.map V.int) (ns.map .int)
  | [] => .nil
  | n :: ns => .cons (.int n) (dp_ints ns)
theorem shaped_ints (ns : List Int) : SeqAt.shaped (.list (ns.map .int)) = true := by
  have h1 : ∀ l : List Int, PyData.canLayAll0 (l.map .int) = true := fun l => by
    induction l with
    | nil => rfl
    | cons a l ih => simpa [PyData.canLayAll0, PyData.canLay0] using ih
  have h2 : ∀ l : List Int, PyData.depthAll (l.map .int) = 0 := fun l => by
    induction l with
    | nil => rfl
    | cons a l ih => simpa [PyData.depthAll, PyData.depth] using ih
  unfold SeqAt.shaped
  rw [Bool.and_eq_true]
  exact ⟨by simpa [PyData.canLay0] using h1 ns, by simp [PyData.depth, h2 ns]⟩
section
variable {X : Cx}
def rCntT (K : PySem.W.Frag) : V → List V → Hp → VK → Prop := fun x xs H Q => ∃ (p : Addr) (ns : List Int) (k : Int), x = .ref p ∧ xs = [.int k] ∧ SqT K H p (ns.map V.int) ∧ Q (.int (ns.count k : Nat)) H
theorem mt_tcount : MtR X "tuple.count" (rCntT X.K) := by
  intro pins s σ H x xs v us Q I rx rxs h
  obtain ⟨p, ns, k, rfl, rfl, hs, q⟩ := h
  cases rx
  obtain ⟨u, rfl, ru⟩ := rxs.one
  obtain ⟨t, rfl⟩ := ru
  obtain ⟨its, rv, ⟨⟨cls, dd, data, sl⟩, ho, hc, n, hd⟩, hlen⟩ := I.tuple hs
  simp only at hc hd
  subst hc hd
  have hi := RZ.intsAre_vals rv
  refine call_meets PySem.F.slot_tuple_count ⟨_, ho, rfl⟩ PySem.F.entry_tuple_count (PySem.F.args_tuple_count_2 _ _) (SeqAt.tuple_countAt p its.toArray n dd sl (.int k t) (eqk k)) ⟨ho, fun y hy => (eqk_gives hi y (by simpa using hy)).at _ _, ?_⟩
  refine ⟨.int (ns.count k : Nat), H, I.tok _, ⟨s.toks, ?_⟩, q⟩
  rw [show its.toArray.toList.countP (eqk k) = ns.count k from eqk_count hi]
end
end HM
namespace K01
open PySem PySem.Spec PyProof.Rows L2 HM
abbrev sCan : Stmt := topS 6
abbrev sTurn : Stmt := topS 7
abbrev sDue : Stmt := topS 12
section
variable {P : Program} {w : World} {K : PySem.W.Frag} {mg : Str → Option Value} {base : Heap}
theorem scWhole : FnScope ["thing"] ["thing"] (defScope sWhole) := ⟨rfl, rfl, rfl, by decide +kernel, rfl, by decide +kernel, by decide +kernel⟩
def spWhole : Sp := fun vs H Q _ => ∃ n : Int, vs = [.int n] ∧ Q (.bl true) H
theorem ok_whole {f : Addr} {fd : FuncData} {k : Nat} (F : Fun K "is_whole" "is_whole" sWhole f fd) (mz : ∀ x ∈ bn, mg x = none) : FnOk P w K mg base CX0 (k + 1) f fd ["thing"] spWhole := by
  refine F.ok scWhole (fun vs H Q E h => ?_) (fun cdv A outer s H vs Q E hr h => ?_)
  · obtain ⟨n, rfl, _⟩ := h
    rfl
  · obtain ⟨n, rfl, q⟩ := h
    have mi := mz "isinstance" (by decide)
    refine ⟨_, pss_one (ps_ret (pe_and (pe_callB call_isi (by rfl) mi boot_isinstance (pa_cons (pv 0) (pa_cons (pe_bltn (v := .ty "int") (by rfl) (mz "int" (by decide)) (by decide +kernel) rfl) pa_nil)))
      (pe_one (pe_not (pe_callB call_isi (by rfl) mi boot_isinstance (pa_cons (pv 0) (pa_cons (pe_bltn (v := .ty "bool") (by rfl) (mz "bool" (by decide)) (by decide +kernel) rfl) pa_nil))))))), ?_⟩
    refine ⟨_, rfl, _, _, _, _, _, rfl, .ty _, .base (.int n), kit_ty (r := true) (by decide +kernel), _, rfl, iteT ⟨_, rfl, _, _, _, _, _, rfl, .ty _, .base (.int n), kit_ty (r := false) (by decide +kernel), _, rfl, q⟩⟩
theorem scCan : FnScope ["many"] ["many"] (defScope sCan) := ⟨rfl, rfl, rfl, by decide +kernel, rfl, by decide +kernel, by decide +kernel⟩
def spCan : Sp := fun vs H Q _ => ∃ n : Int, vs = [.int n] ∧ Q (.bl (decide (1 ≤ n) && decide (n ≤ 7))) H
theorem ok_can {f fW : Addr} {fd fdW : FuncData} {k : Nat} {tM : Tok} (F : Fun K "can_be_turned" "can_be_turned" sCan f fd) (FW : Fun K "is_whole" "is_whole" sWhole fW fdW) (bW : Binds K fdW ["thing"] []) (gW : mg "is_whole" = some (.ref fW)) (gM : mg "MOST_THINGS" = some (.int 7 tM))
    (mz : ∀ x ∈ bn, mg x = none) : FnOk P w K mg base CX0 (k + 2) f fd ["many"] spCan := by
  have GW : FnOk P w K mg base CX0 (k + 1) fW fdW ["thing"] spWhole := ok_whole FW mz
  refine F.ok scCan (fun vs H Q E h => ?_) (fun cdv A outer s H vs Q E hr h => ?_)
  · obtain ⟨n, rfl, _⟩ := h
    rfl
  · obtain ⟨n, rfl, q⟩ := h
    refine ⟨_, pss_one (ps_ret (pe_and (pe_call GW hr (by rfl) gW FW.kp bW .nil pass0 (pa_cons (pv 0) pa_nil)) (pe_one (pe_chain op_le op_le pe_int (pv 0) (pe_glob (v := .int 7) (by rfl) gM ⟨_, rfl⟩))))), ?_⟩
    refine ⟨_, rfl, n, rfl, _, rfl, iteT ⟨_, rfl, _, _, rfl, rfl, _, rfl, ?_⟩⟩
    by_cases h1 : (1 : Int) ≤ n
    · rw [decide_eq_true h1] at q ⊢
      exact iteT ⟨_, _, rfl, rfl, q⟩
    · rw [decide_eq_false h1] at q ⊢
      exact iteF q
theorem scTurn : FnScope ["thing"] ["thing"] (defScope sTurn) := ⟨rfl, rfl, rfl, by decide +kernel, rfl, by decide +kernel, by decide +kernel⟩
def spTurn (K : PySem.W.Frag) (Pt : Addr) : Sp := fun vs H Q _ => ∃ (x : V) (d : PyData), vs = [x] ∧ TC K H x d ∧ GxR.TabG H Pt ∧ (∀ ds, d = .tuple ds → ds.length ≤ 4000) ∧ ∀ H', GxR.Tabbed Pt H H' → Q (.bl (turnD d)) H'
theorem ok_turn {f fH fN fW fC c Pt : Addr} {fd fdH fdN fdW fdC : FuncData} {k : Nat} {tM : Tok} (F : Fun K "is_turn" "is_turn" sTurn f fd) (FH : Fun K "has_each_once" "has_each_once" sHas fH fdH) (FN : Fun K "is_number" "is_number" sNumber fN fdN) (FW : Fun K "is_whole" "is_whole" sWhole fW fdW)
    (FC : Fun K "can_be_turned" "can_be_turned" sCan fC fdC) (bH : Binds K fdH ["things", "many"] []) (bW : Binds K fdW ["thing"] []) (bC : Binds K fdC ["many"] []) (gH : mg "has_each_once" = some (.ref fH)) (gN : mg "is_number" = some (.ref fN)) (gW : mg "is_whole" = some (.ref fW)) (gC : mg "can_be_turned" = some (.ref fC))
    (gM : mg "MOST_THINGS" = some (.int 7 tM)) (mz : ∀ x ∈ bn, mg x = none) (hc : fdH.code = .ref c) (TB : GxR.TabB base mg c Pt) : FnOk P w K mg base CX0 (k + 3) f fd ["thing"] (spTurn K Pt) := by
  have GH : FnOk P w K mg base CX0 (k + 2) fH fdH ["things", "many"] (spHas K Pt) := ok_has FH FN FW gN gW mz hc TB
  have GC : FnOk P w K mg base CX0 (k + 2) fC fdC ["many"] spCan := ok_can FC FW bW gW gM mz
  refine F.ok scTurn (fun vs H Q E h => ?_) (fun cdv A outer s H vs Q E hr h => ?_)
  · obtain ⟨x, d, rfl, _⟩ := h
    rfl
  · obtain ⟨x, d, rfl, hp, tg, hl, q⟩ := h
    have mi := mz "isinstance" (by decide)
    have ml := mz "len" (by decide)
    refine ⟨_, pss_one (ps_ret (pe_and (pe_callB call_isi (by rfl) mi boot_isinstance (pa_cons (pv 0) (pa_cons (pe_bltn (v := .ty "tuple") (by rfl) (mz "tuple" (by decide)) (by decide +kernel) rfl) pa_nil)))
      (pe_and (pe_call GC hr (by rfl) gC FC.kp bC .nil pass0 (pa_cons (pe_callB call_len_seq (by rfl) ml PySem.boot_len (pa_cons (pv 0) pa_nil)) pa_nil))
      (pe_one (pe_call GH hr (by rfl) gH FH.kp bH .nil pass0 (pa_cons (pv 0) (pa_cons (pe_callB call_len_seq (by rfl) ml PySem.boot_len (pa_cons (pv 0) pa_nil)) pa_nil))))))), ?_⟩
    rcases hp with ⟨a, xs, ds, rfl, rfl, hF, hD⟩ | ⟨T, ty, hk, ht⟩
    · have hS : SqT K H a xs := hF.sq
      have el := dps_len hD
      refine ⟨_, rfl, _, _, _, _, _, rfl, .ty _, (VTy.tup hS).tyx, kit_ty (r := true) (by decide +kernel), _, rfl, iteT ⟨_, rfl, a, xs, rfl, .inr hS, _, rfl, _, rfl, ?_⟩⟩
      have q1 : ∀ H', GxR.Tabbed Pt H H' → Q (.bl ((decide (1 ≤ ds.length) && decide (ds.length ≤ 7)) && eachOnce ds ds.length)) H' := q
      have e1 : (decide ((1 : Int) ≤ (xs.length : Int)) && decide ((xs.length : Int) ≤ 7)) = (decide (1 ≤ ds.length) && decide (ds.length ≤ 7)) := by
        rw [el]
        congr 1
        · exact decide_eq_decide.mpr (by omega)
        · exact decide_eq_decide.mpr (by omega)
      rw [e1]
      cases hb : (decide (1 ≤ ds.length) && decide (ds.length ≤ 7)) with
      | true =>
        rw [hb] at q1
        refine iteT ⟨_, rfl, _, rfl, a, xs, rfl, .inr hS, a, _, xs, ds, rfl, hS, hD, tg, by rw [el]; exact hl ds rfl, fun H' hT => ?_⟩
        have z := q1 H' hT
        rw [Bool.true_and] at z
        rw [el]
        exact z
      | false =>
        rw [hb, ] at q1
        refine iteF ?_
        have z := q1 H ⟨tg, fun _ _ => rfl⟩
        rw [Bool.false_and] at z
        exact z
    · refine ⟨_, rfl, _, _, _, _, _, rfl, .ty _, ty.tyx, kit_ty hk, _, rfl, iteF ?_⟩
      rw [← ht]
      exact q H ⟨tg, fun _ _ => rfl⟩
theorem scDue : FnScope ["_law_thing", "_law_one", "_law_number"] ["_law_thing"] (defScope sDue) := ⟨rfl, rfl, rfl, by decide +kernel, rfl, by decide +kernel, by decide +kernel⟩
def spDue (K : PySem.W.Frag) : Sp := fun vs H Q _ => ∃ (x : V) (d : PyData), vs = [x] ∧ TC K H x d ∧ (∀ ds, d = .tuple ds → ds.length ≤ 4000) ∧ ∀ H', Same H H' → Q (.bl (turnD d)) H'
theorem ok_due {f : Addr} {fd : FuncData} {k : Nat} (F : Fun K "_law_due" "_law_due" sDue f fd) (mz : ∀ x ∈ bn, mg x = none) : FnOk P w K mg base CX0 (k + 1) f fd ["_law_thing"] (spDue K) := by
  refine F.ok scDue (fun vs H Q E h => ?_) (fun cdv A outer s H vs Q E hr h => ?_)
  · obtain ⟨x, d, rfl, _⟩ := h
    rfl
  · obtain ⟨x, d, rfl, hp, hl, q⟩ := h
    have mi := mz "isinstance" (by decide)
    have ml := mz "len" (by decide)
    have hu := hr.units
    refine ⟨_, pss_cons (ps_if (pw_or (pt_not (pt_val (pe_callB call_isi (by rfl) mi boot_isinstance (pa_cons (pv 0) (pa_cons (pe_bltn (v := .ty "tuple") (by rfl) (mz "tuple" (by decide)) (by decide +kernel) rfl) pa_nil)))))
        (pw_or (pt_cmpR op_eq (pe_callB call_len_seq (by rfl) ml PySem.boot_len (pa_cons (pv 0) pa_nil)) pe_int (nomark _)) (pw_or1 (pt_cmpR op_gt (pe_callB call_len_seq (by rfl) ml PySem.boot_len (pa_cons (pv 0) pa_nil)) pe_int (nomark _))))).pt (pss_one (ps_ret pe_bl)) pss_nil)
      (pss_cons (ps_for PassesOwn.never rfl (pi_tup (pv 0)) (pg_name (i := 1) scDue.nd rfl (.inl rfl))
        (pss_one (ps_if (pw_or (pt_not (pt_val (pe_callB call_isi (by rfl) mi boot_isinstance (pa_cons (pv 1) (pa_cons (pe_bltn (v := .ty "int") (by rfl) (mz "int" (by decide)) (by decide +kernel) rfl) pa_nil)))))
          (pw_or1 (pt_val (pe_callB call_isi (by rfl) mi boot_isinstance (pa_cons (pv 1) (pa_cons (pe_bltn (v := .ty "bool") (by rfl) (mz "bool" (by decide)) (by decide +kernel) rfl) pa_nil)))))).pt (pss_one (ps_ret pe_bl)) pss_nil)))
      (pss_one (ps_ret (pe_cmpR (op_eqD hu) (pe_lc (own := [("_law_number", 2)]) (g := gName 2) (tt := tTest (tOp rNe (tTM (rCntT K) (tVar 0) (tCons (tVar 2) tNil)) (tC (.int 1)))) (te := tVar 2) rfl scDue.nd (pi_range1 (by rfl) (mz "range" (by decide)) (pa_cons (pe_callB call_len_seq (by rfl) ml PySem.boot_len (pa_cons (pv 0) pa_nil)) pa_nil))
        (blkOk_by (N := ["_law_thing", "_law_one", "_law_number"]) (sc := defScope sDue) (by decide +kernel)) (fun _ _ _ _ _ => pg_name (i := 2) scDue.nd rfl (.inl rfl))
        (fun _ _ _ _ _ => pts_one (pt_cmpR op_ne (pe_tm PySem.F.slot_tuple_count PySem.F.type_tuple_count mt_tcount (pv 0) (pa_cons (pv 2) pa_nil)) pe_int (nomark _)))
        (fun _ _ _ _ _ => pv 2)) (pe_lst pa_nil) (nomark _))))), ?_⟩
    rcases hp with ⟨a, xs, ds, rfl, rfl, hF, hD⟩ | ⟨T, ty, hk, ht⟩
    · have hS : SqT K H a xs := hF.sq
      have el := dps_len hD
      have q1 : ∀ H', Same H H' → Q (.bl ((decide (1 ≤ ds.length) && decide (ds.length ≤ 7)) && eachOnce ds ds.length)) H' := q
      refine ⟨_, rfl, _, _, _, _, _, rfl, .ty _, (VTy.tup hS).tyx, kit_ty (r := true) (by decide +kernel), _, rfl, iteF ⟨_, rfl, a, xs, rfl, .inr hS, rfl, _, rfl, ite2 (fun e => ?_) (fun e => ⟨_, rfl, a, xs, rfl, .inr hS, _, _, rfl, rfl, _, rfl, ite2 (fun e2 => ?_) (fun e2 => ?_)⟩)⟩⟩
      · have e0 : (xs.length : Int) = 0 := V.int.inj (of_decide_eq_true e)
        have z := q1 H (Same.refl H)
        rw [decide_eq_false (show ¬ 1 ≤ ds.length by omega)] at z
        exact iteT z
      · have e0 : (7 : Int) < (xs.length : Int) := of_decide_eq_true e2
        have z := q1 H (Same.refl H)
        rw [decide_eq_false (show ¬ ds.length ≤ 7 by omega), Bool.and_false, Bool.false_and] at z
        exact z
      · have e0 : ¬ (xs.length : Int) = 0 := fun z => e (decide_eq_true (by rw [z]))
        have e1 : ¬ (7 : Int) < (xs.length : Int) := fun z => e2 (decide_eq_true z)
        have q2 : ∀ H', Same H H' → Q (.bl (ds.all (numD ds.length) && decide (ds.map itD).Nodup)) H' := fun H' hs => by
          have z := q1 H' hs
          rw [decide_eq_true (show 1 ≤ ds.length by omega), decide_eq_true (show ds.length ≤ 7 by omega), Bool.true_and, Bool.true_and] at z
          unfold eachOnce at z
          rw [decide_eq_true rfl, Bool.true_and] at z
          exact z
        refine ⟨.ref a, rfl, a, rfl, ⟨xs, hS⟩, for_tup (xs := xs) (fun i σ H2 => H2 = H ∧ (∃ y1, σ = [some (.ref a), y1, none]) ∧ (ds.take i).all isI = true) ⟨rfl, ⟨none, rfl⟩, rfl⟩ (fun i σ H2 _ hP => by rw [hP.1]; exact hS) (fun i x σ H2 hx hP => ?_) (fun σ H2 hP => ?_)⟩
        · obtain ⟨rfl, ⟨y1, rfl⟩, hall⟩ := hP
          obtain ⟨d, hd, hdp⟩ := dps_at hD hx
          obtain ⟨T, b1, b2, ty, k1, k2, kb⟩ := item_kit hdp
          have hbad : isI d = false → Q (.bl false) H2 := fun hf => by
            have hf2 : ds.all isI = false := by
              rw [← Bool.not_eq_true]
              intro z
              rw [List.all_eq_true.mp z d (List.mem_of_getElem? hd)] at hf
              cases hf
            have z := q2 H2 (Same.refl H2)
            rw [num_isI _ hf2, Bool.false_and] at z
            exact z
          refine ⟨_, rfl, _, _, _, _, _, rfl, .ty _, ty.tyx, kit_ty k1, _, rfl, ?_⟩
          cases b1 with
          | false =>
            refine iteT (iteT (hbad ?_))
            rw [← kb]
            rfl
          | true =>
            refine iteF ⟨_, rfl, _, _, _, _, _, rfl, .ty _, ty.tyx, kit_ty k2, _, rfl, ?_⟩
            cases b2 with
            | true =>
              refine iteT (hbad ?_)
              rw [← kb]
              rfl
            | false =>
              refine iteF ⟨rfl, ⟨_, rfl⟩, ?_⟩
              have hi : i < ds.length := (List.getElem?_eq_some_iff.mp hd).1
              rw [List.take_add_one, hd, List.all_append, hall]
              show (true && (isI d && true)) = true
              rw [← kb]
              rfl
        · obtain ⟨rfl, ⟨y1, rfl⟩, hall⟩ := hP
          rw [List.take_of_length_le (by omega)] at hall
          have hxs := dps_ints hD hall
          obtain ⟨zs, ezs⟩ : ∃ zs, zs = ds.map itD := ⟨_, rfl⟩
          have hzl : zs.length = ds.length := by rw [ezs, List.length_map]
          rw [← ezs] at hxs
          refine ⟨_, rfl, a, xs, rfl, .inr hS, (xs.length : Int), rfl, by omega, by omega, fun D nD => ?_⟩
          have s1 : Same H2 (upd H2 D (.lst [])) := fun b o e => by rw [upd_ne (ne_of_none e nD)]; exact e
          rw [Int.toNat_natCast]
          refine lc_range (n := xs.length) (fun i H3 => H3 = upd H2 D (.lst ((((iota i).filter fun k => !decide (zs.count k = 1)).map V.int)))) rfl (fun i H3 hi hP => ?_) fun H3 hP => ?_
          · subst hP
            have hF3 : TF (upd H2 D (.lst ((((iota i).filter fun k => !decide (zs.count k = 1)).map V.int)))) a xs := by
              obtain ⟨o, ho, h⟩ := hF
              exact ⟨o, ho, by rw [upd_ne (ne_of_none h nD)]; exact h⟩
            have hS3 : SqT K (upd H2 D (.lst ((((iota i).filter fun k => !decide (zs.count k = 1)).map V.int)))) a (zs.map V.int) := by
              rw [← hxs]
              rcases hS with (h | ⟨o, h⟩) | h
              · exact .inl (.inl (by rw [upd_ne (ne_of_none h nD)]; exact h))
              · exact .inl (.inr ⟨o, by rw [upd_ne (ne_of_none h nD)]; exact h⟩)
              · exact .inr h
            have ei : iota (i + 1) = iota i ++ [((i : Nat) : Int)] := by
              unfold iota
              rw [List.range_succ, List.map_append]
              rfl
            refine ⟨rfl, .ref a, rfl, ⟨a, xs, rfl, hF3⟩, _, rfl, a, zs, _, rfl, rfl, hS3, rfl, _, rfl, ?_⟩
            rw [Int.zero_add]
            by_cases hc : zs.count ((i : Nat) : Int) = 1
            · refine iteNS (by rw [hc]; rfl) ?_
              show _ = _
              rw [ei, List.filter_append, List.filter_cons_of_neg (by simp [hc]), List.filter_nil, List.append_nil]
            · have hcv : (!decide (V.int ((zs.count ((i : Nat) : Int) : Nat) : Int) = V.int 1)) = true := by
                rw [decide_eq_false fun z => hc (by have z' := V.int.inj z; omega)]
                rfl
              rw [hcv]
              refine iteT ⟨_, rfl, _, upd_same, ?_, ?_⟩
              · rw [List.length_map]
                refine small1000 ?_
                have := List.length_filter_le (fun k => !decide (zs.count k = 1)) (iota i)
                rw [iota_len] at this
                omega
              · show _ = _
                rw [upd_upd, ei, List.filter_append, List.filter_cons_of_pos (by simp [hc]), List.filter_nil, List.map_append]
                rfl
          · subst hP
            refine ⟨Nat.zero_le _, fun E2 nE => ?_⟩
            have nDE : D ≠ E2 := fun z => by
              rw [← z, upd_same] at nE
              cases nE
            refine ⟨_, _, .lst (.inl (.inl (by rw [upd_ne nDE]; exact upd_same))) (dp_ints _), .lst (.inl (.inl upd_same)) .nil, shaped_ints _, by decide +kernel, ?_⟩
            rw [eqv_nil]
            have ef : ((iota xs.length).filter fun k => !decide (zs.count k = 1)).isEmpty = (ds.all (numD ds.length) && decide (ds.map itD).Nodup) := by
              rw [num_ints _ hall, ← ezs, ← due_iff hzl, el, Bool.eq_iff_iff, List.isEmpty_iff, List.filter_eq_nil_iff, List.all_eq_true]
              constructor
              · intro h k hk
                have z := h k hk
                simpa using z
              · intro h k hk
                have z := h k hk
                simpa using z
            rw [ef]
            refine q2 _ fun b o e => ?_
            rw [upd_ne (ne_of_none (s1 b o e |> fun z => by
              have nb : b ≠ D := ne_of_none e nD
              rw [upd_ne nb]
              exact e) nE), upd_ne (ne_of_none e nD)]
            exact e
    · refine ⟨_, rfl, _, _, _, _, _, rfl, .ty _, ty.tyx, kit_ty hk, _, rfl, iteT (iteT ?_)⟩
      rw [← ht]
      exact q H (Same.refl H)
end
end K01


namespace HM
open PySem PySem.Spec PyProof.Rows L2
/-! ### how long a repr may be -/
mutual
def cost : PyData → Nat
  | .none => 4
  | .bool _ => 5
  | .int _ => 1921
  | .str x => (reprText x).length
  | .list xs => costs xs + 2
  | .tuple xs => costs xs + 2
  | .dict kvs => costKv kvs + 2
def costs : List PyData → Nat
  | [] => 0
  | x :: xs => cost x + 2 + costs xs
def costKv : List (PyData × PyData) → Nat
  | [] => 0
  | (k, v) :: r => cost k + 2 + cost v + 2 + costKv r
end
theorem textFrom_up : ∀ (ts : List Str) (k : Nat) (acc : Str), (textFrom k acc ts).length ≤ acc.length + piled ts
  | [], k, acc => by
    rw [piled_nil]
    exact Nat.le_refl _
  | t :: r, k, acc => by
    rw [piled_cons]
    unfold textFrom
    refine Nat.le_trans (textFrom_up r _ _) ?_
    split
    · rw [strLen_append, strLen_append, show ((", " : Str)).length = 2 by decide +kernel]
      omega
    · rw [strLen_append, strLen_append, show (("" : Str)).length = 0 by decide +kernel]
      omega
theorem listText_up (ts : List Str) : (listText ts).length ≤ piled ts + 2 := by
  unfold listText
  rw [strLen_append, show (("]" : Str)).length = 1 by decide +kernel]
  have h := textFrom_up ts 0 "["
  rw [show (("[" : Str)).length = 1 by decide +kernel] at h
  omega
theorem dictText_up (ts : List Str) : (dictText ts).length ≤ piled ts + 2 := by
  unfold dictText
  rw [strLen_append, strLen_append, show (("{" : Str)).length = 1 by decide +kernel, show (("}" : Str)).length = 1 by decide +kernel]
  cases ts with
  | nil => decide +kernel
  | cons t r =>
    have := join_length_add (t :: r) (by simp)
    omega
mutual
theorem shown_le : ∀ d : PyData, d.showable = true → d.shown.length ≤ cost d
  | .none, _ => by
    show (("None" : Str)).length ≤ 4
    decide +kernel
  | .bool b, _ => by
    cases b
    · show (("False" : Str)).length ≤ 5
      decide +kernel
    · show (("True" : Str)).length ≤ 5
      decide +kernel
  | .int i, h => by
    have h2 : i.natAbs.log2 < 1920 := by simpa [PyData.showable] using h
    exact int_text_len_1921 h2
  | .str x, _ => Nat.le_refl _
  | .list xs, h => by
    have h2 := shown_les xs (by simpa [PyData.showable] using h)
    have h3 := listText_up (PyData.shownAll xs)
    show (listText (PyData.shownAll xs)).length ≤ costs xs + 2
    omega
  | .tuple xs, h => by
    have h2 := shown_les xs (by simpa [PyData.showable] using h)
    have h3 := fmt_text (PyData.shownAll xs)
    show (tupleText (PyData.shownAll xs)).length ≤ costs xs + 2
    omega
  | .dict kvs, h => by
    have h2 := shown_kv kvs (by simpa [PyData.showable] using h)
    have h3 := dictText_up (PyData.shownKv kvs)
    show (dictText (PyData.shownKv kvs)).length ≤ costKv kvs + 2
    omega
theorem shown_les : ∀ xs : List PyData, PyData.showableAll xs = true → piled (PyData.shownAll xs) ≤ costs xs
  | [], _ => Nat.le_refl _
  | x :: xs, h => by
    have h1 : x.showable = true ∧ PyData.showableAll xs = true := by simpa [PyData.showableAll] using h
    have h2 := shown_le x h1.1
    have h3 := shown_les xs h1.2
    show piled (x.shown :: PyData.shownAll xs) ≤ cost x + 2 + costs xs
    rw [piled_cons]
    omega
theorem shown_kv : ∀ kvs : List (PyData × PyData), PyData.showableKv kvs = true → piled (PyData.shownKv kvs) ≤ costKv kvs
  | [], _ => Nat.le_refl _
  | (k, v) :: r, h => by
    have h1 : (k.showable = true ∧ v.showable = true) ∧ PyData.showableKv r = true := by simpa [PyData.showableKv, and_assoc] using h
    have h2 := shown_le k h1.1.1
    have h3 := shown_le v h1.1.2
    have h4 := shown_kv r h1.2
    show piled ((k.shown ++ ": " ++ v.shown) :: PyData.shownKv r) ≤ cost k + 2 + cost v + 2 + costKv r
    rw [piled_cons, strLen_append, strLen_append, show ((": " : Str)).length = 2 by decide +kernel]
    omega
end
/-! ### what stays -/
def UpN (H H' : Hp) : Prop := ∀ b o, H b = some o → (∀ q, o ≠ .tbl q) → H' b = some o
theorem UpN.refl (H : Hp) : UpN H H := fun _ _ e _ => e
theorem UpN.trans {H H1 H2 : Hp} (a : UpN H H1) (b : UpN H1 H2) : UpN H H2 := fun c o e n => b c o (a c o e n) n
theorem UpN.of_same {H H' : Hp} (h : Same H H') : UpN H H' := fun b o e _ => h b o e
theorem UpN.of_tab {H H' : Hp} {P : Addr} (t : GxR.TabG H P) (h : GxR.Tabbed P H H') : UpN H H' := fun b o e n => by
  obtain ⟨ps, hP, _⟩ := t
  rw [h.2 b fun z => by
    rw [z, hP] at e
    exact n ps (Option.some.inj e).symm]
  exact e
theorem TF.up {H H' : Hp} {a : Addr} {xs : List V} (h : TF H a xs) (k : UpN H H') : TF H' a xs := let ⟨o, h1, h2⟩ := h; ⟨o, h1, k _ _ h2 fun q z => by cases z⟩
theorem sqL_up {K : PySem.W.Frag} {H H' : Hp} {a : Addr} {xs : List V} (h : SqL K H a xs) (k : UpN H H') : SqL K H' a xs := by
  rcases h with (h | ⟨o, h⟩) | h
  · exact .inl (.inl (k _ _ h fun q z => by cases z))
  · exact .inl (.inr ⟨o, k _ _ h fun q z => by cases z⟩)
  · exact .inr h
theorem sqT_up {K : PySem.W.Frag} {H H' : Hp} {a : Addr} {xs : List V} (h : SqT K H a xs) (k : UpN H H') : SqT K H' a xs := by
  rcases h with (h | ⟨o, h⟩) | h
  · exact .inl (.inl (k _ _ h fun q z => by cases z))
  · exact .inl (.inr ⟨o, k _ _ h fun q z => by cases z⟩)
  · exact .inr h
mutual
theorem dp_up {K : PySem.W.Frag} {H H' : Hp} (k : UpN H H') : ∀ {v : V} {d : PyData}, Dp K H v d → Dp K H' v d
  | _, _, .non => .non
  | _, _, .bl b => .bl b
  | _, _, .int i => .int i
  | _, _, .str x => .str x
  | _, _, .lst h t => .lst (sqL_up h k) (dps_up k t)
  | _, _, .tup h t => .tup (sqT_up h k) (dps_up k t)
theorem dps_up {K : PySem.W.Frag} {H H' : Hp} (k : UpN H H') : ∀ {vs : List V} {ds : List PyData}, DpAll K H vs ds → DpAll K H' vs ds
  | _, _, .nil => .nil
  | _, _, .cons h t => .cons (dp_up k h) (dps_up k t)
end
theorem dps_app {K : PySem.W.Frag} {H : Hp} : ∀ {vs ws : List V} {ds es : List PyData}, DpAll K H vs ds → DpAll K H ws es → DpAll K H (vs ++ ws) (ds ++ es)
  | _, _, _, _, .nil, t => t
  | _, _, _, _, .cons h r, t => .cons h (dps_app r t)
/-! ### tuples put together, whichever of the ways -/
theorem cat_rd {K : PySem.W.Frag} {H : Hp} {a b : Addr} {xs ys : List V} {Q : VK} (hx : TF H a xs) (hy : TF H b ys) (hz : xs.length + ys.length ≤ 1000) (q : ∀ (r : Addr) (H' : Hp), Same H H' → TF H' r (xs ++ ys) → Q (.ref r) H') : rCatF K (.ref a) (.ref b) H Q := by
  refine ⟨a, b, xs, ys, rfl, rfl, hx.sq, hy.sq, Nat.le_of_lt (small1000 hz), fun e => q b H (Same.refl H) ?_, fun _ e => q a H (Same.refl H) ?_, fun _ _ p o np ho => q p _ (fun c u z => ?_) ⟨o, ho, upd_same⟩⟩
  · rw [e]
    exact hy
  · rw [e, List.append_nil]
    exact hx
  · rw [upd_ne (ne_of_none z np)]
    exact z
theorem cut_rd {K : PySem.W.Frag} {H : Hp} {a : Addr} {xs : List V} {lo hi : Option Int} {Q : VK} (hx : TF H a xs) (q : ∀ (r : Addr) (H' : Hp), Same H H' → TF H' r (cutV xs lo hi) → Q (.ref r) H') : rSlF K (.ref a) lo hi H Q := by
  refine ⟨a, xs, rfl, hx.sq, fun e => q a H (Same.refl H) ?_, fun _ p o np ho => q p _ (fun c u z => ?_) ⟨o, ho, upd_same⟩⟩
  · unfold cutV
    rw [e.1, e.2, Nat.sub_zero, List.drop_zero, List.take_length]
    exact hx
  · rw [upd_ne (ne_of_none z np)]
    exact z
theorem new_rd {H : Hp} {xs : List V} {Q : VK} (q : ∀ (r : Addr) (H' : Hp), Same H H' → H r = none → (∀ b, b ≠ r → H' b = H b) → TF H' r xs → Q (.ref r) H') : newT xs H Q := fun p o np ho =>
  q p _ (fun c u z => by rw [upd_ne (ne_of_none z np)]; exact z) np (fun b hb => upd_ne hb) ⟨o, ho, upd_same⟩
theorem cut_head (xs : List V) {k : Nat} (h : k ≤ xs.length) : cutV xs none (some (k : Int)) = xs.take k := by
  unfold cutV
  rw [HT.sIx_none, HT.sIx_nat, List.drop_zero, Nat.sub_zero, Nat.min_eq_left h]
theorem cut_tail (xs : List V) {k : Nat} (h : k ≤ xs.length) : cutV xs (some (k : Int)) none = xs.drop k := by
  unfold cutV
  rw [HT.sIx_none, HT.sIx_nat, Nat.min_eq_left h]
  exact List.take_of_length_le (by rw [List.length_drop]; exact Nat.le_refl _)
end HM


namespace HM
open PySem PySem.Spec PyProof.Rows L2
/-- the heap without what stands at l -/
def mns (H : Hp) (l : List Addr) : Hp := fun b => if b ∈ l then none else H b
theorem mns_in {H : Hp} {l : List Addr} {b : Addr} (h : b ∈ l) : mns H l b = none := if_pos h
theorem mns_out {H : Hp} {l : List Addr} {b : Addr} (h : b ∉ l) : mns H l b = H b := if_neg h
theorem mns_some {H : Hp} {l : List Addr} {b : Addr} {o : HO} (h : mns H l b = some o) : b ∉ l ∧ H b = some o := by
  by_cases z : b ∈ l
  · rw [mns_in z] at h
    cases h
  · rw [mns_out z] at h
    exact ⟨z, h⟩
theorem up_mns {H H' : Hp} {l l' : List Addr} (k : ∀ b o, b ∉ l → H b = some o → b ∉ l' ∧ H' b = some o) : UpN (mns H l) (mns H' l') := fun b o e _ => by
  obtain ⟨h1, h2⟩ := mns_some e
  obtain ⟨h3, h4⟩ := k b o h1 h2
  rw [mns_out h3]
  exact h4
theorem mns_le {H : Hp} {l : List Addr} : UpN (mns H l) H := fun b o e _ => (mns_some e).2
theorem TF.mns {H : Hp} {a : Addr} {xs : List V} {l : List Addr} (h : TF H a xs) (hl : ∀ b ∈ l, ∃ ys, H b = some (.lst ys)) : TF (mns H l) a xs := by
  obtain ⟨o, h1, h2⟩ := h
  refine ⟨o, h1, ?_⟩
  rw [mns_out fun z => ?_]
  · exact h2
  · obtain ⟨ys, e⟩ := hl a z
    rw [e] at h2
    cases h2
/-- data that are small -/
def smI (i : Int) : Bool := decide (i.natAbs ≤ 10 ^ 29)
def smD : PyData → Bool
  | .int i => smI i
  | .bool _ => true
  | .none => true
  | .str x => decide (x = "0")
  | .tuple [.int i] => smI i
  | .list [.int i] => smI i
  | _ => false
/-- a tuple of few small things -/
def NearT (K : PySem.W.Frag) (H : Hp) (x : V) : Prop := ∃ (a : Addr) (ys : List V) (ds : List PyData), x = .ref a ∧ TF H a ys ∧ DpAll K H ys ds ∧ ds.length ≤ 16 ∧ ds.all smD = true
theorem NearT.up {K : PySem.W.Frag} {H H' : Hp} {x : V} (h : NearT K H x) (k : UpN H H') : NearT K H' x := by
  obtain ⟨a, ys, ds, h1, h2, h3, r⟩ := h
  exact ⟨a, ys, ds, h1, h2.up k, dps_up k h3, r⟩
theorem dp_intsH {K : PySem.W.Frag} {H : Hp} (ns : List Int) : DpAll K H (ns.map V.int) (ns.map .int) := dp_ints ns
theorem sm_ints : ∀ {ns : List Int}, (∀ i ∈ ns, 0 ≤ i ∧ i < 8) → (ns.map PyData.int).all smD = true
  | [], _ => rfl
  | n :: ns, h => by
    rw [List.map_cons, List.all_cons, sm_ints fun i hi => h i (List.mem_cons_of_mem _ hi), Bool.and_true]
    have := h n List.mem_cons_self
    show smI n = true
    exact decide_eq_true (by omega)
/-- [pre + (one,) + post for one in S] -/
theorem lc_near {K : PySem.W.Frag} {H : Hp} {Qd : Hp → Prop} {D a F S : Addr} {k : Nat} {y3 y4 : Option V} {os : List V} {zs pre post : List Int} {av : List Addr} {te : TE}
    (ha : TF H a (zs.map V.int)) (hS : H S = some (.lst os)) (hl : pre.length + post.length ≤ 14) (hsm : ∀ i, i ∈ pre ∨ i ∈ post → 0 ≤ i ∧ i < 8) (hav : ∀ b ∈ av, ∃ ys, H b = some (.lst ys)) (hos : ∀ o ∈ os, ∃ d, Dp K (mns H av) o d ∧ smD d = true) (hol : os.length ≤ 100)
    (hte : ∀ (one : V) (H2 : Hp) (Q2 : VK), TF H2 a (zs.map V.int) → (∀ r H', Same H2 H' → TF H' r (pre.map V.int ++ [one] ++ post.map V.int) → Q2 (.ref r) H') → te [some (.ref a), some (.ref F), some (.int (k : Int)), y3, some one] H2 Q2)
    (nD : H D = none) (q : ∀ (acc : List V) (H' : Hp), Same H H' → H' D = some (.lst acc) → acc.length = os.length → (∀ x ∈ acc, NearT K (mns H' (D :: av)) x) → Qd H') :
    ∃ W : Nat → Nat → Hp → Prop, (∃ m, W 0 m (upd H D (.lst []))) ∧ ∀ i m Hx, W i m Hx → ((Itl K S).stop i Hx ∧ Qd Hx) ∨ ((Itl K S).go i Hx ∧ ∃ Nx : Hp → Prop, (∀ Hy, Nx Hy → ∃ m', m' < m ∧ W (i + 1) m' Hy) ∧
      ∀ x Hy, (Itl K S).yld i Hx x Hy → gName 4 x (wipe [some (.ref a), some (.ref F), some (.int (k : Int)), y3, y4] [4]) Hy fun σ2 H2 => wipe σ2 [4] = wipe [some (.ref a), some (.ref F), some (.int (k : Int)), y3, y4] [4] ∧ tYes σ2 H2 fun b H3 =>
        if b = true then te σ2 H3 fun y H4 => ∃ acc, H4 D = some (.lst acc) ∧ acc.length < sizeLine ∧ Nx (upd H4 D (.lst (acc ++ [y]))) else Nx H3) := by
  refine lc_list (xs := os) (fun i H3 => ∃ acc : List V, H3 D = some (.lst acc) ∧ acc.length = i ∧ (∀ b o, H b = some o → H3 b = some o) ∧ ∀ x ∈ acc, NearT K (mns H3 (D :: av)) x)
    ⟨[], upd_same, rfl, fun b o e => by rw [upd_ne (ne_of_none e nD)]; exact e, fun x hx => by cases hx⟩ (fun i H3 _ hP => ?_) (fun i one H3 ho hP => ?_) fun H3 hP => ?_
  · obtain ⟨acc, _, _, hk, _⟩ := hP
    exact .inl (.inl (hk _ _ hS))
  · obtain ⟨acc, eD, hac, hk, hn⟩ := hP
    have ha3 : TF H3 a (zs.map V.int) := ha.up fun b o e _ => hk b o e
    refine ⟨rfl, hte one H3 _ ha3 fun r H4 hs hr => ?_⟩
    have hi : i < os.length := (List.getElem?_eq_some_iff.mp ho).1
    refine ⟨acc, hs _ _ eD, small1000 (by omega), acc ++ [.ref r], upd_same, by rw [List.length_append, hac]; rfl, fun b o e => by rw [upd_ne (ne_of_none e nD)]; exact hs _ _ (hk b o e), fun x hx => ?_⟩
    have up4 : UpN (mns H3 (D :: av)) (mns (upd H4 D (.lst (acc ++ [.ref r]))) (D :: av)) := up_mns fun b o hb e => ⟨hb, by rw [upd_ne fun z => hb (by rw [z]; exact List.mem_cons_self)]; exact hs _ _ e⟩
    rcases List.mem_append.mp hx with hx | hx
    · exact (hn x hx).up up4
    · cases List.mem_singleton.mp hx
      obtain ⟨d, hd, hsd⟩ := hos one (List.mem_of_getElem? ho)
      have up0 : UpN (mns H av) (mns (upd H4 D (.lst (acc ++ [.ref r]))) (D :: av)) := up_mns fun b o hb e => ⟨fun z => by
        rcases List.mem_cons.mp z with z | z
        · rw [z, nD] at e
          cases e
        · exact hb z, by rw [upd_ne (ne_of_none e nD)]; exact hs _ _ (hk b o e)⟩
      refine ⟨r, _, pre.map .int ++ [d] ++ post.map .int, rfl, ?_, dps_app (dps_app (dp_ints pre) (.cons (dp_up up0 hd) .nil)) (dp_ints post), ?_, ?_⟩
      · have hr2 : TF (upd H4 D (.lst (acc ++ [.ref r]))) r (pre.map V.int ++ [one] ++ post.map V.int) := by
          obtain ⟨o, h1, h2⟩ := hr
          refine ⟨o, h1, ?_⟩
          rw [upd_ne fun z => ?_]
          · exact h2
          · rw [z, hs _ _ eD] at h2
            cases h2
        refine hr2.mns fun b hb => ?_
        rcases List.mem_cons.mp hb with z | z
        · rw [z]
          exact ⟨_, upd_same⟩
        · obtain ⟨ys, e⟩ := hav b z
          exact ⟨ys, by rw [upd_ne (ne_of_none e nD)]; exact hs _ _ (hk _ _ e)⟩
      · rw [List.length_append, List.length_append, List.length_map, List.length_map]
        show pre.length + 1 + post.length ≤ 16
        omega
      · rw [List.all_append, List.all_append, sm_ints fun i hi => hsm i (.inl hi), sm_ints fun i hi => hsm i (.inr hi)]
        show (true && (smD d && true)) && true = true
        rw [hsd]
        rfl
  · obtain ⟨acc, eD, hac, hk, hn⟩ := hP
    exact q acc H3 hk eD hac hn
end HM


namespace K01
open PySem PySem.Spec PyProof.Rows L2 HM
abbrev sNear : Stmt := topS 13
section
variable {P : Program} {w : World} {K : PySem.W.Frag} {mg : Str → Option Value} {base : Heap}
theorem scNear : FnScope ["_law_turn", "_law_found", "_law_at", "_law_some", "_law_one"] ["_law_turn"] (defScope sNear) := ⟨rfl, rfl, rfl, by decide +kernel, rfl, by decide +kernel, by decide +kernel⟩
def spNear (K : PySem.W.Frag) : Sp := fun vs H Q _ => ∃ (a : Addr) (ns : List Int), vs = [.ref a] ∧ TF H a (ns.map V.int) ∧ ns.length ≤ 7 ∧ (∀ i ∈ ns, 0 ≤ i ∧ i < 7) ∧
  ∀ (F : Addr) (xs : List V) (H' : Hp), Same H H' → H F = none → H' F = some (.lst xs) → xs.length ≤ 1000 → (∀ x ∈ xs, NearT K H' x) → Q (.ref F) H'
def teA (K : PySem.W.Frag) : TE := tOp (rCatF K) (tOp (rCatF K) (tSl (rSlF K) (tVar 0) tNoPart (tPart (tVar 2))) (tTupF (tCons (tVar 4) tNil))) (tSl (rSlF K) (tVar 0) (tPart (tOp (rI0 fun i j => .int (i + j)) (tVar 2) (tC (.int 1)))) tNoPart)
def teB (K : PySem.W.Frag) : TE := tOp (rCatF K) (tOp (rCatF K) (tSl (rSlF K) (tVar 0) tNoPart (tPart (tVar 2))) (tTupF (tCons (tVar 4) tNil))) (tSl (rSlF K) (tVar 0) (tPart (tVar 2)) tNoPart)
theorem te_rd {a F : Addr} {y3 : Option V} {k : Nat} {zs : List Int} (hk : k < zs.length) (hl : zs.length ≤ 7) (one : V) (H : Hp) (Q : VK) (ha : TF H a (zs.map V.int)) :
    ((∀ r H', Same H H' → TF H' r ((zs.take k).map V.int ++ [one] ++ (zs.drop (k + 1)).map V.int) → Q (.ref r) H') → teA K [some (.ref a), some (.ref F), some (.int (k : Int)), y3, some one] H Q) ∧
    ((∀ r H', Same H H' → TF H' r ((zs.take k).map V.int ++ [one] ++ (zs.drop k).map V.int) → Q (.ref r) H') → teB K [some (.ref a), some (.ref F), some (.int (k : Int)), y3, some one] H Q) := by
  have hk2 : k ≤ (zs.map V.int).length := by rw [List.length_map]; omega
  have hk3 : k + 1 ≤ (zs.map V.int).length := by rw [List.length_map]; omega
  have e1 : cutV (zs.map V.int) none (some (k : Int)) = (zs.take k).map V.int := by rw [cut_head _ hk2, List.map_take]
  have e2 : cutV (zs.map V.int) (some ((k : Int) + 1)) none = (zs.drop (k + 1)).map V.int := by
    rw [show ((k : Int) + 1) = ((k + 1 : Nat) : Int) by omega, cut_tail _ hk3, List.map_drop]
  have e3 : cutV (zs.map V.int) (some (k : Int)) none = (zs.drop k).map V.int := by rw [cut_tail _ hk2, List.map_drop]
  constructor
  · intro q
    refine ⟨_, rfl, _, rfl, _, rfl, cut_rd ha fun r1 H1 s1 t1 => ⟨_, rfl, by show 1 ≤ sizeLine; decide, new_rd fun r2 H2 s2 _ _ t2 => cat_rd (t1.up (.of_same s2)) t2 ?_ fun r3 H3 s3 t3 => ⟨_, rfl, _, rfl, _, _, rfl, rfl, _, rfl, show rSlF K (.ref a) (some ((k : Int) + 1)) none H3 (fun y H4 => rCatF K (.ref r3) y H4 Q) from cut_rd (((ha.up (.of_same s1)).up (.of_same s2)).up (.of_same s3)) fun r4 H4 s4 t4 => cat_rd (t3.up (.of_same s4)) t4 ?_ fun r5 H5 s5 t5 => ?_⟩⟩⟩
    · rw [e1, List.length_map, List.length_take]
      show min k zs.length + 1 ≤ 1000
      omega
    · rw [e1, e2, List.length_append, List.length_map, List.length_map, List.length_take, List.length_drop]
      show min k zs.length + 1 + (zs.length - (k + 1)) ≤ 1000
      omega
    · rw [e1, e2] at t5
      exact q r5 H5 ((((s1.trans s2).trans s3).trans s4).trans s5) t5
  · intro q
    refine ⟨_, rfl, _, rfl, _, rfl, cut_rd ha fun r1 H1 s1 t1 => ⟨_, rfl, by show 1 ≤ sizeLine; decide, new_rd fun r2 H2 s2 _ _ t2 => cat_rd (t1.up (.of_same s2)) t2 ?_ fun r3 H3 s3 t3 => ⟨_, rfl, _, rfl, _, rfl, show rSlF K (.ref a) (some (k : Int)) none H3 (fun y H4 => rCatF K (.ref r3) y H4 Q) from cut_rd (((ha.up (.of_same s1)).up (.of_same s2)).up (.of_same s3)) fun r4 H4 s4 t4 => cat_rd (t3.up (.of_same s4)) t4 ?_ fun r5 H5 s5 t5 => ?_⟩⟩⟩
    · rw [e1, List.length_map, List.length_take]
      show min k zs.length + 1 ≤ 1000
      omega
    · rw [e1, e3, List.length_append, List.length_map, List.length_map, List.length_take, List.length_drop]
      show min k zs.length + 1 + (zs.length - k) ≤ 1000
      omega
    · rw [e1, e3] at t5
      exact q r5 H5 ((((s1.trans s2).trans s3).trans s4).trans s5) t5
theorem ok_near {f : Addr} {fd : FuncData} {k : Nat} (F : Fun K "_law_near" "_law_near" sNear f fd) (mz : ∀ x ∈ bn, mg x = none) : FnOk P w K mg base CX0 (k + 1) f fd ["_law_turn"] (spNear K) := by
  refine F.ok scNear (fun vs H Q E h => ?_) (fun cdv A outer s H vs Q E hr h => ?_)
  · obtain ⟨a, ns, rfl, _⟩ := h
    rfl
  · obtain ⟨a, ns, rfl, ha, hl, hb, q⟩ := h
    have ml := mz "len" (by decide)
    have mr := mz "range" (by decide)
    have mL := mz "list" (by decide)
    refine ⟨_, pss_cons (ps_set (i := 1) scNear.nd rfl (.inl rfl) (pe_lst pa_nil))
      (pss_cons (ps_for PassesOwn.never rfl (pi_range1 (by rfl) mr (pa_cons (pe_callB call_len_seq (by rfl) ml PySem.boot_len (pa_cons (pv 0) pa_nil)) pa_nil)) (pg_name (i := 2) scNear.nd rfl (.inr rfl))
        (pss_cons (ps_set (i := 3) scNear.nd rfl (.inl rfl) (pe_op op_cat (pe_listRg rfl (by rfl) mL (prg_2 (by rfl) mr (pe_un un_neg pe_int) pe_int))
          (pe_lst (pa_cons pe_bl (pa_cons pe_bl (pa_cons pe_str (pa_cons pe_non (pa_cons (pe_tupF (pa_cons (pe_ix ix_tup (pv 0) (pv 2) (fun _ _ => rfl)) pa_nil)) (pa_cons (pe_lst (pa_cons (pe_ix ix_tup (pv 0) (pv 2) (fun _ _ => rfl)) pa_nil)) (pa_cons (pe_op op_pow pe_int pe_int) (pa_cons (pe_un un_neg (pe_op op_pow pe_int pe_int)) pa_nil)))))))))))
        (pss_cons (ps_expr (pe_bm PySem.F.plainAttrs_list PySem.F.slot_list_extend PySem.F.type_list_extend mt_extend (pv 1) (pa_cons (pe_lc (own := [("_law_one", 4)]) (g := gName 4) (tt := tYes) (te := teA K) rfl scNear.nd (pi_list (pv 3)) (blkOk_by (N := ["_law_turn", "_law_found", "_law_at", "_law_some", "_law_one"]) (sc := defScope sNear) (by decide +kernel))
            (fun _ _ _ _ _ => pg_name (i := 4) scNear.nd rfl (.inl rfl)) (fun _ _ _ _ _ => pts_nil)
            (fun _ _ _ _ _ => pe_op op_catF (pe_op op_catF (pe_slice sl_tupF (pv 0) po_none (po_some (pv 2))) (pe_tupF (pa_cons (pv 4) pa_nil))) (pe_slice sl_tupF (pv 0) (po_some (pe_op op_add (pv 2) pe_int)) po_none))) pa_nil)))
        (pss_cons (ps_expr (pe_bm PySem.F.plainAttrs_list PySem.F.slot_list_append PySem.F.type_list_append mt_append (pv 1) (pa_cons (pe_op op_catF (pe_slice sl_tupF (pv 0) po_none (po_some (pv 2))) (pe_slice sl_tupF (pv 0) (po_some (pe_op op_add (pv 2) pe_int)) po_none)) pa_nil)))
        (pss_one (ps_expr (pe_bm PySem.F.plainAttrs_list PySem.F.slot_list_extend PySem.F.type_list_extend mt_extend (pv 1) (pa_cons (pe_lc (own := [("_law_one", 4)]) (g := gName 4) (tt := tYes) (te := teB K) rfl scNear.nd (pi_list (pe_lst (pa_cons pe_int (pa_cons (pv 2) (pa_cons (pe_callB call_len_seq (by rfl) ml PySem.boot_len (pa_cons (pv 0) pa_nil)) pa_nil))))) (blkOk_by (N := ["_law_turn", "_law_found", "_law_at", "_law_some", "_law_one"]) (sc := defScope sNear) (by decide +kernel))
            (fun _ _ _ _ _ => pg_name (i := 4) scNear.nd rfl (.inl rfl)) (fun _ _ _ _ _ => pts_nil)
            (fun _ _ _ _ _ => pe_op op_catF (pe_op op_catF (pe_slice sl_tupF (pv 0) po_none (po_some (pv 2))) (pe_tupF (pa_cons (pv 4) pa_nil))) (pe_slice sl_tupF (pv 0) (po_some (pv 2)) po_none))) pa_nil))))))))
      (pss_one (ps_ret (pv 1)))), ?_⟩
    refine ⟨Nat.zero_le _, fun Fd nF => ?_⟩
    have s0 : Same H (upd H Fd (.lst [])) := fun b o e => by rw [upd_ne (ne_of_none e nF)]; exact e
    refine ⟨_, rfl, a, ns.map V.int, rfl, .inr (ha.up (.of_same s0)).sq, ((ns.map V.int).length : Int), rfl, by rw [List.length_map]; omega, by rw [List.length_map]; omega, ?_⟩
    rw [Int.toNat_natCast]
    refine for_range (n := (ns.map V.int).length) (fun i σ H2 => ∃ (xs : List V) (y2 y3 : Option V), σ = [some (.ref a), some (.ref Fd), y2, y3, none] ∧ Same H H2 ∧ H2 Fd = some (.lst xs) ∧ xs.length ≤ 25 * i ∧ ∀ x ∈ xs, NearT K (mns H2 [Fd]) x)
      ⟨[], none, none, rfl, s0, upd_same, Nat.le_refl _, fun x hx => by cases hx⟩ (fun i σ H2 hi hW => ?_) (fun σ H2 hW => ?_)
    · obtain ⟨xs, y2, y3, rfl, sm, eF, hxl, hn⟩ := hW
      rw [List.length_map] at hi
      rw [Int.zero_add]
      have ha2 : TF H2 a (ns.map V.int) := ha.up (.of_same sm)
      have hat : atI (ns.map V.int) ((i : Nat) : Int) = some (.int (ns[i]'hi)) := atI_nat (by rw [List.getElem?_map, List.getElem?_eq_getElem hi]; rfl)
      obtain ⟨z, ez⟩ : ∃ z, z = ns[i]'hi := ⟨_, rfl⟩
      have hz : 0 ≤ z ∧ z < 7 := by
        rw [ez]
        exact hb _ (List.getElem_mem hi)
      rw [← ez] at hat
      have hsm : ∀ j : Nat, ∀ v, v ∈ ns.take j ∨ v ∈ ns.drop j → 0 ≤ v ∧ v < 8 := fun j v hv => by
        have hm : v ∈ ns := by
          rcases hv with hv | hv
          · exact List.mem_of_mem_take hv
          · exact List.mem_of_mem_drop hv
        have := hb v hm
        omega
      -- some = list(range(-1, 9)) + [..]
      refine ⟨1, rfl, -1, 9, rfl, rfl, ⟨by decide, by decide, by decide, by decide, by decide⟩, fun R nR => ?_⟩
      have u1 : Same H2 (upd H2 R (.lst (rgV (-1) 9))) := fun b o e => by rw [upd_ne (ne_of_none e nR)]; exact e
      have ha3 := ha2.up (.of_same u1)
      refine ⟨_, rfl, _, rfl, a, _, _, _, rfl, rfl, ha3.sq, hat, by show 1 ≤ sizeLine; decide, new_rd fun T1 H3 u3 nT1 _ t3 => ?_⟩
      have ha4 := ha3.up (.of_same u3)
      refine ⟨_, rfl, _, rfl, a, _, _, _, rfl, rfl, ha4.sq, hat, by show 1 ≤ sizeLine; decide, fun L1 nL1 => ?_⟩
      have u4 : Same H3 (upd H3 L1 (.lst [.int z])) := fun b o e => by rw [upd_ne (ne_of_none e nL1)]; exact e
      refine ⟨10, 29, rfl, rfl, ⟨by decide, by decide, by decide⟩, 10, 29, rfl, rfl, ⟨by decide, by decide, by decide⟩, _, rfl, by show 8 ≤ sizeLine; decide, fun L2 nL2 => ?_⟩
      obtain ⟨H5, eH5⟩ : ∃ H5, H5 = upd (upd H3 L1 (.lst [.int z])) L2 (.lst [.bl true, .bl false, .str "0", .non, .ref T1, .ref L1, .int (10 ^ (29 : Int).toNat), .int (-(10 ^ (29 : Int).toNat))]) := ⟨_, rfl⟩
      have u5 : Same (upd H3 L1 (.lst [.int z])) H5 := fun b o e => by rw [eH5, upd_ne (ne_of_none e nL2)]; exact e
      have u25 : Same H2 H5 := ((u1.trans u3).trans u4).trans u5
      have eR : H5 R = some (.lst (rgV (-1) 9)) := u5 _ _ (u4 _ _ (u3 _ _ upd_same))
      have eL2 : H5 L2 = some (.lst [.bl true, .bl false, .str "0", .non, .ref T1, .ref L1, .int (10 ^ (29 : Int).toNat), .int (-(10 ^ (29 : Int).toNat))]) := by rw [eH5]; exact upd_same
      have eL1 : H5 L1 = some (.lst [.int z]) := u5 _ _ upd_same
      have t5 : TF H5 T1 [.int z] := (t3.up (.of_same u4)).up (.of_same u5)
      have eF5 := u25 _ _ eF
      have nFL : L1 ≠ Fd := fun q => by
        have e3 := (u1.trans u3) _ _ eF
        rw [q, e3] at nL1
        cases nL1
      rw [← eH5]
      refine ⟨R, L2, _, _, rfl, rfl, eR, eL2, by rw [rgV_length]; show 10 + 8 ≤ sizeLine; decide, fun S nS => ?_⟩
      obtain ⟨H6, eH6⟩ : ∃ H6, H6 = upd H5 S (.lst (rgV (-1) 9 ++ [.bl true, .bl false, .str "0", .non, .ref T1, .ref L1, .int (10 ^ (29 : Int).toNat), .int (-(10 ^ (29 : Int).toNat))])) := ⟨_, rfl⟩
      have u6 : Same H5 H6 := fun b o e => by rw [eH6, upd_ne (ne_of_none e nS)]; exact e
      have eS : H6 S = some (.lst (rgV (-1) 9 ++ [.bl true, .bl false, .str "0", .non, .ref T1, .ref L1, .int (10 ^ (29 : Int).toNat), .int (-(10 ^ (29 : Int).toNat))])) := by rw [eH6]; exact upd_same
      have u26 : Same H2 H6 := u25.trans u6
      have eF6 : H6 Fd = some (.lst xs) := u26 _ _ eF
      have av6 : ∀ b ∈ [Fd], ∃ ys, H6 b = some (.lst ys) := fun b hb => by
        rw [List.mem_singleton.mp hb]
        exact ⟨_, eF6⟩
      rw [← eH6]
      -- found.extend([.. for one in some])
      refine ⟨_, rfl, .inl ⟨rfl, _, .inl (.inl eF6)⟩, _, rfl, S, rfl, ⟨_, .inl (.inl eS)⟩, fun D nD => lc_near (K := K) (zs := ns) (pre := ns.take i) (post := ns.drop (i + 1)) (av := [Fd]) (ha2.up (.of_same u26)) eS (by rw [List.length_take, List.length_drop]; omega) (fun v hv => hv.elim (fun h => hsm i v (.inl h)) fun h => hsm (i + 1) v (.inr h)) av6 (fun o ho => ?_) (by rw [List.length_append, rgV_length]; show 10 + 8 ≤ 100; decide)
        (fun one Hx Qx hx qx => (te_rd hi hl one Hx Qx hx).1 qx) nD fun acc H7 u7 eD hac hnA => ?_⟩
      · rcases List.mem_append.mp ho with ho | ho
        · unfold rgV at ho
          obtain ⟨j, hj, e⟩ := List.mem_map.mp ho
          have hj2 := List.mem_range.mp hj
          rw [← e]
          refine ⟨_, .int _, decide_eq_true ?_⟩
          have : ((9 : Int) - -1).toNat = 10 := by decide
          omega
        · have hL1 : Dp K (mns H6 [Fd]) (.ref L1) (.list [.int z]) := .lst (.inl (.inl (by rw [mns_out fun q => nFL (List.mem_singleton.mp q)]; exact u6 _ _ eL1))) (.cons (.int z) .nil)
          have hT1 : Dp K (mns H6 [Fd]) (.ref T1) (.tuple [.int z]) := .tup ((t5.up (.of_same u6)).mns av6).sq (.cons (.int z) .nil)
          have hzs : smI z = true := decide_eq_true (by omega)
          rcases List.mem_cons.mp ho with rfl | ho
          · exact ⟨_, .bl true, rfl⟩
          rcases List.mem_cons.mp ho with rfl | ho
          · exact ⟨_, .bl false, rfl⟩
          rcases List.mem_cons.mp ho with rfl | ho
          · exact ⟨_, .str _, by decide +kernel⟩
          rcases List.mem_cons.mp ho with rfl | ho
          · exact ⟨_, .non, rfl⟩
          rcases List.mem_cons.mp ho with rfl | ho
          · exact ⟨_, hT1, hzs⟩
          rcases List.mem_cons.mp ho with rfl | ho
          · exact ⟨_, hL1, hzs⟩
          rcases List.mem_cons.mp ho with rfl | ho
          · exact ⟨_, .int _, by decide +kernel⟩
          rcases List.mem_cons.mp ho with rfl | ho
          · exact ⟨_, .int _, by decide +kernel⟩
          · cases ho
      · have hosl : (rgV (-1) 9 ++ [.bl true, .bl false, .str "0", .non, .ref T1, .ref L1, .int (10 ^ (29 : Int).toNat), .int (-(10 ^ (29 : Int).toNat))] : List V).length = 18 := by
          rw [List.length_append, rgV_length]
          rfl
        rw [hosl] at hac
        have eF7 : H7 Fd = some (.lst xs) := u7 _ _ eF6
        refine ⟨Fd, D, xs, acc, rfl, rfl, eF7, eD, Nat.le_of_lt (small1000 (by omega)), ?_⟩
        obtain ⟨H8, eH8⟩ : ∃ H8, H8 = upd H7 Fd (.lst (xs ++ acc)) := ⟨_, rfl⟩
        rw [← eH8]
        have eF8 : H8 Fd = some (.lst (xs ++ acc)) := by rw [eH8]; exact upd_same
        have k8 : ∀ b o, b ≠ Fd → H7 b = some o → H8 b = some o := fun b o n e => by rw [eH8, upd_ne n]; exact e
        have sm8 : Same H H8 := fun b o e => k8 b o (ne_of_none e nF) ((sm.trans (u26.trans u7)) b o e)
        have ha8 : TF H8 a (ns.map V.int) := ha.up (.of_same sm8)
        have n8 : ∀ x ∈ xs ++ acc, NearT K (mns H8 [Fd]) x := fun x hx => by
          rcases List.mem_append.mp hx with hx | hx
          · exact (hn x hx).up (up_mns fun b o hb2 e => ⟨hb2, k8 b o (fun q => hb2 (by rw [q]; exact List.mem_cons_self)) ((u26.trans u7) b o e)⟩)
          · exact (hnA x hx).up (up_mns fun b o hb2 e => ⟨fun q => hb2 (List.mem_cons_of_mem _ q), k8 b o (fun q => hb2 (by rw [q]; exact List.mem_cons_of_mem _ List.mem_cons_self)) e⟩)
        have hi2 : i ≤ (ns.map V.int).length := by rw [List.length_map]; omega
        have hi3 : i + 1 ≤ (ns.map V.int).length := by rw [List.length_map]; omega
        -- found.append(turn[:at] + turn[at + 1:])
        refine ⟨_, rfl, .inl ⟨rfl, _, .inl (.inl eF8)⟩, _, rfl, _, rfl, _, rfl, cut_rd ha8 fun r1 H9 u9 t9 => ⟨_, rfl, _, rfl, _, _, rfl, rfl, _, rfl, ?_⟩⟩
        dsimp only [tNoPart]
        refine cut_rd (ha8.up (.of_same u9)) fun r2 H10 u10 t10 => cat_rd (t9.up (.of_same u10)) t10 ?_ fun r3 H11 u11 t11 => ?_
        · rw [cut_head _ hi2, show ((i : Int) + 1) = ((i + 1 : Nat) : Int) by omega, cut_tail _ hi3, List.length_take, List.length_drop, List.length_map]
          omega
        · rw [cut_head _ hi2, show ((i : Int) + 1) = ((i + 1 : Nat) : Int) by omega, cut_tail _ hi3, ← List.map_take, ← List.map_drop] at t11
          have u811 : Same H8 H11 := (u9.trans u10).trans u11
          have eF11 := u811 _ _ eF8
          refine ⟨Fd, _, _, rfl, rfl, eF11, by rw [List.length_append]; exact small1000 (by omega), ?_⟩
          obtain ⟨H12, eH12⟩ : ∃ H12, H12 = upd H11 Fd (.lst (xs ++ acc ++ [.ref r3])) := ⟨_, rfl⟩
          rw [← eH12]
          have eF12 : H12 Fd = some (.lst (xs ++ acc ++ [.ref r3])) := by rw [eH12]; exact upd_same
          have k12 : ∀ b o, b ≠ Fd → H11 b = some o → H12 b = some o := fun b o n e => by rw [eH12, upd_ne n]; exact e
          have sm12 : Same H H12 := fun b o e => k12 b o (ne_of_none e nF) (u811 _ _ (sm8 b o e))
          have ha12 : TF H12 a (ns.map V.int) := ha.up (.of_same sm12)
          have n12 : ∀ x ∈ xs ++ acc ++ [.ref r3], NearT K (mns H12 [Fd]) x := fun x hx => by
            rcases List.mem_append.mp hx with hx | hx
            · exact (n8 x hx).up (up_mns fun b o hb2 e => ⟨hb2, k12 b o (fun q => hb2 (by rw [q]; exact List.mem_cons_self)) (u811 b o e)⟩)
            · rw [List.mem_singleton.mp hx]
              refine ⟨r3, _, (ns.take i).map .int ++ (ns.drop (i + 1)).map .int, rfl, ?_, dps_app (dp_ints _) (dp_ints _), ?_, ?_⟩
              · refine TF.mns (H := H12) ?_ fun b hb2 => by rw [List.mem_singleton.mp hb2]; exact ⟨_, eF12⟩
                obtain ⟨o, h1, h2⟩ := t11
                refine ⟨o, h1, k12 _ _ (fun q => ?_) h2⟩
                rw [q, eF11] at h2
                cases h2
              · rw [List.length_append, List.length_map, List.length_map, List.length_take, List.length_drop]
                omega
              · rw [List.all_append, sm_ints fun v hv => hsm i v (.inl hv), sm_ints fun v hv => hsm (i + 1) v (.inr hv)]
                rfl
          -- found.extend([.. for one in [0, at, len(turn)]])
          refine ⟨_, rfl, .inl ⟨rfl, _, .inl (.inl eF12)⟩, _, rfl, _, rfl, a, _, rfl, .inr ha12.sq, by show 3 ≤ sizeLine; decide, fun S2 nS2 => ?_⟩
          obtain ⟨H13, eH13⟩ : ∃ H13, H13 = upd H12 S2 (.lst [.int 0, .int ((i : Nat) : Int), .int ((ns.map V.int).length : Int)]) := ⟨_, rfl⟩
          rw [← eH13]
          have u13 : Same H12 H13 := fun b o e => by rw [eH13, upd_ne (ne_of_none e nS2)]; exact e
          have eF13 := u13 _ _ eF12
          refine ⟨S2, rfl, ⟨_, .inl (.inl (by rw [eH13]; exact upd_same))⟩, fun D2 nD2 => lc_near (K := K) (zs := ns) (pre := ns.take i) (post := ns.drop i) (av := [Fd]) (ha12.up (.of_same u13)) (by rw [eH13]; exact upd_same) (by rw [List.length_take, List.length_drop]; omega) (fun v hv => hsm i v hv) (fun b hb2 => by rw [List.mem_singleton.mp hb2]; exact ⟨_, eF13⟩) (fun o ho => ?_) (by show 3 ≤ 100; decide)
            (fun one Hx Qx hx qx => (te_rd hi hl one Hx Qx hx).2 qx) nD2 fun acc2 H14 u14 eD2 hac2 hnB => ?_⟩
          · rw [List.length_map] at ho
            rcases List.mem_cons.mp ho with rfl | ho
            · exact ⟨_, .int _, by decide +kernel⟩
            rcases List.mem_cons.mp ho with rfl | ho
            · exact ⟨_, .int _, decide_eq_true (by omega)⟩
            rcases List.mem_cons.mp ho with rfl | ho
            · exact ⟨_, .int _, decide_eq_true (by omega)⟩
            · cases ho
          · have eF14 := u14 _ _ eF13
            have hac3 : acc2.length = 3 := hac2
            refine ⟨Fd, D2, _, acc2, rfl, rfl, eF14, eD2, by rw [List.length_append, List.length_append]; exact Nat.le_of_lt (small1000 (by simp; omega)), ?_⟩
            refine ⟨xs ++ acc ++ [.ref r3] ++ acc2, _, _, rfl, fun b o e => ?_, upd_same, ?_, fun x hx => ?_⟩
            · rw [upd_ne (ne_of_none e nF)]
              exact (u13.trans u14) _ _ (sm12 b o e)
            · rw [List.length_append, List.length_append, List.length_append, hac, hac3]
              show xs.length + 18 + 1 + 3 ≤ _
              omega
            · have k15 : ∀ b o, b ∉ [Fd] → H14 b = some o → upd H14 Fd (.lst (xs ++ acc ++ [.ref r3] ++ acc2)) b = some o := fun b o n e => by rw [upd_ne fun q => n (by rw [q]; exact List.mem_cons_self)]; exact e
              rcases List.mem_append.mp hx with hx | hx
              · exact (n12 x hx).up (up_mns fun b o hb2 e => ⟨hb2, k15 b o hb2 ((u13.trans u14) b o e)⟩)
              · exact (hnB x hx).up (up_mns fun b o hb2 e => ⟨fun q => hb2 (List.mem_cons_of_mem _ q), k15 b o (fun q => hb2 (List.mem_cons_of_mem _ q)) e⟩)
    · obtain ⟨xs, y2, y3, rfl, sm, eF, hxl, hn⟩ := hW
      exact ⟨_, rfl, q Fd xs H2 sm nF eF (by rw [List.length_map] at hxl; omega) fun x hx => (hn x hx).up mns_le⟩
end
end K01


namespace HM
open PySem PySem.Spec PyProof.Rows L2
/-! ### data that repr can show -/
def It (k c : Nat) (d : PyData) : Prop := d.showable = true ∧ d.hasDict = false ∧ d.depth ≤ k ∧ cost d ≤ c
theorem it_all {k c : Nat} : ∀ {ds : List PyData}, (∀ d ∈ ds, It k c d) → PyData.showableAll ds = true ∧ PyData.hasDictAll ds = false ∧ PyData.depthAll ds ≤ k ∧ costs ds ≤ (c + 2) * ds.length
  | [], _ => ⟨rfl, rfl, Nat.zero_le _, Nat.le_refl _⟩
  | d :: ds, h => by
    obtain ⟨h1, h2, h3, h4⟩ := h d List.mem_cons_self
    obtain ⟨g1, g2, g3, g4⟩ := it_all (ds := ds) fun e he => h e (List.mem_cons_of_mem _ he)
    refine ⟨by simp only [PyData.showableAll, h1, g1, Bool.and_self], by simp only [PyData.hasDictAll, h2, g2, Bool.or_self], by simp only [PyData.depthAll]; omega, ?_⟩
    show cost d + 2 + costs ds ≤ (c + 2) * (ds.length + 1)
    rw [Nat.mul_add]
    omega
theorem it_tup {k c : Nat} {ds : List PyData} (h : ∀ d ∈ ds, It k c d) : It (k + 1) ((c + 2) * ds.length + 2) (.tuple ds) := by
  obtain ⟨g1, g2, g3, g4⟩ := it_all h
  exact ⟨by simpa only [PyData.showable] using g1, by simpa only [PyData.hasDict] using g2, by simp only [PyData.depth]; omega, by show costs ds + 2 ≤ _; omega⟩
theorem it_lst {k c : Nat} {ds : List PyData} (h : ∀ d ∈ ds, It k c d) : It (k + 1) ((c + 2) * ds.length + 2) (.list ds) := by
  obtain ⟨g1, g2, g3, g4⟩ := it_all h
  exact ⟨by simpa only [PyData.showable] using g1, by simpa only [PyData.hasDict] using g2, by simp only [PyData.depth]; omega, by show costs ds + 2 ≤ _; omega⟩
theorem it_mono {k c k' c' : Nat} {d : PyData} (h : It k c d) (hk : k ≤ k') (hc : c ≤ c') : It k' c' d := ⟨h.1, h.2.1, Nat.le_trans h.2.2.1 hk, Nat.le_trans h.2.2.2 hc⟩
theorem log_small {i : Int} (h : smI i = true) : i.natAbs.log2 < 1920 := by
  have h1 : i.natAbs ≤ 10 ^ 29 := of_decide_eq_true h
  by_cases h0 : i.natAbs = 0
  · rw [h0]
    decide
  · rw [Nat.log2_lt h0]
    exact Nat.lt_of_le_of_lt h1 (by decide +kernel)
theorem it_int {i : Int} (h : smI i = true) : It 0 1921 (.int i) := ⟨by simpa only [PyData.showable] using decide_eq_true (log_small h), rfl, Nat.le_refl _, Nat.le_refl _⟩
theorem it_bool (b : Bool) : It 0 1921 (.bool b) := ⟨rfl, rfl, Nat.le_refl _, by show 5 ≤ 1921; decide⟩
theorem it_none : It 0 1921 .none := ⟨rfl, rfl, Nat.le_refl _, by show 4 ≤ 1921; decide⟩
theorem it_small {d : PyData} (h : smD d = true) : It 1 2000 d := by
  cases d with
  | none => exact it_mono it_none (by decide) (by decide)
  | bool b => exact it_mono (it_bool b) (by decide) (by decide)
  | int i => exact it_mono (it_int h) (by decide) (by decide)
  | str x =>
    have e : x = "0" := of_decide_eq_true h
    subst e
    exact ⟨rfl, rfl, Nat.zero_le _, by decide +kernel⟩
  | list xs =>
    match xs, h with
    | [.int i], h => exact it_mono (it_lst (k := 0) (c := 1921) fun d hd => by rw [List.mem_singleton.mp hd]; exact it_int h) (by decide) (by show (1921 + 2) * 1 + 2 ≤ 2000; decide)
  | tuple xs =>
    match xs, h with
    | [.int i], h => exact it_mono (it_tup (k := 0) (c := 1921) fun d hd => by rw [List.mem_singleton.mp hd]; exact it_int h) (by decide) (by show (1921 + 2) * 1 + 2 ≤ 2000; decide)
  | dict kvs => cases h
/-! ### what a thing is that is asked about -/
def Th (K : PySem.W.Frag) (H : Hp) (x : V) : Prop := ∃ d, RP K H x d ∧ TC K H x d ∧ d.showable = true ∧ d.depth ≤ 40 ∧ d.shown.length ≤ sizeLine ∧ ∀ ds, d = .tuple ds → ds.length ≤ 4000
theorem vty_up {K : PySem.W.Frag} {H H' : Hp} {x : V} {T : String} (t : VTy K H x T) (k : UpN H H') : VTy K H' x T := by
  cases t with
  | non => exact .non
  | bl b => exact .bl b
  | int i => exact .int i
  | str y => exact .str y
  | lst e => exact .lst (sqL_up e k)
  | tup e => exact .tup (sqT_up e k)
  | dct e => exact .dct (k _ _ e fun q z => by cases z)
theorem rp_up {K : PySem.W.Frag} {H H' : Hp} {x : V} {d : PyData} (h : RP K H x d) (k : UpN H H') : RP K H' x d := by
  cases h with
  | flat h n => exact .flat (dp_up k h) n
  | dict ps h => exact .dict ps (k _ _ h fun q z => by cases z)
theorem tc_up {K : PySem.W.Frag} {H H' : Hp} {x : V} {d : PyData} (h : TC K H x d) (k : UpN H H') : TC K H' x d := by
  rcases h with ⟨a, xs, ds, h1, h2, h3, h4⟩ | ⟨T, h1, h2⟩
  · exact .inl ⟨a, xs, ds, h1, h2, h3.up k, dps_up k h4⟩
  · exact .inr ⟨T, vty_up h1 k, h2⟩
theorem Th.up {K : PySem.W.Frag} {H H' : Hp} {x : V} (h : Th K H x) (k : UpN H H') : Th K H' x := by
  obtain ⟨d, h1, h2, r⟩ := h
  exact ⟨d, rp_up h1 k, tc_up h2 k, r⟩
theorem th_it {K : PySem.W.Frag} {H : Hp} {x : V} {d : PyData} (h : Dp K H x d) (t : TC K H x d) (i : It 40 1000000 d) (hl : ∀ ds, d = .tuple ds → ds.length ≤ 4000) : Th K H x :=
  ⟨d, .flat h i.2.1, t, i.1, i.2.2.1, Nat.le_trans (shown_le d i.1) (Nat.le_trans i.2.2.2 (by decide)), hl⟩
theorem th_tup {K : PySem.W.Frag} {H : Hp} {a : Addr} {xs : List V} {ds : List PyData} (h : TF H a xs) (hd : DpAll K H xs ds) (i : ∀ d ∈ ds, It 5 20000 d) (hl : ds.length ≤ 20) : Th K H (.ref a) :=
  th_it (.tup h.sq hd) (.inl ⟨a, xs, ds, rfl, rfl, h, hd⟩) (it_mono (it_tup i) (by decide) (by have := Nat.mul_le_mul_left (20000 + 2) hl; omega)) fun es e => by cases e; omega
theorem th_lst {K : PySem.W.Frag} {H : Hp} {a : Addr} {xs : List V} {ds : List PyData} (h : SqL K H a xs) (hd : DpAll K H xs ds) (i : ∀ d ∈ ds, It 5 20000 d) (hl : ds.length ≤ 20) : Th K H (.ref a) :=
  th_it (.lst h hd) (.inr ⟨_, .lst h, by decide +kernel, rfl⟩) (it_mono (it_lst i) (by decide) (by have := Nat.mul_le_mul_left (20000 + 2) hl; omega)) fun es e => by cases e
theorem NearT.th {K : PySem.W.Frag} {H : Hp} {x : V} (h : NearT K H x) : Th K H x := by
  obtain ⟨a, ys, ds, rfl, h2, h3, h4, h5⟩ := h
  exact th_tup h2 h3 (fun d hd => it_mono (it_small (List.all_eq_true.mp h5 d hd)) (by decide) (by decide)) (by omega)
theorem it_ints {zs : List Int} (h : ∀ z ∈ zs, 0 ≤ z ∧ z < 100) : ∀ d ∈ zs.map PyData.int, It 0 1921 d := fun d hd => by
  obtain ⟨z, hz, rfl⟩ := List.mem_map.mp hd
  have := h z hz
  exact it_int (decide_eq_true (by omega))
theorem th_ints {K : PySem.W.Frag} {H : Hp} {a : Addr} {zs : List Int} (h : TF H a (zs.map V.int)) (hz : ∀ z ∈ zs, 0 ≤ z ∧ z < 100) (hl : zs.length ≤ 20) : Th K H (.ref a) :=
  th_tup h (dp_ints zs) (fun d hd => it_mono (it_ints hz d hd) (by decide) (by decide)) (by rw [List.length_map]; exact hl)
theorem th_snoc {K : PySem.W.Frag} {H H' : Hp} {l : List V} {y : V} (h : ∀ x ∈ l, Th K H x) (k : UpN H H') (hy : Th K H' y) : ∀ x ∈ l ++ [y], Th K H' x := fun x hx => by
  rcases List.mem_append.mp hx with hx | hx
  · exact (h x hx).up k
  · rw [List.mem_singleton.mp hx]
    exact hy
/-! ### texts -/
def okS (x : Str) : Prop := ∀ c ∈ x.cps.toList, c < 16 ^ 8
theorem okS_of (s : String) : okS (Str.ofString s) := fun c hc => by
  rw [signs_ofString] at hc
  obtain ⟨ch, _, rfl⟩ := List.mem_map.mp hc
  exact Nat.lt_of_lt_of_le ch.val.toNat_lt (by decide)
theorem okS_app {x y : Str} (hx : okS x) (hy : okS y) : okS (x ++ y) := fun c hc => by
  have e : (x ++ y).cps.toList = x.cps.toList ++ y.cps.toList := by
    show (x.cps ++ y.cps).toList = _
    simp
  rw [e] at hc
  exact (List.mem_append.mp hc).elim (hx c) (hy c)
theorem okS_join {sep : Str} (hs : okS sep) : ∀ {ts : List Str}, (∀ t ∈ ts, okS t) → okS (Str.join sep ts)
  | [], _ => fun c hc => by cases hc
  | [x], h => h x List.mem_cons_self
  | x :: y :: r, h => okS_app (okS_app (h x List.mem_cons_self) hs) (okS_join hs fun t ht => h t (List.mem_cons_of_mem _ ht))
theorem okS_ints (zs : List Int) : okS (PyData.tuple (zs.map .int)).shown := by
  have h : ∀ l : List Int, ∀ t ∈ PyData.shownAll (l.map .int), okS t := fun l => by
    induction l with
    | nil => intro t ht; cases ht
    | cons z l ih =>
      intro t ht
      rcases List.mem_cons.mp (show t ∈ PyData.shown (.int z) :: PyData.shownAll (l.map .int) from ht) with e | e
      · rw [e]
        exact okS_of _
      · exact ih t e
  show okS (tupleText (PyData.shownAll (zs.map .int)))
  unfold tupleText
  exact okS_app (okS_app (okS_of _) (okS_join (okS_of _) (h zs))) (okS_of _)
theorem th_shown {K : PySem.W.Frag} {H : Hp} {zs : List Int} (hz : ∀ z ∈ zs, 0 ≤ z ∧ z < 100) (hl : zs.length ≤ 20) : Th K H (.str (PyData.tuple (zs.map .int)).shown) := by
  have i := it_tup (it_ints hz)
  rw [List.length_map] at i
  have h1 := shown_le _ i.1
  have h2 := Nat.mul_le_mul_left (1921 + 2) hl
  have h3 := StrLaws.reprText_len _ (okS_ints zs)
  have h4 := i.2.2.2
  refine ⟨.str _, .flat (.str _) rfl, .inr ⟨_, .str _, by decide +kernel, rfl⟩, rfl, Nat.zero_le _, ?_, fun ds e => by cases e⟩
  show (reprText _).length ≤ sizeLine
  have h5 : sizeLine = 16777216 := by decide
  omega
theorem th_dict {K : PySem.W.Frag} {H : Hp} {a : Addr} {ps : List (Int × Int)} (h : H a = some (.dK (ps.map fun p => ((Sum.inl p.1 : Key), V.int p.2)))) (hz : ∀ p ∈ ps, smI p.1 = true ∧ smI p.2 = true) (hl : ps.length ≤ 20) : Th K H (.ref a) := by
  have key : ∀ l : List (Int × Int), (∀ p ∈ l, smI p.1 = true ∧ smI p.2 = true) → PyData.showableKv (l.map fun p => (.int p.1, .int p.2)) = true ∧ PyData.depthKv (l.map fun p => (.int p.1, .int p.2)) = 0 ∧ costKv (l.map fun p => (.int p.1, .int p.2)) = 3846 * l.length := fun l => by
    induction l with
    | nil => intro _; exact ⟨rfl, rfl, rfl⟩
    | cons p l ih =>
      intro h
      obtain ⟨g1, g2, g3⟩ := ih fun q hq => h q (List.mem_cons_of_mem _ hq)
      have e := h p List.mem_cons_self
      refine ⟨?_, ?_, ?_⟩
      · show (PyData.showable (.int p.1) && PyData.showable (.int p.2) && PyData.showableKv (l.map fun p => (.int p.1, .int p.2))) = true
        rw [(it_int e.1).1, (it_int e.2).1, g1]
        rfl
      · show max (max 0 0) (PyData.depthKv (l.map fun p => (.int p.1, .int p.2))) = 0
        rw [g2]
        rfl
      · show 1921 + 2 + 1921 + 2 + costKv (l.map fun p => (.int p.1, .int p.2)) = 3846 * (l.length + 1)
        rw [g3]
        omega
  obtain ⟨g1, g2, g3⟩ := key ps hz
  have hs : (PyData.dict (ps.map fun p => (.int p.1, .int p.2))).showable = true := by simpa only [PyData.showable] using g1
  refine ⟨_, .dict ps h, .inr ⟨_, .dct h, by decide +kernel, rfl⟩, hs, by simp only [PyData.depth, g2]; decide, ?_, fun ds e => by cases e⟩
  have h1 := shown_le _ hs
  have h2 : cost (PyData.dict (ps.map fun p => (.int p.1, .int p.2))) = costKv (ps.map fun p => (.int p.1, .int p.2)) + 2 := rfl
  rw [h2, g3] at h1
  have h5 : sizeLine = 16777216 := by decide
  omega
end HM


namespace K01
open PySem PySem.Spec PyProof.Rows L2 HM
abbrev sLaw : Stmt := topS 14
section
variable {P : Program} {w : World} {K : PySem.W.Frag} {mg : Str → Option Value} {base : Heap}
theorem scLaw : FnScope ["_law_script", "_law_pen_here", "_law_turn", "_law_some", "_law_thing", "_law_kept", "_law_found"] ["_law_script"] (defScope sLaw) := ⟨rfl, rfl, rfl, by decide +kernel, rfl, by decide +kernel, by decide +kernel⟩
def spLaw (K : PySem.W.Frag) (Pt : Addr) : Sp := fun vs H Q _ => ∃ (a : Addr) (ns : List Int), vs = [.ref a] ∧ Scr K H a ns ∧ ns.length ≤ 63 ∧ GxR.TabG H Pt ∧ ∀ H', Q (.bl true) H'
theorem ok_law {f fP fD fA fN fT fU Pt : Addr} {fd fdP fdD fdA fdN fdT fdU : FuncData} (F : Fun K "law" "law" sLaw f fd) (FP : Fun K "_law_pen" "_law_pen" sPen fP fdP) (FD : Fun K "_law_draw" "_law_draw" sDraw fD fdD) (FA : Fun K "_law_any_turn" "_law_any_turn" sAny fA fdA)
    (FN : Fun K "_law_near" "_law_near" sNear fN fdN) (FU : Fun K "_law_due" "_law_due" sDue fU fdU) (kT : PySem.W.keepIn K (.ref fT) = true)
    (bP : Binds K fdP ["_law_script"] []) (bD : Binds K fdD ["_law_pen_here", "_law_most"] []) (bA : Binds K fdA ["_law_pen_here", "_law_many"] []) (bN : Binds K fdN ["_law_turn"] []) (bT : Binds K fdT ["thing"] []) (bU : Binds K fdU ["_law_thing"] [])
    (gP : mg "_law_pen" = some (.ref fP)) (gD : mg "_law_draw" = some (.ref fD)) (gA : mg "_law_any_turn" = some (.ref fA)) (gN : mg "_law_near" = some (.ref fN)) (gT : mg "is_turn" = some (.ref fT)) (gU : mg "_law_due" = some (.ref fU))
    (mz : ∀ x ∈ bn, mg x = none) (GT : FnOk P w K mg base CX0 3 fT fdT ["thing"] (spTurn K Pt)) : PFn noRepr P w K mg base CX0 4 f fd ["_law_script"] (spLaw K Pt) := by
  have GP : FnOk P w K mg base CX0 3 fP fdP ["_law_script"] spPen := ok_pen FP
  have GD : FnOk P w K mg base CX0 3 fD fdD ["_law_pen_here", "_law_most"] (spDraw K) := ok_draw FD mz
  have GA : FnOk P w K mg base CX0 3 fA fdA ["_law_pen_here", "_law_many"] (spAny K) := ok_any FA FD bD gD mz
  have GN : FnOk P w K mg base CX0 3 fN fdN ["_law_turn"] (spNear K) := ok_near FN mz
  have GU : FnOk P w K mg base CX0 3 fU fdU ["_law_thing"] (spDue K) := ok_due FU mz
  refine pfn_of F scLaw (fun vs H Q E h => ?_) (fun cdv A outer s H vs Q E hcd hgd hr h => ?_)
  · obtain ⟨a, ns, rfl, _⟩ := h
    rfl
  · obtain ⟨a, ns, rfl, hS, hlen, tg, q⟩ := h
    have hg : (A.deeper (envOfC "law" (defScope sLaw) s.heap.objs.size f cdv)).guards = some [] := hgd
    have mt := mz "tuple" (by decide)
    have mr := mz "range" (by decide)
    have mi := mz "isinstance" (by decide)
    have mp := mz "repr" (by decide)
    refine ⟨_, pss_cons (ps_set (i := 1) scLaw.nd rfl (.inl rfl) (pe_call GP hr (by rfl) gP FP.kp bP .nil pass0 (pa_cons (pv 0) pa_nil)))
      (pss_cons (ps_set (i := 2) scLaw.nd rfl (.inl rfl) (pe_call GA hr (by rfl) gA FA.kp bA .nil pass0 (pa_cons (pv 1) (pa_cons (pe_op op_add pe_int (pe_call GD hr (by rfl) gD FD.kp bD .nil pass0 (pa_cons (pv 1) (pa_cons pe_int pa_nil)))) pa_nil))))
      (pss_cons (ps_set (i := 3) scLaw.nd rfl (.inl rfl) (pe_lst (pa_cons (pv 2) (pa_cons (pe_backT (pv 2)) (pa_cons (pe_op op_catF (pv 2) (pv 2)) (pa_cons (pe_callTy call_list_of (by rfl) (mz "list" (by decide)) (by decide +kernel) (pa_cons (pv 2) pa_nil)) (pa_cons (pe_tupF (pa_cons (pv 2) pa_nil)) (pa_cons (pe_lst (pa_cons (pv 2) pa_nil))
        (pa_cons (pe_dictEnum rfl (by rfl) (mz "dict" (by decide)) (by rfl) (mz "enumerate" (by decide)) (pv 2)) (pa_cons (pe_callTy (call_strD hg hr) (by rfl) (mz "str" (by decide)) (by decide +kernel) (pa_cons (pv 2) pa_nil)) pa_nil))))))))))
      (pss_cons (ps_set (i := 3) scLaw.nd rfl (.inl rfl) (pe_op op_cat (pv 3) (pe_lst (pa_cons (pe_tupF pa_nil) (pa_cons (pe_tupRgF rfl (by rfl) mt (prg_1 (by rfl) mr pe_int)) (pa_cons (pe_tupRgF rfl (by rfl) mt (prg_1 (by rfl) mr pe_int)) (pa_cons (pe_tupF (pa_cons pe_int pa_nil)) (pa_cons (pe_tupF (pa_cons pe_int pa_nil)) (pa_cons (pe_tupF (pa_cons pe_bl pa_nil))
        (pa_cons (pe_tupF (pa_cons pe_int (pa_cons pe_bl pa_nil))) (pa_cons pe_non (pa_cons pe_int (pa_cons pe_bl (pa_cons pe_str (pa_cons pe_dnewK (pa_cons (pe_lst pa_nil) pa_nil))))))))))))))))
      (pss_cons (ps_for PassesOwn.never rfl (pi_list (pe_op op_cat (pv 3) (pe_call GN hr (by rfl) gN FN.kp bN .nil pass0 (pa_cons (pv 2) pa_nil)))) (pg_name (i := 4) scLaw.nd rfl (.inl rfl))
        (pss_cons (ps_set (i := 5) scLaw.nd rfl (.inl rfl) (pe_callB (call_reprD hg hr) (by rfl) mp (by decide +kernel) (pa_cons (pv 4) pa_nil)))
        (pss_cons (ps_set (i := 6) scLaw.nd rfl (.inl rfl) (pe_call GT hr (by rfl) gT kT bT .nil pass0 (pa_cons (pv 4) pa_nil)))
        (pss_one (ps_if (pw_or (pt_not (pt_val (pe_callB call_isi (by rfl) mi boot_isinstance (pa_cons (pv 6) (pa_cons (pe_bltn (v := .ty "bool") (by rfl) (mz "bool" (by decide)) (by decide +kernel) rfl) pa_nil)))))
          (pw_or (pt_cmpR op_ne (pv 6) (pe_call GU hr (by rfl) gU FU.kp bU .nil pass0 (pa_cons (pv 4) pa_nil)) (nomark _))
          (pw_or1 (pt_cmpR op_ne (pe_callB (call_reprD hg hr) (by rfl) mp (by decide +kernel) (pa_cons (pv 4) pa_nil)) (pv 5) (nomark _))))).pt (pss_one (ps_ret pe_bl)) pss_nil)))))
      (pss_one (ps_ret pe_bl)))))), ?_⟩
    -- the pen
    refine ⟨_, rfl, a, rfl, fun p np => ?_⟩
    obtain ⟨H1, eH1⟩ : ∃ H1, H1 = upd H p (.dK (pk a 0 0)) := ⟨_, rfl⟩
    rw [← eH1]
    have k1 : ∀ b o, H b = some o → H1 b = some o := fun b o e => by rw [eH1, upd_ne (ne_of_none e np)]; exact e
    have hp1 : isPen K H1 p 0 := ⟨a, ns, 0, by rw [eH1]; exact upd_same, hS.up fun b ob u e => k1 _ _ e, hlen, by decide, by decide⟩
    have hPp : Pt ≠ p := by
      obtain ⟨ps, e, _⟩ := tg
      exact ne_of_none e np
    have tg1 : GxR.TabG H1 Pt := let ⟨ps, e, r⟩ := tg; ⟨ps, k1 _ _ e, r⟩
    -- a turn
    refine ⟨_, rfl, _, rfl, p, 7, 0, rfl, hp1, by decide, by decide, by decide, fun r t2 H2 r0 r1 h3 h4 hp2 hb2 => ?_⟩
    have tg2 : GxR.TabG H2 Pt := let ⟨ps, e, r⟩ := tg1; ⟨ps, by rw [hb2 Pt hPp]; exact e, r⟩
    refine ⟨1, r, rfl, rfl, p, (1 + r).toNat, t2, ?_, hp2, by omega, by omega, fun T zs t3 H3 hpm h5 h6 hp3 nT tT hk3 => ?_⟩
    · show [V.ref p, V.int (1 + r)] = [V.ref p, V.int (((1 + r).toNat : Nat) : Int)]
      rw [Int.toNat_of_nonneg (by omega)]
    have tg3 : GxR.TabG H3 Pt := let ⟨ps, e, r⟩ := tg2; ⟨ps, hk3 _ _ e hPp, r⟩
    have hzl : zs.length = (1 + r).toNat := by rw [hpm.length_eq, iota_len]
    have hzr : ∀ z ∈ zs, 0 ≤ z ∧ z < 7 := fun z hz => by
      have h9 := inR_iff.mpr (hpm.subset hz)
      unfold HM.inR at h9
      rw [Bool.and_eq_true, decide_eq_true_eq, decide_eq_true_eq] at h9
      omega
    have hz7 : zs.length ≤ 7 := by omega
    have hzb : ∀ z ∈ zs, 0 ≤ z ∧ z < 100 := fun z hz => by
      have := hzr z hz
      omega
    clear hp1 hp2 hp3 hk3 hb2 h3 h4 h5 h6
    have c1 : ∀ x ∈ [V.ref T], Th K H3 x := fun x hx => by
      rw [List.mem_singleton.mp hx]
      exact th_ints tT hzb (by omega)
    -- turn, turn[::-1]
    refine ⟨_, rfl, _, rfl, T, _, rfl, tT.sq, new_rd fun T2 H4 s4 _ _ t4 => ?_⟩
    rw [← List.map_reverse] at t4
    have c2 := th_snoc c1 (.of_same s4) (th_ints (K := K) t4 (fun z hz => hzb z (List.mem_reverse.mp hz)) (by rw [List.length_reverse]; omega))
    have tT4 := tT.up (.of_same s4)
    -- turn + turn
    refine ⟨_, rfl, _, rfl, cat_rd tT4 tT4 (by rw [List.length_map]; omega) fun T3 H5 s5 t5 => ?_⟩
    rw [← List.map_append] at t5
    have c3 := th_snoc c2 (.of_same s5) (th_ints (K := K) t5 (fun z hz => hzb z ((List.mem_append.mp hz).elim id id)) (by rw [List.length_append]; omega))
    have tT5 := tT4.up (.of_same s5)
    -- list(turn)
    refine ⟨_, rfl, T, _, rfl, .inr tT5.sq, fun L1 nL1 => ?_⟩
    obtain ⟨H6, eH6⟩ : ∃ H6, H6 = upd H5 L1 (.lst (zs.map V.int)) := ⟨_, rfl⟩
    rw [← eH6]
    have s6 : Same H5 H6 := fun b o e => by rw [eH6, upd_ne (ne_of_none e nL1)]; exact e
    have dz : ∀ d ∈ zs.map PyData.int, It 5 20000 d := fun d hd => it_mono (it_ints hzb d hd) (by decide) (by decide)
    have c4 := th_snoc c3 (.of_same s6) (th_lst (K := K) (a := L1) (.inl (.inl (by rw [eH6]; exact upd_same))) (dp_ints zs) dz (by rw [List.length_map]; omega))
    have tT6 := tT5.up (.of_same s6)
    -- (turn,)
    refine ⟨_, rfl, by show 1 ≤ sizeLine; decide, new_rd fun T4 H7 s7 _ _ t7 => ?_⟩
    have tT7 := tT6.up (.of_same s7)
    have iT : ∀ d ∈ [PyData.tuple (zs.map .int)], It 5 20000 d := fun d hd => by
      rw [List.mem_singleton.mp hd]
      have i := it_tup (it_ints hzb)
      rw [List.length_map] at i
      have := Nat.mul_le_mul_left (1921 + 2) hz7
      exact it_mono i (by decide) (by omega)
    have dT7 : DpAll K H7 [.ref T] [.tuple (zs.map .int)] := .cons (.tup tT7.sq (dp_ints zs)) .nil
    have c5 := th_snoc c4 (.of_same s7) (th_tup (K := K) t7 dT7 iT (by show 1 ≤ 20; decide))
    -- [turn]
    refine ⟨_, rfl, by show 1 ≤ sizeLine; decide, fun L2 nL2 => ?_⟩
    obtain ⟨H8, eH8⟩ : ∃ H8, H8 = upd H7 L2 (.lst [.ref T]) := ⟨_, rfl⟩
    rw [← eH8]
    have s8 : Same H7 H8 := fun b o e => by rw [eH8, upd_ne (ne_of_none e nL2)]; exact e
    have c6 := th_snoc c5 (.of_same s8) (th_lst (K := K) (a := L2) (.inl (.inl (by rw [eH8]; exact upd_same))) (dps_up (.of_same s8) dT7) iT (by show 1 ≤ 20; decide))
    have tT8 := tT7.up (.of_same s8)
    -- dict(enumerate(turn))
    refine ⟨_, rfl, T, zs, rfl, tT8.sq, by omega, fun D1 nD1 => ?_⟩
    obtain ⟨H9, eH9⟩ : ∃ H9, H9 = upd H8 D1 (.dK ((zs.zipIdx.map fun q => (((q.2 : Nat) : Int), q.1)).map fun p => ((Sum.inl p.1 : Key), V.int p.2))) := ⟨_, rfl⟩
    rw [← eH9]
    have s9 : Same H8 H9 := fun b o e => by rw [eH9, upd_ne (ne_of_none e nD1)]; exact e
    have c7 := th_snoc c6 (.of_same s9) (th_dict (K := K) (a := D1) (ps := zs.zipIdx.map fun q => (((q.2 : Nat) : Int), q.1)) (by rw [eH9]; exact upd_same) (fun pq hpq => by
      obtain ⟨⟨z, j⟩, hm, rfl⟩ := List.mem_map.mp hpq
      have h1 := List.mem_zipIdx hm
      have h2 := hzr z (by rw [h1.2.2]; exact List.getElem_mem _)
      exact ⟨decide_eq_true (by show ((j : Nat) : Int).natAbs ≤ 10 ^ 29; omega), decide_eq_true (by show z.natAbs ≤ 10 ^ 29; omega)⟩) (by rw [List.length_map, List.length_zipIdx]; omega))
    have tT9 := tT8.up (.of_same s9)
    -- str(turn)
    have iTT := it_tup (it_ints hzb)
    rw [List.length_map] at iTT
    have hm7 := Nat.mul_le_mul_left (1921 + 2) hz7
    have hszT : (PyData.tuple (zs.map .int)).shown.length ≤ sizeLine := by
      have h1 := shown_le _ iTT.1
      have h2 := iTT.2.2.2
      have h5 : sizeLine = 16777216 := by decide
      omega
    refine ⟨_, rfl, T, .tuple (zs.map .int), rfl, .flat (.tup tT9.sq (dp_ints zs)) iTT.2.1, iTT.1, by have := iTT.2.2.1; omega, hszT, by show 8 ≤ sizeLine; decide, fun S1 nS1 => ?_⟩
    have c8 := th_snoc c7 (UpN.refl H9) (th_shown (K := K) (H := H9) hzb (by omega))
    obtain ⟨l8, el8⟩ : ∃ l8 : List V, l8 = [.ref T, .ref T2, .ref T3, .ref L1, .ref T4, .ref L2, .ref D1, .str (PyData.tuple (zs.map .int)).shown] := ⟨_, rfl⟩
    have hl8 : l8.length = 8 := by rw [el8]; rfl
    rw [← el8]
    replace c8 : ∀ x ∈ l8, Th K H9 x := by rw [el8]; exact c8
    obtain ⟨H10, eH10⟩ : ∃ H10, H10 = upd H9 S1 (.lst l8) := ⟨_, rfl⟩
    rw [← eH10]
    have s10 : Same H9 H10 := fun b o e => by rw [eH10, upd_ne (ne_of_none e nS1)]; exact e
    have eS1 : H10 S1 = some (.lst l8) := by rw [eH10]; exact upd_same
    have z0 : smI 0 = true := by decide +kernel
    have z1 : smI 1 = true := by decide +kernel
    have i0 : ∀ {i : Int}, smI i = true → It 5 20000 (.int i) := fun h => it_mono (it_int h) (by decide) (by decide)
    have iB : ∀ b : Bool, It 5 20000 (.bool b) := fun b => it_mono (it_bool b) (by decide) (by decide)
    have one1 : ∀ {d : PyData}, It 5 20000 d → ∀ e ∈ [d], It 5 20000 e := fun h e he => by rw [List.mem_singleton.mp he]; exact h
    -- the written ones
    refine ⟨_, rfl, by show 0 ≤ sizeLine; decide, new_rd fun U1 J1 j1 _ _ w1 => ?_⟩
    have e1 := th_snoc (l := []) (H := H10) (fun x hx => by cases hx) (.of_same j1) (th_tup (K := K) w1 .nil (fun d hd => by cases hd) (by decide))
    refine ⟨7, rfl, RgOk.of_le (by decide) (by decide) (by decide) (by decide), new_rd fun U2 J2 j2 _ _ w2 => ?_⟩
    rw [show rgV 0 7 = (iota 7).map V.int from rgV0 7] at w2
    have e2 := th_snoc e1 (.of_same j2) (th_ints (K := K) w2 (by decide) (by decide))
    refine ⟨8, rfl, RgOk.of_le (by decide) (by decide) (by decide) (by decide), new_rd fun U3 J3 j3 _ _ w3 => ?_⟩
    rw [show rgV 0 8 = (iota 8).map V.int from rgV0 8] at w3
    have e3 := th_snoc e2 (.of_same j3) (th_ints (K := K) w3 (by decide) (by decide))
    refine ⟨by show 1 ≤ sizeLine; decide, new_rd fun U4 J4 j4 _ _ w4 => ?_⟩
    have e4 := th_snoc e3 (.of_same j4) (th_tup (K := K) w4 (.cons (.int 0) .nil) (one1 (i0 z0)) (by decide))
    refine ⟨by show 1 ≤ sizeLine; decide, new_rd fun U5 J5 j5 _ _ w5 => ?_⟩
    have e5 := th_snoc e4 (.of_same j5) (th_tup (K := K) w5 (.cons (.int 1) .nil) (one1 (i0 z1)) (by decide))
    refine ⟨by show 1 ≤ sizeLine; decide, new_rd fun U6 J6 j6 _ _ w6 => ?_⟩
    have e6 := th_snoc e5 (.of_same j6) (th_tup (K := K) w6 (.cons (.bl false) .nil) (one1 (iB false)) (by decide))
    refine ⟨by show 2 ≤ sizeLine; decide, new_rd fun U7 J7 j7 _ _ w7 => ?_⟩
    have e7 := th_snoc e6 (.of_same j7) (th_tup (K := K) w7 (.cons (.int 0) (.cons (.bl true) .nil)) (fun d hd => by
      rcases List.mem_cons.mp hd with rfl | hd
      · exact i0 z0
      · rw [List.mem_singleton.mp hd]
        exact iB true) (by decide))
    have vN : Th K J7 .non := th_it .non (.inr ⟨_, .non, by decide +kernel, rfl⟩) (it_mono it_none (by decide) (by decide)) fun ds e => by cases e
    have v0 : Th K J7 (.int 0) := th_it (.int 0) (.inr ⟨_, .int 0, by decide +kernel, rfl⟩) (it_mono (it_int z0) (by decide) (by decide)) fun ds e => by cases e
    have vT : Th K J7 (.bl true) := th_it (.bl true) (.inr ⟨_, .bl true, by decide +kernel, rfl⟩) (it_mono (it_bool true) (by decide) (by decide)) fun ds e => by cases e
    have vS : Th K J7 (.str "01") := th_it (.str _) (.inr ⟨_, .str _, by decide +kernel, rfl⟩) ⟨rfl, rfl, Nat.zero_le _, by decide +kernel⟩ fun ds e => by cases e
    have e11 := th_snoc (th_snoc (th_snoc (th_snoc e7 (UpN.refl J7) vN) (UpN.refl J7) v0) (UpN.refl J7) vT) (UpN.refl J7) vS
    intro D2 nD2
    obtain ⟨J8, eJ8⟩ : ∃ J8, J8 = upd J7 D2 (.dK []) := ⟨_, rfl⟩
    rw [← eJ8]
    have j8 : Same J7 J8 := fun b o e => by rw [eJ8, upd_ne (ne_of_none e nD2)]; exact e
    have e12 := th_snoc e11 (.of_same j8) (th_dict (K := K) (a := D2) (ps := []) (by rw [eJ8]; exact upd_same) (fun pq h => by cases h) (by decide))
    refine ⟨Nat.zero_le _, fun L3 nL3 => ?_⟩
    obtain ⟨J9, eJ9⟩ : ∃ J9, J9 = upd J8 L3 (.lst []) := ⟨_, rfl⟩
    rw [← eJ9]
    have j9 : Same J8 J9 := fun b o e => by rw [eJ9, upd_ne (ne_of_none e nL3)]; exact e
    have e13 := th_snoc e12 (.of_same j9) (th_lst (K := K) (a := L3) (.inl (.inl (by rw [eJ9]; exact upd_same))) .nil (fun d hd => by cases hd) (by decide))
    obtain ⟨l13, el13⟩ : ∃ l13 : List V, l13 = [.ref U1, .ref U2, .ref U3, .ref U4, .ref U5, .ref U6, .ref U7, .non, .int 0, .bl true, .str "01", .ref D2, .ref L3] := ⟨_, rfl⟩
    have hl13 : l13.length = 13 := by rw [el13]; rfl
    replace e13 : ∀ x ∈ l13, Th K J9 x := by rw [el13]; exact e13
    have j19 : Same H10 J9 := (((((((j1.trans j2).trans j3).trans j4).trans j5).trans j6).trans j7).trans j8).trans j9
    refine ⟨by show 13 ≤ sizeLine; decide, fun S2 nS2 => ?_⟩
    rw [← el13]
    obtain ⟨J10, eJ10⟩ : ∃ J10, J10 = upd J9 S2 (.lst l13) := ⟨_, rfl⟩
    rw [← eJ10]
    have j10 : Same J9 J10 := fun b o e => by rw [eJ10, upd_ne (ne_of_none e nS2)]; exact e
    have eS2 : J10 S2 = some (.lst l13) := by rw [eJ10]; exact upd_same
    refine ⟨S1, S2, l8, l13, rfl, rfl, j10 _ _ (j19 _ _ eS1), eS2, by rw [hl8, hl13]; decide, fun S3 nS3 => ?_⟩
    obtain ⟨J11, eJ11⟩ : ∃ J11, J11 = upd J10 S3 (.lst (l8 ++ l13)) := ⟨_, rfl⟩
    rw [← eJ11]
    have j11 : Same J10 J11 := fun b o e => by rw [eJ11, upd_ne (ne_of_none e nS3)]; exact e
    have eS3 : J11 S3 = some (.lst (l8 ++ l13)) := by rw [eJ11]; exact upd_same
    have f21 : ∀ x ∈ l8 ++ l13, Th K J11 x := fun x hx => by
      rcases List.mem_append.mp hx with hx | hx
      · exact (c8 x hx).up (.of_same (((s10.trans j19).trans j10).trans j11))
      · exact (e13 x hx).up (.of_same (j10.trans j11))
    have s3J : Same H3 J11 := ((((((((s4.trans s5).trans s6).trans s7).trans s8).trans s9).trans s10).trans j19).trans j10).trans j11
    -- some + near(turn)
    refine ⟨_, rfl, _, rfl, T, zs, rfl, tT.up (.of_same s3J), hz7, hzr, fun Fd ys J12 j12 nFd eFd hyl hny => ?_⟩
    refine ⟨S3, Fd, _, ys, rfl, rfl, j12 _ _ eS3, eFd, by rw [List.length_append, hl8, hl13]; exact Nat.le_trans (Nat.add_le_add_left hyl _) (by decide), fun S4 nS4 => ?_⟩
    obtain ⟨J13, eJ13⟩ : ∃ J13, J13 = upd J12 S4 (.lst (l8 ++ l13 ++ ys)) := ⟨_, rfl⟩
    rw [← eJ13]
    have j13 : Same J12 J13 := fun b o e => by rw [eJ13, upd_ne (ne_of_none e nS4)]; exact e
    have eS4 : J13 S4 = some (.lst (l8 ++ l13 ++ ys)) := by rw [eJ13]; exact upd_same
    have fall : ∀ x ∈ l8 ++ l13 ++ ys, Th K J13 x := fun x hx => by
      rcases List.mem_append.mp hx with hx | hx
      · exact (f21 x hx).up (.of_same (j12.trans j13))
      · exact (hny x hx).th.up (.of_same j13)
    have tg13 : GxR.TabG J13 Pt := let ⟨ps, e, r⟩ := tg3; ⟨ps, (s3J.trans (j12.trans j13)) _ _ e, r⟩
    obtain ⟨all, eall⟩ : ∃ all, all = l8 ++ l13 ++ ys := ⟨_, rfl⟩
    rw [← eall] at eS4 fall
    refine ⟨S4, rfl, ⟨all, .inl (.inl eS4)⟩, for_list (xs := all) (fun i σ J => UpN J13 J ∧ GxR.TabG J Pt ∧ ∃ y4 y5 y6, σ = [some (.ref a), some (.ref p), some (.ref T), some (.ref S3), y4, y5, y6]) ⟨UpN.refl _, tg13, none, none, none, rfl⟩ (fun i σ J _ hP => ?_) (fun i x σ J hx hP => ?_) (fun σ J hP => ?_)⟩
    · exact .inl (.inl (hP.1 _ _ eS4 fun q z => by cases z))
    · obtain ⟨up, tgJ, y4, y5, y6, rfl⟩ := hP
      obtain ⟨d, hRP, hTC, hs, hdp, hsz, hl4⟩ := (fall x (List.mem_of_getElem? hx)).up up
      refine ⟨x, rfl, x, d, rfl, hRP, hs, hdp, hsz, x, rfl, x, d, rfl, hTC, tgJ, hl4, fun J2 hT => ?_⟩
      have up2 : UpN J J2 := .of_tab tgJ hT
      refine ⟨_, rfl, _, _, _, _, _, rfl, .ty _, .base (.bl _), kit_ty (r := true) (by decide +kernel), _, rfl, iteF ⟨_, rfl, x, rfl, x, d, rfl, tc_up hTC up2, hl4, fun J3 s3 => ⟨rfl, _, rfl, iteNS rfl ⟨x, rfl, x, d, rfl, rp_up (rp_up hRP up2) (.of_same s3), hs, hdp, hsz, _, rfl, rfl, _, rfl, iteNS rfl ?_⟩⟩⟩⟩
      exact ⟨(up.trans up2).trans (.of_same s3), let ⟨ps, e, r⟩ := hT.1; ⟨ps, s3 _ _ e, r⟩, _, _, _, rfl⟩
    · exact q J
end
end K01


namespace K01
open PySem PySem.Spec PyProof.Rows L2 HM
/-- a def of the text as the top has left it -/
structure DefAt (K : PySem.W.Frag) (x : Str) (st : Stmt) (f : Addr) (oc : Value) (od : Option Addr) (kV doc pm : Value) (an : Option Addr) (cdv ct : Value) (sl : Array (Option Value)) : Prop where
  a : PySem.W.nsIn K mainGlobals x = some (some (.ref f))
  l : K.lookup f = some ⟨oc, od, .func (PySem.W.fnOf x x (defArgs st) (defBody st) (defScope st) .none kV doc pm an cdv ct), sl⟩
  c : PySem.W.codeIn K cdv x = true
  k : PySem.W.keepIn K (.ref f) = true
theorem DefAt.fn {K : PySem.W.Frag} {x : Str} {st : Stmt} {f : Addr} {oc : Value} {od : Option Addr} {kV doc pm : Value} {an : Option Addr} {cdv ct : Value} {sl : Array (Option Value)} (D : DefAt K x st f oc od kV doc pm an cdv ct sl) : Fun K x x st f (PySem.W.fnOf x x (defArgs st) (defBody st) (defScope st) .none kV doc pm an cdv ct) := fun_mk D.l D.c D.k
theorem all_mk {l : PySem.W.OpenLaw} {w : World} {K : PySem.W.Frag} {h : Heap} {mg : Str → Option Value} {fa f1 f2 f3 f6 f7 f9 f10 f11 f12 f13 f14 c3 Pt : Addr}
    {oc1 oc2 oc3 oc6 oc7 oc9 oc10 oc11 oc12 oc13 oc14 kV1 kV2 kV3 kV6 kV7 kV9 kV10 kV11 kV12 kV13 kV14 dc1 dc2 dc3 dc6 dc7 dc9 dc10 dc11 dc12 dc13 dc14 pm1 pm2 pm3 pm6 pm7 pm9 pm10 pm11 pm12 pm13 pm14 cd1 cd2 cd6 cd7 cd9 cd10 cd11 cd12 cd13 cd14 ct1 ct2 ct3 ct6 ct7 ct9 ct10 ct11 ct12 ct13 ct14 e3 : Value}
    {od1 od2 od3 od6 od7 od9 od10 od11 od12 od13 od14 an1 an2 an3 an6 an7 an9 an10 an11 an12 an13 an14 dd3 : Option Addr} {sl1 sl2 sl3 sl6 sl7 sl9 sl10 sl11 sl12 sl13 sl14 slc : Array (Option Value)} {vs3 : Array Value} {tM : Tok}
    (X : K.In h) (G : h.Ns mainGlobals mg) (hfa : mg "law" = some (.ref fa)) (tabs : ∀ g ∈ (["has_each_once"] : List Str), ∃ c Pt, TabOf mg h g c Pt)
    (D1 : DefAt K "is_whole" sWhole f1 oc1 od1 kV1 dc1 pm1 an1 cd1 ct1 sl1) (D2 : DefAt K "is_number" sNumber f2 oc2 od2 kV2 dc2 pm2 an2 cd2 ct2 sl2) (D3 : DefAt K "has_each_once" sHas f3 oc3 od3 kV3 dc3 pm3 an3 (.ref c3) ct3 sl3)
    (D6 : DefAt K "can_be_turned" sCan f6 oc6 od6 kV6 dc6 pm6 an6 cd6 ct6 sl6) (D7 : DefAt K "is_turn" sTurn f7 oc7 od7 kV7 dc7 pm7 an7 cd7 ct7 sl7) (D9 : DefAt K "_law_pen" sPen f9 oc9 od9 kV9 dc9 pm9 an9 cd9 ct9 sl9)
    (D10 : DefAt K "_law_draw" sDraw f10 oc10 od10 kV10 dc10 pm10 an10 cd10 ct10 sl10) (D11 : DefAt K "_law_any_turn" sAny f11 oc11 od11 kV11 dc11 pm11 an11 cd11 ct11 sl11) (D12 : DefAt K "_law_due" sDue f12 oc12 od12 kV12 dc12 pm12 an12 cd12 ct12 sl12)
    (D13 : DefAt K "_law_near" sNear f13 oc13 od13 kV13 dc13 pm13 an13 cd13 ct13 sl13) (D14 : DefAt K "law" sLaw f14 oc14 od14 kV14 dc14 pm14 an14 cd14 ct14 sl14) (gM : PySem.W.nsIn K mainGlobals "MOST_THINGS" = some (some (.int 7 tM)))
    (lc : K.lookup c3 = some ⟨e3, dd3, .fields vs3, slc⟩) (ep : vs3[11]? = some (.ref Pt)) (np : K.lookup Pt = none) (mz : ∀ x ∈ bn, PySem.W.nsIn K mainGlobals x = some none) :
    ∃ (fd : FuncData) (cs : List (Addr × Addr)) (sp : Sp), (∀ p ∈ cs, h.get? p.2 = some tabObj) ∧ (∀ p ∈ cs, K.lookup p.2 = none) ∧ (∀ p ∈ cs, PySem.W.CodeHd h p.1 p.2) ∧ (∀ (s : Shared) (u : Value), BindsTo s fd ⟨[u], []⟩ [("_law_script", u)]) ∧
      (∀ (H : Hp) (a : Addr) (ns : List Int), ns.length ≤ 63 → (∀ z ∈ ns, Builtin.Int.intBits z ≤ 1048576) → (∀ p ∈ cs, H p.2 = some (.tbl #[])) → Scr K H a ns → sp [.ref a] H (fun v _ => v = .bl true) fun _ _ _ => False) ∧
      ∀ base : Heap, K.In base → base.Ns mainGlobals mg → (∀ p ∈ cs, GxR.TabB base mg p.1 p.2) → PFn noRepr l.prog w K mg base CX0 4 fa fd ["_law_script"] sp := by
  have e := hfa.symm.trans (PySem.W.mg_of X G D14.a)
  cases e
  obtain ⟨c, P2, f, o, fd, h1, h2, h3, h4, h5, h6⟩ := tabs "has_each_once" List.mem_cons_self
  have e1 := h1.symm.trans (PySem.W.mg_of X G D3.a)
  cases e1
  rw [X _ _ D3.l] at h2
  cases h2
  cases h3
  have e2 : Value.ref c3 = .ref c := h4
  cases e2
  have e3 : Pt = P2 := by
    obtain ⟨o2, us, _, _, _, _, _, _, _, g1, _, g2, g3, _⟩ := h5
    rw [X _ _ lc] at g1
    cases g1
    cases g2
    rw [ep] at g3
    cases g3
    rfl
  subst e3
  have mn : ∀ x ∈ bn, mg x = none := fun x hx => PySem.W.mg_none_of X G (mz x hx)
  have g := fun {x : Str} {u : Value} (z : PySem.W.nsIn K mainGlobals x = some (some u)) => PySem.W.mg_of X G z
  have b1 := D1.fn.binds (ps := ["thing"]) fun _ _ _ _ _ _ us hl => match us, hl with | [_], _ => rfl
  have b3 := D3.fn.binds (ps := ["things", "many"]) fun _ _ _ _ _ _ us hl => match us, hl with | [_, _], _ => rfl
  have b6 := D6.fn.binds (ps := ["many"]) fun _ _ _ _ _ _ us hl => match us, hl with | [_], _ => rfl
  have b7 := D7.fn.binds (ps := ["thing"]) fun _ _ _ _ _ _ us hl => match us, hl with | [_], _ => rfl
  have b9 := D9.fn.binds (ps := ["_law_script"]) fun _ _ _ _ _ _ us hl => match us, hl with | [_], _ => rfl
  have b10 := D10.fn.binds (ps := ["_law_pen_here", "_law_most"]) fun _ _ _ _ _ _ us hl => match us, hl with | [_, _], _ => rfl
  have b11 := D11.fn.binds (ps := ["_law_pen_here", "_law_many"]) fun _ _ _ _ _ _ us hl => match us, hl with | [_, _], _ => rfl
  have b12 := D12.fn.binds (ps := ["_law_thing"]) fun _ _ _ _ _ _ us hl => match us, hl with | [_], _ => rfl
  have b13 := D13.fn.binds (ps := ["_law_turn"]) fun _ _ _ _ _ _ us hl => match us, hl with | [_], _ => rfl
  refine ⟨PySem.W.fnOf "law" "law" (defArgs sLaw) (defBody sLaw) (defScope sLaw) .none kV14 dc14 pm14 an14 cd14 ct14, [(c3, Pt)], spLaw K Pt, fun p hp => ?_, fun p hp => ?_, fun p hp => ?_, fun s u => .of_eq rfl, fun H a ns hl _ hH hS => ?_, fun base _ _ hB => ?_⟩
  · rw [List.mem_singleton.mp hp]
    exact h6
  · rw [List.mem_singleton.mp hp]
    exact np
  · rw [List.mem_singleton.mp hp]
    exact h5
  · exact ⟨a, ns, rfl, hS, hl, ⟨#[], hH _ List.mem_cons_self, trivial⟩, fun _ => rfl⟩
  · have TB := hB (c3, Pt) List.mem_cons_self
    exact ok_law D14.fn D9.fn D10.fn D11.fn D13.fn D12.fn D7.k b9 b10 b11 b13 b7 b12 (g D9.a) (g D10.a) (g D11.a) (g D13.a) (g D7.a) (g D12.a) mn
      (ok_turn D7.fn D3.fn D2.fn D1.fn D6.fn b3 b1 b6 (g D3.a) (g D2.a) (g D1.a) (g D6.a) (g gM) mn rfl TB)
end K01


open PySem PySem.W PyProof.Rows
set_option maxHeartbeats 0 in
theorem PySem.Challenge.cw_heldmarks_k01_turns_known_holds : PySem.Challenge.rw_heldmarks_k01_turns_known.Holds := by
  w_on; o_law; k_head; (case hw => w_witness2)
  k_fill
  refine HM.walk_G (l := PySem.Challenge.rw_heldmarks_k01_turns_known) (n := 63) (k := 4) (x := "_law_script") ["has_each_once"] rfl (by decide) rfl ⟨rfl, by decide, by decide⟩ (by decide +kernel) (fun w h Y => PySem.W.kIn_of Y) ?F
  case F =>
    intro w mg fa h Y KX G hmg tabs
    refine' K01.all_mk KX G hmg tabs ⟨?a1, ?l1, ?c1, ?k1⟩ ⟨?a2, ?l2, ?c2, ?k2⟩ ⟨?a3, ?l3, ?c3, ?k3⟩ ⟨?a6, ?l6, ?c6, ?k6⟩ ⟨?a7, ?l7, ?c7, ?k7⟩ ⟨?a9, ?l9, ?c9, ?k9⟩ ⟨?a10, ?l10, ?c10, ?k10⟩ ⟨?a11, ?l11, ?c11, ?k11⟩ ⟨?a12, ?l12, ?c12, ?k12⟩ ⟨?a13, ?l13, ?c13, ?k13⟩ ⟨?a14, ?l14, ?c14, ?k14⟩ ?gM ?lc ?ep ?np ?mz
    (case a1 => k_is); (case l1 => k_is); (case c1 => k_is); (case k1 => k_is)
    (case a2 => k_is); (case l2 => k_is); (case c2 => k_is); (case k2 => k_is)
    (case a3 => k_is); (case l3 => k_is); (case c3 => k_is); (case k3 => k_is)
    (case a6 => k_is); (case l6 => k_is); (case c6 => k_is); (case k6 => k_is)
    (case a7 => k_is); (case l7 => k_is); (case c7 => k_is); (case k7 => k_is)
    (case a9 => k_is); (case l9 => k_is); (case c9 => k_is); (case k9 => k_is)
    (case a10 => k_is); (case l10 => k_is); (case c10 => k_is); (case k10 => k_is)
    (case a11 => k_is); (case l11 => k_is); (case c11 => k_is); (case k11 => k_is)
    (case a12 => k_is); (case l12 => k_is); (case c12 => k_is); (case k12 => k_is)
    (case a13 => k_is); (case l13 => k_is); (case c13 => k_is); (case k13 => k_is)
    (case a14 => k_is); (case l14 => k_is); (case c14 => k_is); (case k14 => k_is)
    (case gM => k_is); (case lc => k_is); (case ep => rfl); (case np => first | rfl | decide | with_unfolding_all rfl)
    (case mz =>
      intro x hx
      repeat (rcases List.mem_cons.mp hx with rfl | hx; · k_is)
      cases hx)


