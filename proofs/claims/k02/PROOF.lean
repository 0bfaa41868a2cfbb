import PyProof.Rows.All
import Wide.All
import OpenK.AllK
import Wide.FinOn
import KE.KExcIs
import HandS.ForMost
import HandS.Evl
import HandS.IsInst
import HandS.ExcInit
import HandS.ExcIs
import HandS.DeepEq
import HandS.OwnEq
import HandS.SetFor
import KE.GoesMore
import PyProof.Draws
import HandS.Walk
import HandS.Wide
import HandS.Gcd
import KE.KStateDown
import HandS.Defaults
import HandS.Head0
import HandS.Head1
import HandS.Head2
import HandS.Head3
import HandS.HeadEnd
import HandS.HeadHook1
import HandS.HeadHook2
import PyProof.NoPylong
import HandS.Conv
import HandS.TupMul
import HandS.TupAny
import HandS.Strs
import HandS.List
import HandS.Style
import PySem.Challenge.RW_asifforever_k02_whole_spreads_behind
import KE.GoesNew
import KE.GoesZip
set_option Elab.async false
set_option linter.all false
set_option maxRecDepth 100000
set_option maxHeartbeats 4000000
set_option exponentiation.threshold 200000
namespace Law
open PySem L2
def top (i : Nat) : Stmt := PySem.Challenge.pw_asifforever_k02_whole_spreads_behind.main.body.getD i (.Pass ⟨0, 0, 0, 0⟩)
abbrev s_is_integer : Stmt := top 2
abbrev s_is_within : Stmt := top 3
abbrev s_is_row_below : Stmt := top 4
abbrev s_is_fraction : Stmt := top 5
abbrev s_fraction : Stmt := top 6
abbrev s_common_bottom : Stmt := top 7
abbrev s_tops_over : Stmt := top 8
abbrev s_are_one_together : Stmt := top 9
abbrev s_BadSystem_init : Stmt := inClass (top 12) 0
abbrev s_NoSpread_init : Stmt := inClass (top 13) 0
abbrev s_NoNumber_init : Stmt := inClass (top 14) 0
abbrev s_System_init : Stmt := inClass (top 16) 0
abbrev s_System_eq : Stmt := inClass (top 16) 1
abbrev s_is_move : Stmt := top 17
abbrev s_is_spread : Stmt := top 18
abbrev s_step_tops : Stmt := top 19
abbrev s_steps : Stmt := top 20
abbrev s_spread_behind : Stmt := top 21
abbrev s_law_hand : Stmt := top 23
abbrev s_law_draw : Stmt := top 24
abbrev s_law_any : Stmt := top 25
abbrev s_law_low : Stmt := top 26
abbrev s_law_plus : Stmt := top 27
abbrev s_law_times : Stmt := top 28
abbrev s_law_sum : Stmt := top 29
abbrev s_law_shares : Stmt := top 30
abbrev s_law_leads : Stmt := top 31
abbrev s_law_moves : Stmt := top 32
abbrev s_law_size : Stmt := top 33
abbrev s_law_steps : Stmt := top 34
abbrev s_law_deep : Stmt := top 35
abbrev s_law_some_spread : Stmt := top 36
abbrev s_law_next : Stmt := top 37
abbrev s_law_by_rows : Stmt := top 38
abbrev s_law_is_int : Stmt := top 39
abbrev s_law_is_spread : Stmt := top 40
abbrev s_law_bent : Stmt := top 41
abbrev s_law : Stmt := top 42
end Law
namespace Law
open PySem L2
/-- what is asked of the module's names -/
structure NmA (mg : Str → Option Value) : Prop where
  abs : mg "abs" = none
  all : mg "all" = none
  bool : mg "bool" = none
  enum : mg "enumerate" = none
  int : mg "int" = none
  isi : mg "isinstance" = none
  len : mg "len" = none
  list : mg "list" = none
  min : mg "min" = none
  range : mg "range" = none
  sum : mg "sum" = none
  tuple : mg "tuple" = none
  zip : mg "zip" = none
  gcd : mg "gcd" = some (.builtin "math.gcd")
  lcm : mg "lcm" = some (.builtin "math.lcm")
end Law
namespace L2
open PySem PySem.Spec PyProof.Rows
/-! ### // where a quotient of great ints may go by the long way -/
def CPos (_ j : Int) : Prop := 0 < j
/-- from a fragment's facts -/
def strD : DictEntry → Bool := fun e => match e.key with
  | .str _ _ => true
  | _ => false
def nsB (K : PySem.W.Frag) (a : Addr) (no : List Str) : Bool := match K.lookup a with
  | some ⟨_, _, .dict es _, _⟩ => es.toList.all strD && no.all fun x => (nsFind es x).isNone
  | _ => false
theorem ns_of {K : PySem.W.Frag} {h : Heap} {a : Addr} {no : List Str} (x : K.In h) (e : nsB K a no = true) : ∃ m, h.Ns a m ∧ ∀ y ∈ no, m y = none := by
  unfold nsB at e
  split at e
  · rename_i c d es n sl ho
    obtain ⟨e1, e2⟩ := Bool.and_eq_true_iff.mp e
    refine ⟨fun y => nsFind es y, ⟨_, es, n, x _ _ ho, rfl, fun z hz => ?_, fun _ => rfl⟩, fun y hy => ?_⟩
    · have q := List.all_eq_true.mp e1 z (Array.mem_toList_iff.mpr hz)
      unfold strD at q
      split at q
      · rename_i n t hk
        exact ⟨n, t, hk⟩
      · cases q
    · exact Option.isNone_iff_eq_none.mp (List.all_eq_true.mp e2 y hy)
  · cases e
def bmOf (K : PySem.W.Frag) : Addr := match PySem.W.nsIn K mainGlobals "__builtins__" with
  | some (some (.ref b)) => b
  | _ => 0
def modB (K : PySem.W.Frag) : Bool := match K.lookup mainGlobals with
  | some ⟨_, _, .dict es _, _⟩ => es.toList.all strD && (match nsFind es "__builtins__" with
    | some (.ref b) => (match K.lookup b with
      | some o => decide (o.cls = .type "module") && decide (o.dict = some builtinsNs)
      | _ => false)
    | _ => false)
  | _ => false
def seerB (K : PySem.W.Frag) : Bool := nsB K cStatics ["sys.audit-hooks", "sys.dict"] && (nsB K sysModules ["_pylong"] && modB K)
theorem seer_of {K : PySem.W.Frag} {mg : Str → Option Value} {base : Heap} (M : Mod K mg base) (e : seerB K = true) : base.NoSeer := by
  obtain ⟨e1, e2⟩ := Bool.and_eq_true_iff.mp e
  obtain ⟨e2, e3⟩ := Bool.and_eq_true_iff.mp e2
  obtain ⟨m1, n1, h1⟩ := ns_of M.kin e1
  obtain ⟨m2, n2, h2⟩ := ns_of M.kin e2
  refine ⟨⟨m1, n1, h1 _ List.mem_cons_self, h1 _ (List.mem_cons_of_mem _ List.mem_cons_self)⟩, ⟨m2, n2, h2 _ List.mem_cons_self⟩, M.blt, ?_⟩
  unfold modB at e3
  split at e3
  · rename_i c d es n sl ho
    obtain ⟨e4, e5⟩ := Bool.and_eq_true_iff.mp e3
    split at e5
    · rename_i b hb
      split at e5
      · rename_i o hbo
        obtain ⟨e6, e7⟩ := Bool.and_eq_true_iff.mp e5
        refine ⟨fun y => nsFind es y, b, o, ⟨_, es, n, M.kin _ _ ho, rfl, fun z hz => ?_, fun _ => rfl⟩, hb, M.kin _ _ hbo, of_decide_eq_true e6, of_decide_eq_true e7⟩
        have q := List.all_eq_true.mp e4 z (Array.mem_toList_iff.mpr hz)
        unfold strD at q
        split at q
        · rename_i n t hk
          exact ⟨n, t, hk⟩
        · cases q
      · cases e5
    · cases e5
  · cases e3
/-- a context whose frame is uppermost, with room -/
structure Hi (X : Cx) : Prop where
  seer : seerB X.K = true
  tree : X.prog.given.tree = none
  dp : X.A.depth + Builtin.pylongFrames < recursionLimit
  st : X.stack = X.env :: X.outer
  gen : X.env.scope.isGenerator = false
  co : X.env.scope.isCoroutine = false
theorem op_fdivB {X : Cx} (h : Hi X) : OpR X (binaryOp .FloorDiv) (rI CPos fun i j => .int (i / j)) := by
  intro pins s σ H x y v u Q I rx ry hh
  obtain ⟨i, j, rfl, rfl, hc, q⟩ := hh
  obtain ⟨t, rfl⟩ := rx
  obtain ⟨t', rfl⟩ := ry
  have h1 : (0 : Int) < j := hc
  have hN : s.heap.NoSeer := (seer_of I.ok.mod h.seer).keeps I.bk
  have hfr : X.A.frames = some (X.env :: X.outer) := by rw [I.ok.frames, h.st]
  have hS : PySem.SeerAt (model X.prog X.w) X.A s.heap := PySem.SeerAt.of hN h.tree hfr h.gen h.co I.ok.blt I.ok.glob
  exact floordiv_int (by omega) (by rw [Int.fdiv_eq_ediv_of_nonneg i (by omega)]; exact ⟨.int (i / j), H, I.tok _, ⟨_, rfl⟩, q⟩) (.inr (PySem.PylongRoom.of I.nolimit h.dp hS))
end L2
namespace Law
open PySem PySem.Spec PyProof.Rows L2
/-! ### the head's Hook: facts of K by names, and one more Bool -/
/-- the addresses that are looked at: the module, what it leads to, and the three that a division may ask for -/
def asE (g : Addr → Option Obj) (n : Nat) : List Addr := sysModules :: cStatics :: bmOf (He.frG g [mainGlobals]) :: He.asD g n
abbrev AlM : Type := He.AlD × Bool
def obsM (n : Nat) (fa : List He.Fa) (fn : List He.DefD) (ex : PySem.W.Frag → Bool) (g : Addr → Option Obj) : AlM := (He.obsD fa fn (He.frG g (asE g n)), ex (He.frG g (asE g n)))
def hookM (n : Nat) (fa : List He.Fa) (fn : List He.DefD) (ex : PySem.W.Frag → Bool) : PySem.W.Hook where
  α := AlM
  obs := fun s => obsM n fa fn ex s.heap.get?
  val := fun _ => (He.valD fn, true)
  says := fun _ h => ∃ K : PySem.W.Frag, K.In h ∧ He.SaysD fa fn K ∧ ex K = true
  of := fun _ _ e => ⟨_, He.frG_in, congrArg (fun z : AlM => z.1) e, congrArg (fun z : AlM => z.2) e⟩
  keeps := fun _ _ _ ⟨K, hK, c⟩ k => ⟨K, PySem.W.Frag.In.keeps hK k, c⟩
theorem obsM_eq {n : Nat} {fa : List He.Fa} {fn : List He.DefD} {ex : PySem.W.Frag → Bool} {g : Addr → Option Obj} {s : Shared} (h : ∀ a, g a = s.heap.get? a) : obsM n fa fn ex g = (hookM n fa fn ex).obs s := by
  have e : g = s.heap.get? := funext h
  rw [e] <;> rfl
theorem funD_fun {K : PySem.W.Frag} {x qual : Str} {st : Stmt} {f : Addr} {fd : FuncData} (F : FunD K x qual (defArgs st) (defBody st) (defScope st) [] [] f fd) : Fun K x qual st f fd := by
  obtain ⟨⟨oc, od, dV, kV, doc, pm, an, cdv, ct, osl, h1, h2, h3, h4, _⟩, kp⟩ := F
  rcases h4 with ⟨_, rfl⟩ | ⟨h, _⟩
  · exact ⟨⟨oc, od, kV, doc, pm, an, cdv, ct, osl, h1, h2, h3⟩, kp⟩
  · exact absurd rfl h
end Law
namespace Law
open PySem PySem.Spec PyProof.Rows L2
def optT (o : Option Bool) : Bool := match o with
  | some b => b
  | none => false
/-- an own plain class's instances are asked for their class as usual -/
def insB (K : PySem.W.Frag) (C : Addr) : Bool := He.eqO (PySem.W.findIn K (.ref C) "__class__") (some (some (.builtin "object.__class__"))) && (He.eqO (PySem.W.specialIn K (.builtin "object.__class__") "__get__") (some (some (.builtin "getset_descriptor.__get__"))) && (optT (PySem.W.takesIn K (.builtin "object.__class__")) && optT (PySem.W.mroIn K C (.type "object"))))
def gclB (K : PySem.W.Frag) : Bool := He.eqO (PySem.W.nsIn K mainGlobals "gcd") (some (some (.builtin "math.gcd"))) && He.eqO (PySem.W.nsIn K mainGlobals "lcm") (some (some (.builtin "math.lcm")))
def exK (K : PySem.W.Frag) : Bool := gclB K && (insB K (He.ga K "System") && seerB K)
end Law
set_option maxHeartbeats 0
namespace Law
open PySem PySem.Spec PyProof.Rows L2
def fns : List He.DefD := [
  ⟨("is_integer", none), "is_integer", "is_integer", defArgs s_is_integer, defBody s_is_integer, defScope s_is_integer, [], []⟩,
  ⟨("is_within", none), "is_within", "is_within", defArgs s_is_within, defBody s_is_within, defScope s_is_within, [], []⟩,
  ⟨("is_row_below", none), "is_row_below", "is_row_below", defArgs s_is_row_below, defBody s_is_row_below, defScope s_is_row_below, [], []⟩,
  ⟨("is_fraction", none), "is_fraction", "is_fraction", defArgs s_is_fraction, defBody s_is_fraction, defScope s_is_fraction, [], []⟩,
  ⟨("fraction", none), "fraction", "fraction", defArgs s_fraction, defBody s_fraction, defScope s_fraction, [], []⟩,
  ⟨("common_bottom", none), "common_bottom", "common_bottom", defArgs s_common_bottom, defBody s_common_bottom, defScope s_common_bottom, [], []⟩,
  ⟨("tops_over", none), "tops_over", "tops_over", defArgs s_tops_over, defBody s_tops_over, defScope s_tops_over, [], []⟩,
  ⟨("are_one_together", none), "are_one_together", "are_one_together", defArgs s_are_one_together, defBody s_are_one_together, defScope s_are_one_together, [], []⟩,
  ⟨("BadSystem", some "__init__"), "__init__", "BadSystem.__init__", defArgs s_BadSystem_init, defBody s_BadSystem_init, defScope s_BadSystem_init, [], []⟩,
  ⟨("NoSpread", some "__init__"), "__init__", "NoSpread.__init__", defArgs s_NoSpread_init, defBody s_NoSpread_init, defScope s_NoSpread_init, [], []⟩,
  ⟨("NoNumber", some "__init__"), "__init__", "NoNumber.__init__", defArgs s_NoNumber_init, defBody s_NoNumber_init, defScope s_NoNumber_init, [], []⟩,
  ⟨("System", some "__init__"), "__init__", "System.__init__", defArgs s_System_init, defBody s_System_init, defScope s_System_init, [], []⟩,
  ⟨("System", some "__eq__"), "__eq__", "System.__eq__", defArgs s_System_eq, defBody s_System_eq, defScope s_System_eq, [], []⟩,
  ⟨("is_move", none), "is_move", "is_move", defArgs s_is_move, defBody s_is_move, defScope s_is_move, [], []⟩,
  ⟨("is_spread", none), "is_spread", "is_spread", defArgs s_is_spread, defBody s_is_spread, defScope s_is_spread, [], []⟩,
  ⟨("step_tops", none), "step_tops", "step_tops", defArgs s_step_tops, defBody s_step_tops, defScope s_step_tops, [], []⟩,
  ⟨("steps", none), "steps", "steps", defArgs s_steps, defBody s_steps, defScope s_steps, [], []⟩,
  ⟨("spread_behind", none), "spread_behind", "spread_behind", defArgs s_spread_behind, defBody s_spread_behind, defScope s_spread_behind, [], []⟩,
  ⟨("_law_hand", none), "_law_hand", "_law_hand", defArgs s_law_hand, defBody s_law_hand, defScope s_law_hand, [], []⟩,
  ⟨("_law_draw", none), "_law_draw", "_law_draw", defArgs s_law_draw, defBody s_law_draw, defScope s_law_draw, [], []⟩,
  ⟨("_law_any", none), "_law_any", "_law_any", defArgs s_law_any, defBody s_law_any, defScope s_law_any, [], []⟩,
  ⟨("_law_low", none), "_law_low", "_law_low", defArgs s_law_low, defBody s_law_low, defScope s_law_low, [], []⟩,
  ⟨("_law_plus", none), "_law_plus", "_law_plus", defArgs s_law_plus, defBody s_law_plus, defScope s_law_plus, [], []⟩,
  ⟨("_law_times", none), "_law_times", "_law_times", defArgs s_law_times, defBody s_law_times, defScope s_law_times, [], []⟩,
  ⟨("_law_sum", none), "_law_sum", "_law_sum", defArgs s_law_sum, defBody s_law_sum, defScope s_law_sum, [], []⟩,
  ⟨("_law_shares", none), "_law_shares", "_law_shares", defArgs s_law_shares, defBody s_law_shares, defScope s_law_shares, [], []⟩,
  ⟨("_law_leads", none), "_law_leads", "_law_leads", defArgs s_law_leads, defBody s_law_leads, defScope s_law_leads, [], []⟩,
  ⟨("_law_moves", none), "_law_moves", "_law_moves", defArgs s_law_moves, defBody s_law_moves, defScope s_law_moves, [], []⟩,
  ⟨("_law_size", none), "_law_size", "_law_size", defArgs s_law_size, defBody s_law_size, defScope s_law_size, [], []⟩,
  ⟨("_law_steps", none), "_law_steps", "_law_steps", defArgs s_law_steps, defBody s_law_steps, defScope s_law_steps, [], []⟩,
  ⟨("_law_deep", none), "_law_deep", "_law_deep", defArgs s_law_deep, defBody s_law_deep, defScope s_law_deep, [], []⟩,
  ⟨("_law_some_spread", none), "_law_some_spread", "_law_some_spread", defArgs s_law_some_spread, defBody s_law_some_spread, defScope s_law_some_spread, [], []⟩,
  ⟨("_law_next", none), "_law_next", "_law_next", defArgs s_law_next, defBody s_law_next, defScope s_law_next, [], []⟩,
  ⟨("_law_by_rows", none), "_law_by_rows", "_law_by_rows", defArgs s_law_by_rows, defBody s_law_by_rows, defScope s_law_by_rows, [], []⟩,
  ⟨("_law_is_int", none), "_law_is_int", "_law_is_int", defArgs s_law_is_int, defBody s_law_is_int, defScope s_law_is_int, [], []⟩,
  ⟨("_law_is_spread", none), "_law_is_spread", "_law_is_spread", defArgs s_law_is_spread, defBody s_law_is_spread, defScope s_law_is_spread, [], []⟩,
  ⟨("_law_bent", none), "_law_bent", "_law_bent", defArgs s_law_bent, defBody s_law_bent, defScope s_law_bent, [], []⟩,
  ⟨("law", none), "law", "law", defArgs s_law, defBody s_law, defScope s_law, [], []⟩]
def fas : List He.Fa := [
  .glo "is_integer", .glo "is_within", .glo "is_row_below", .glo "is_fraction", .glo "fraction", .glo "common_bottom", .glo "tops_over", .glo "are_one_together", .glo "DrawError", .glo "BadSystem", .glo "NoSpread", .glo "NoNumber", .glo "System", .glo "is_move", .glo "is_spread", .glo "step_tops", .glo "steps", .glo "spread_behind", .glo "_law_hand", .glo "_law_draw", .glo "_law_any", .glo "_law_low", .glo "_law_plus", .glo "_law_times", .glo "_law_sum", .glo "_law_shares", .glo "_law_leads", .glo "_law_moves", .glo "_law_size", .glo "_law_steps", .glo "_law_deep", .glo "_law_some_spread", .glo "_law_next", .glo "_law_by_rows", .glo "_law_is_int", .glo "_law_is_spread", .glo "_law_bent", .glo "law", .free "ValueError", .free "abs", .free "all", .free "bool", .free "enumerate", .free "int", .free "isinstance", .free "len", .free "list", .free "min", .free "range", .free "sum", .free "tuple", .free "zip", .cls "System", .noat "System" "many", .noat "System" "moves", .mkr "System"]
-- defs: 0 is_integer, 1 is_within, 2 is_row_below, 3 is_fraction, 4 fraction, 5 common_bottom, 6 tops_over, 7 are_one_together, 8 BadSystem.__init__, 9 NoSpread.__init__, 10 NoNumber.__init__, 11 System.__init__, 12 System.__eq__, 13 is_move, 14 is_spread, 15 step_tops, 16 steps, 17 spread_behind, 18 _law_hand, 19 _law_draw, 20 _law_any, 21 _law_low, 22 _law_plus, 23 _law_times, 24 _law_sum, 25 _law_shares, 26 _law_leads, 27 _law_moves, 28 _law_size, 29 _law_steps, 30 _law_deep, 31 _law_some_spread, 32 _law_next, 33 _law_by_rows, 34 _law_is_int, 35 _law_is_spread, 36 _law_bent, 37 law
-- facts: 0 .glo "is_integer", 1 .glo "is_within", 2 .glo "is_row_below", 3 .glo "is_fraction", 4 .glo "fraction", 5 .glo "common_bottom", 6 .glo "tops_over", 7 .glo "are_one_together", 8 .glo "DrawError", 9 .glo "BadSystem", 10 .glo "NoSpread", 11 .glo "NoNumber", 12 .glo "System", 13 .glo "is_move", 14 .glo "is_spread", 15 .glo "step_tops", 16 .glo "steps", 17 .glo "spread_behind", 18 .glo "_law_hand", 19 .glo "_law_draw", 20 .glo "_law_any", 21 .glo "_law_low", 22 .glo "_law_plus", 23 .glo "_law_times", 24 .glo "_law_sum", 25 .glo "_law_shares", 26 .glo "_law_leads", 27 .glo "_law_moves", 28 .glo "_law_size", 29 .glo "_law_steps", 30 .glo "_law_deep", 31 .glo "_law_some_spread", 32 .glo "_law_next", 33 .glo "_law_by_rows", 34 .glo "_law_is_int", 35 .glo "_law_is_spread", 36 .glo "_law_bent", 37 .glo "law", 38 .free "ValueError", 39 .free "abs", 40 .free "all", 41 .free "bool", 42 .free "enumerate", 43 .free "int", 44 .free "isinstance", 45 .free "len", 46 .free "list", 47 .free "min", 48 .free "range", 49 .free "sum", 50 .free "tuple", 51 .free "zip", 52 .cls "System", 53 .noat "System" "many", 54 .noat "System" "moves", 55 .mkr "System"
def names0 : List PySem.Str := ["is_integer", "is_within", "is_row_below", "is_fraction", "fraction", "common_bottom", "tops_over", "are_one_together", "DrawError", "BadSystem", "NoSpread", "NoNumber"]
def names1 : List PySem.Str := ["System", "is_move", "is_spread", "step_tops", "steps", "spread_behind", "_law_hand", "_law_draw", "_law_any", "_law_low", "_law_plus", "_law_times"]
def names2 : List PySem.Str := ["_law_sum", "_law_shares", "_law_leads", "_law_moves", "_law_size", "_law_steps", "_law_deep", "_law_some_spread", "_law_next", "_law_by_rows", "_law_is_int", "_law_is_spread"]
def names3 : List PySem.Str := ["_law_bent"]
def names : List PySem.Str := names0 ++ names1 ++ names2 ++ names3
abbrev R : PySem.W.OpenRow := PySem.W.OpenLaw.row PySem.Challenge.rw_asifforever_k02_whole_spreads_behind
abbrev hk : PySem.W.Hook := hookM 4 fas fns exK
def ob (s : PySem.W.SharedT) : AlM := obsM 4 fas fns exK (HandSHeadRun.getT s)
theorem ob_eq (s : PySem.W.SharedT) : ob s = hk.obs s.abs := obsM_eq (HandSHeadRun.getT_eq s)
theorem run (w : World) : HandSHeadRun.RunEqI R (PySem.W.view R.prog [0, 42]) hk ob 13000 names w := by
  unfold HandSHeadRun.RunEqI
  kernel_rfl
end Law
set_option maxHeartbeats 4000000
namespace Law
open PySem L2
theorem sne {x y : Str} (h : ¬ x = y) : ¬ ((Sum.inr x : Key) = Sum.inr y) := fun z => h (Sum.inr.inj z)
theorem n01 : ¬ ((Sum.inr ("cells" : Str) : Key) = Sum.inr ("at" : Str)) := sne (by decide +kernel)
theorem n02 : ¬ ((Sum.inr ("cells" : Str) : Key) = Sum.inr ("great" : Str)) := sne (by decide +kernel)
theorem n03 : ¬ ((Sum.inr ("cells" : Str) : Key) = Sum.inr ("seed" : Str)) := sne (by decide +kernel)
theorem n04 : ¬ ((Sum.inr ("cells" : Str) : Key) = Sum.inr ("turn" : Str)) := sne (by decide +kernel)
theorem n12 : ¬ ((Sum.inr ("at" : Str) : Key) = Sum.inr ("great" : Str)) := sne (by decide +kernel)
theorem n13 : ¬ ((Sum.inr ("at" : Str) : Key) = Sum.inr ("seed" : Str)) := sne (by decide +kernel)
theorem n14 : ¬ ((Sum.inr ("at" : Str) : Key) = Sum.inr ("turn" : Str)) := sne (by decide +kernel)
theorem n23 : ¬ ((Sum.inr ("great" : Str) : Key) = Sum.inr ("seed" : Str)) := sne (by decide +kernel)
theorem n24 : ¬ ((Sum.inr ("great" : Str) : Key) = Sum.inr ("turn" : Str)) := sne (by decide +kernel)
theorem n34 : ¬ ((Sum.inr ("seed" : Str) : Key) = Sum.inr ("turn" : Str)) := sne (by decide +kernel)
/-- the hand's dict: its cells' list, and its four ints -/
def hdK (ca : Addr) (a g s t : Int) : List (Key × V) :=
  [(Sum.inr ("cells" : Str), .ref ca), (Sum.inr ("at" : Str), .int a), (Sum.inr ("great" : Str), .int g), (Sum.inr ("seed" : Str), .int s), (Sum.inr ("turn" : Str), .int t)]
section
variable (ca : Addr) (a g s t x : Int)
theorem get_cells : valV (hdK ca a g s t) (Sum.inr ("cells" : Str)) = some (.ref ca) := valV_pos rfl
theorem get_at : valV (hdK ca a g s t) (Sum.inr ("at" : Str)) = some (.int a) := (valV_neg n01).trans (valV_pos rfl)
theorem get_great : valV (hdK ca a g s t) (Sum.inr ("great" : Str)) = some (.int g) := (valV_neg n02).trans ((valV_neg n12).trans (valV_pos rfl))
theorem get_seed : valV (hdK ca a g s t) (Sum.inr ("seed" : Str)) = some (.int s) := (valV_neg n03).trans ((valV_neg n13).trans ((valV_neg n23).trans (valV_pos rfl)))
theorem get_turn : valV (hdK ca a g s t) (Sum.inr ("turn" : Str)) = some (.int t) := (valV_neg n04).trans ((valV_neg n14).trans ((valV_neg n24).trans ((valV_neg n34).trans (valV_pos rfl))))
theorem put_of {kvs : List (Key × V)} {k : Key} {v w : V} (h : valV kvs k = some w) : putK kvs k v = kvs.map (fun kv => if kv.1 = k then (kv.1, v) else kv) := by
  unfold putK
  rw [if_pos (by rw [valV_any, h]; rfl)]
theorem put_at : putK (hdK ca a g s t) (Sum.inr ("at" : Str)) (.int x) = hdK ca x g s t := by
  rw [put_of (get_at ca a g s t)]
  simp only [hdK, List.map_cons, List.map_nil, n01, if_neg, if_false, if_true, n12, n13, n14, Ne.symm n12, Ne.symm n13, Ne.symm n14, not_false_eq_true]
theorem put_great : putK (hdK ca a g s t) (Sum.inr ("great" : Str)) (.int x) = hdK ca a x s t := by
  rw [put_of (get_great ca a g s t)]
  simp only [hdK, List.map_cons, List.map_nil, if_neg, if_false, if_true, n02, n12, Ne.symm n23, Ne.symm n24, not_false_eq_true]
theorem put_seed : putK (hdK ca a g s t) (Sum.inr ("seed" : Str)) (.int x) = hdK ca a g x t := by
  rw [put_of (get_seed ca a g s t)]
  simp only [hdK, List.map_cons, List.map_nil, if_neg, if_false, if_true, n03, n13, n23, Ne.symm n34, not_false_eq_true]
theorem put_turn : putK (hdK ca a g s t) (Sum.inr ("turn" : Str)) (.int x) = hdK ca a g s x := by
  rw [put_of (get_turn ca a g s t)]
  simp only [hdK, List.map_cons, List.map_nil, if_neg, if_false, if_true, n04, n14, n24, n34, not_false_eq_true]
end
section
variable {H : Hp} {p ca : Addr} {a g s t : Int} (h : H p = some (.dK (hdK ca a g s t)))
include h
theorem gt_cells : DGet H p (.str "cells") (some (.ref ca)) := by
  have q := DGet.k (k := Sum.inr ("cells" : Str)) h
  rw [get_cells] at q
  exact q
theorem gt_at : DGet H p (.str "at") (some (.int a)) := by
  have q := DGet.k (k := Sum.inr ("at" : Str)) h
  rw [get_at] at q
  exact q
theorem gt_great : DGet H p (.str "great") (some (.int g)) := by
  have q := DGet.k (k := Sum.inr ("great" : Str)) h
  rw [get_great] at q
  exact q
theorem gt_seed : DGet H p (.str "seed") (some (.int s)) := by
  have q := DGet.k (k := Sum.inr ("seed" : Str)) h
  rw [get_seed] at q
  exact q
theorem gt_turn : DGet H p (.str "turn") (some (.int t)) := by
  have q := DGet.k (k := Sum.inr ("turn" : Str)) h
  rw [get_turn] at q
  exact q
theorem pt_at (x : Int) : DPut H p (.str "at") (.int x) (upd H p (.dK (hdK ca x g s t))) := by
  have q := DPut.k (k := Sum.inr ("at" : Str)) (v := .int x) h (show 5 < sizeLine by decide)
  rw [put_at] at q
  exact q
theorem pt_great (x : Int) : DPut H p (.str "great") (.int x) (upd H p (.dK (hdK ca a x s t))) := by
  have q := DPut.k (k := Sum.inr ("great" : Str)) (v := .int x) h (show 5 < sizeLine by decide)
  rw [put_great] at q
  exact q
theorem pt_seed (x : Int) : DPut H p (.str "seed") (.int x) (upd H p (.dK (hdK ca a g x t))) := by
  have q := DPut.k (k := Sum.inr ("seed" : Str)) (v := .int x) h (show 5 < sizeLine by decide)
  rw [put_seed] at q
  exact q
theorem pt_turn (x : Int) : DPut H p (.str "turn") (.int x) (upd H p (.dK (hdK ca a g s x))) := by
  have q := DPut.k (k := Sum.inr ("turn" : Str)) (v := .int x) h (show 5 < sizeLine by decide)
  rw [put_turn] at q
  exact q
end
/-- a hand stands at p -/
def HandAt (H : Hp) (p : Addr) : Prop := ∃ (ca : Addr) (cells : List Int) (a : Nat) (g s t : Int), H p = some (.dK (hdK ca a g s t)) ∧ H ca = some (.lst (cells.map V.int)) ∧ cells.length ≤ 63 ∧ a ≤ cells.length ∧ (∀ c ∈ cells, 0 ≤ c) ∧ 0 ≤ g ∧ 0 ≤ s ∧ 0 ≤ t
/-- its cells stand at c -/
def CellOf (H : Hp) (p c : Addr) : Prop := ∃ a g s t, H p = some (.dK (hdK c a g s t))
/-- what a draw may do: the hand stands again, nothing else has changed -/
structure Stp (p : Addr) (H H' : Hp) : Prop where
  keep : ∀ b o, b ≠ p → H b = some o → H' b = some o
  cell : ∀ c, CellOf H p c → CellOf H' p c
  hand : HandAt H' p
theorem Stp.refl {p : Addr} {H : Hp} (h : HandAt H p) : Stp p H H := ⟨fun _ _ _ e => e, fun _ e => e, h⟩
theorem Stp.trans {p : Addr} {H H1 H2 : Hp} (a : Stp p H H1) (b : Stp p H1 H2) : Stp p H H2 := ⟨fun c o n e => b.keep c o n (a.keep c o n e), fun c e => b.cell c (a.cell c e), b.hand⟩
theorem hdK_inj {ca cb : Addr} {a g s t a' g' s' t' : Int} (h : hdK ca a g s t = hdK cb a' g' s' t') : ca = cb := by
  unfold hdK at h
  injection h with h1 _
  injection h1 with _ h2
  injection h2
theorem cell_eq {H : Hp} {p ca c : Addr} {a g s t : Int} (hp : H p = some (.dK (hdK ca a g s t))) (h : CellOf H p c) : c = ca := by
  obtain ⟨a', g', s', t', h⟩ := h
  rw [hp] at h
  have h1 := Option.some.inj h
  injection h1 with h2
  exact (hdK_inj h2).symm
theorem cell_to {H H' : Hp} {p ca : Addr} {a g s t a' g' s' t' : Int} (hp : H p = some (.dK (hdK ca a g s t))) (hp' : H' p = some (.dK (hdK ca a' g' s' t'))) : ∀ c, CellOf H p c → CellOf H' p c := fun c hc => by
  rw [cell_eq hp hc]
  exact ⟨a', g', s', t', hp'⟩
/-- an object that stood not there at the start may change, whatever has been drawn since -/
theorem Stp.mut {p D : Addr} {H H' : Hp} {o : HO} (h : HandAt H p) (S : Stp p H H') (hD : H D = none) : Stp p H (upd H' D o) := by
  obtain ⟨ca, cells, a, g, s, t, hp, hc, _⟩ := h
  obtain ⟨cb, cells', a', g', s', t', hp', hc', r⟩ := S.hand
  have e : ca = cb := cell_eq hp' (S.cell ca ⟨a, g, s, t, hp⟩)
  have n1 : p ≠ D := ne_of_none hp hD
  have n2 : cb ≠ D := e ▸ ne_of_none hc hD
  exact ⟨fun b o n e => by rw [upd_ne (ne_of_none e hD)]; exact S.keep b o n e, fun c hc => by
    obtain ⟨x1, x2, x3, x4, x5⟩ := S.cell c hc
    exact ⟨x1, x2, x3, x4, by rw [upd_ne n1]; exact x5⟩, cb, cells', a', g', s', t', by rw [upd_ne n1]; exact hp', by rw [upd_ne n2]; exact hc', r⟩
def spDraw : Sp := fun vs H Q _ => ∃ (p : Addr) (m : Int), vs = [.ref p, .int m] ∧ 0 < m ∧ m < 1073741824 ∧ HandAt H p ∧ ∀ (d : Int) (H' : Hp), 0 ≤ d → d < m → Stp p H H' → Q (.int d) H'
/-- what is asked of the module's names -/
theorem map_at {cells : List Int} {a : Nat} (h : a < cells.length) : ∃ c, cells[a]? = some c ∧ c ∈ cells ∧ atI (cells.map V.int) (a : Int) = some (V.int c) := by
  refine ⟨cells[a], List.getElem?_eq_getElem h, List.getElem_mem h, ?_⟩
  unfold atI
  rw [Evl.ixN_nat (by rw [List.length_map]; exact h)]
  show (cells.map V.int)[a]? = _
  rw [List.getElem?_map, List.getElem?_eq_getElem h] <;> rfl
section
variable {P : Program} {w : World} {K : PySem.W.Frag} {mg : Str → Option Value} {base : Heap}
theorem scDraw : FnScope ["_law_hand_here", "_law_many", "_law_cell", "_law_digit", "_law_number"] ["_law_hand_here", "_law_many"] (defScope s_law_draw) := ⟨rfl, rfl, rfl, by decide +kernel, rfl, by decide +kernel, by decide +kernel⟩
theorem ok_draw {f : Addr} {fd : FuncData} (F : Fun K "_law_draw" "_law_draw" s_law_draw f fd) (T : NmA mg) : FnOk P w K mg base CX0 1 f fd ["_law_hand_here", "_law_many"] spDraw := by
  refine F.ok scDraw (fun vs H Q E h => ?_) (fun cdv A outer s H vs Q E hr h => ?_)
  · obtain ⟨p, m, rfl, _⟩ := h
    rfl
  · obtain ⟨p, m, rfl, hm0, hm1, hH, k⟩ := h
    have hu := hu_of hr
    refine ⟨_, Evl.pss_cut (ps_if (PW.pt (pw_and (pt_cmpR op_eq (pe_dget hu (pv 0) pe_str (fun _ _ => rfl)) pe_int (nomark _)) (pw_and1 (pt_cmpR op_lt (pe_dget hu (pv 0) pe_str (fun _ _ => rfl)) (pe_callB call_len_seq (by rfl) T.len PySem.boot_len (pa_cons (pe_dget hu (pv 0) pe_str (fun _ _ => rfl)) pa_nil)) (nomark _)))))
        (pss_cons (ps_set (i := 2) scDraw.nd rfl (Or.inl rfl) (pe_ix ix_list (pe_dget hu (pv 0) pe_str (fun _ _ => rfl)) (pe_dget hu (pv 0) pe_str (fun _ _ => rfl)) (fun _ _ => rfl)))
        (pss_cons (ps_dput hu (pv 0) pe_str (pe_op op_add (pe_dget hu (pv 0) pe_str (fun _ _ => rfl)) pe_int) rfl)
        (pss_cons (ps_dput hu (pv 0) pe_str (pe_op op_mod (pe_callTy call_int1 (by rfl) T.int (by decide +kernel) (pa_cons (pe_op op_add (pe_op op_add (pe_op op_mul (pe_dget hu (pv 0) pe_str (fun _ _ => rfl)) pe_int) (pv 2)) pe_int) pa_nil)) pe_int) rfl)
        (pss_one (ps_if (pt_cmpR op_ge (pv 2) (pe_op op_pow pe_int pe_int) (nomark _)) (pss_one (ps_dput hu (pv 0) pe_str (pv 2) rfl)) pss_nil))))) pss_nil)
      (pss_cons (ps_if (pt_cmpR op_gt (pe_dget hu (pv 0) pe_str (fun _ _ => rfl)) pe_int (nomark _))
        (pss_cons (ps_set (i := 3) scDraw.nd rfl (Or.inl rfl) (pe_op op_mod (pe_callTy call_int1 (by rfl) T.int (by decide +kernel) (pa_cons (pe_dget hu (pv 0) pe_str (fun _ _ => rfl)) pa_nil)) (pv 1)))
        (pss_cons (ps_dput hu (pv 0) pe_str (pe_op op_fdiv (pe_dget hu (pv 0) pe_str (fun _ _ => rfl)) (pv 1)) rfl)
        (pss_one (ps_ret (pv 3))))) pss_nil)
      (pss_cons (ps_dput hu (pv 0) pe_str (pe_op op_add (pe_dget hu (pv 0) pe_str (fun _ _ => rfl)) pe_int) rfl)
      (pss_cons (ps_set (i := 4) scDraw.nd rfl (Or.inl rfl) (pe_op op_mod (pe_callTy call_int1 (by rfl) T.int (by decide +kernel) (pa_cons (pe_op op_mul (pe_callTy call_int1 (by rfl) T.int (by decide +kernel) (pa_cons (pe_op op_add (pe_op op_add (pe_dget hu (pv 0) pe_str (fun _ _ => rfl)) pe_int) (pe_op op_mul pe_int (pe_dget hu (pv 0) pe_str (fun _ _ => rfl)))) pa_nil)) pe_int) pa_nil)) pe_int))
      (pss_cons (ps_set (i := 4) scDraw.nd rfl (Or.inl rfl) (pe_op op_mod (pe_callTy call_int1 (by rfl) T.int (by decide +kernel) (pa_cons (pe_op op_mul (pv 4) (pe_op op_add (pe_op op_fdiv (pv 4) pe_int) pe_int)) pa_nil)) pe_int))
      (pss_cons (ps_set (i := 4) scDraw.nd rfl (Or.inl rfl) (pe_op op_mod (pe_callTy call_int1 (by rfl) T.int (by decide +kernel) (pa_cons (pe_op op_mul (pv 4) (pe_op op_add (pe_op op_fdiv (pv 4) pe_int) pe_int)) pa_nil)) pe_int))
      (pss_one (ps_ret (pe_op op_mod (pe_callTy call_int1 (by rfl) T.int (by decide +kernel) (pa_cons (pe_op op_fdiv (pv 4) pe_int) pa_nil)) (pv 1)))))))))
      , ?_⟩
    refine ⟨fun σ' H' => ∃ cv : Option V, σ' = [some (.ref p), some (.int m), cv, none, none] ∧ Stp p H H', ?_, ?_⟩
    · obtain ⟨ca, cells, a, g, s0, t, hp, hca, h63, ha, hc, hg, hs, ht⟩ := id hH
      have npc : ca ≠ p := ne_of hca hp (by intro z; cases z)
      have stop : ∃ cv : Option V, start ["_law_hand_here", "_law_many", "_law_cell", "_law_digit", "_law_number"] [.ref p, .int m] = [some (.ref p), some (.int m), cv, none, none] ∧ Stp p H H := ⟨none, rfl, Stp.refl hH⟩
      refine ⟨_, rfl, p, _, rfl, gt_great hp, rfl, _, rfl, ite2 (fun hg0 => ?_) (fun _ => stop)⟩
      refine ⟨_, rfl, p, _, rfl, gt_at hp, _, rfl, p, _, rfl, gt_cells hp, ca, _, rfl, .inl (SqL.of hca), _, _, rfl, rfl, _, rfl, ite2 (fun hlt => ?_) (fun _ => stop)⟩
      have hlt' : a < cells.length := by
        have z := of_decide_eq_true hlt
        rw [List.length_map] at z
        omega
      obtain ⟨c, hc1, hc2, hc3⟩ := map_at hlt'
      have c0 := hc c hc2
      -- cell = cells[at]
      refine ⟨_, rfl, p, _, rfl, gt_cells hp, _, rfl, p, _, rfl, gt_at hp, ca, _, _, _, rfl, rfl, SqL.of hca, hc3, ?_⟩
      -- at
      refine ⟨_, rfl, p, _, rfl, gt_at hp, _, _, rfl, rfl, _, rfl, p, _, rfl, pt_at hp _, ?_⟩
      -- seed
      refine ⟨_, rfl, p, _, rfl, gt_seed upd_same, _, _, rfl, rfl, .inr ⟨by decide, by decide⟩, _, rfl, _, _, rfl, rfl, _, _, rfl, rfl, .inl ⟨_, rfl, _, _, rfl, rfl, (by show (0 : Int) < 2147483629; decide), _, rfl, p, _, rfl, pt_seed upd_same _, ?_⟩⟩
      rw [upd_upd]
      -- if cell >= 10 ** 18
      refine ⟨_, rfl, _, _, rfl, rfl, ⟨by decide, by decide, by decide⟩, _, _, rfl, rfl, _, rfl, ite2 (fun _ => ?_) (fun _ => ?_)⟩
      · refine ⟨_, rfl, _, rfl, p, _, rfl, pt_great upd_same _, ?_⟩
        rw [upd_upd]
        exact ⟨_, rfl, fun b o n e => by rw [upd_ne n]; exact e, cell_to hp upd_same, ca, cells, a + 1, _, _, _, upd_same, by rw [upd_ne npc]; exact hca, h63, hlt', hc, c0, Int.emod_nonneg _ (by decide), ht⟩
      · exact ⟨_, rfl, fun b o n e => by rw [upd_ne n]; exact e, cell_to hp upd_same, ca, cells, a + 1, _, _, _, upd_same, by rw [upd_ne npc]; exact hca, h63, hlt', hc, hg, Int.emod_nonneg _ (by decide), ht⟩
    · rintro σ' H' ⟨cv, rfl, S1⟩
      obtain ⟨ca, cells, a, g, s0, t, hp, hca, h63, ha, hc, hg, hs, ht⟩ := S1.hand
      have npc : ca ≠ p := ne_of hca hp (by intro z; cases z)
      refine ⟨_, rfl, p, _, rfl, gt_great hp, _, _, rfl, rfl, _, rfl, ite2 (fun hg0 => ?_) (fun _ => ?_)⟩
      · refine ⟨_, rfl, p, _, rfl, gt_great hp, .inl ⟨_, rfl, _, rfl, _, _, rfl, rfl, hm0, ?_⟩⟩
        refine ⟨_, rfl, p, _, rfl, gt_great hp, _, rfl, _, _, rfl, rfl, ⟨hm0, hm1⟩, _, rfl, p, _, rfl, pt_great hp _, _, rfl, ?_⟩
        exact k _ _ (Int.emod_nonneg _ (by omega)) (Int.emod_lt_of_pos _ hm0) ⟨fun b o n e => by rw [upd_ne n]; exact S1.keep b o n e, fun c hc => cell_to hp upd_same c (S1.cell c hc), ca, cells, a, _, _, _, upd_same, by rw [upd_ne npc]; exact hca, h63, ha, hc, Int.ediv_nonneg hg (by omega), hs, ht⟩
      · refine ⟨_, rfl, p, _, rfl, gt_turn hp, _, _, rfl, rfl, _, rfl, p, _, rfl, pt_turn hp _, ?_⟩
        refine ⟨_, rfl, p, _, rfl, gt_seed upd_same, _, _, rfl, rfl, _, rfl, p, _, rfl, gt_turn upd_same, _, _, rfl, rfl, .inl ⟨by decide, by decide⟩, _, _, rfl, rfl, .inl ⟨_, rfl, _, _, rfl, rfl, .inr ⟨by decide, by decide⟩, .inl ⟨_, rfl, _, _, rfl, rfl, (by show (0 : Int) < 2147483647; decide), ?_⟩⟩⟩
        generalize hx : ((s0 + 1 + 7919 * (t + 1)) * 69621) % 2147483647 = x
        have x0 : 0 ≤ x := by rw [← hx]; exact Int.emod_nonneg _ (by decide)
        have x1 : x < 2147483647 := by rw [← hx]; exact Int.emod_lt_of_pos _ (by decide)
        refine ⟨_, rfl, _, rfl, _, _, rfl, rfl, ⟨by decide, by decide⟩, _, _, rfl, rfl, _, _, rfl, rfl, .inl ⟨by omega, by omega⟩, .inl ⟨_, rfl, _, _, rfl, rfl, (by show (0 : Int) < 2147483647; decide), ?_⟩⟩
        generalize hy : (x * (x / 1009 + 48271)) % 2147483647 = y
        have y0 : 0 ≤ y := by rw [← hy]; exact Int.emod_nonneg _ (by decide)
        have y1 : y < 2147483647 := by rw [← hy]; exact Int.emod_lt_of_pos _ (by decide)
        refine ⟨_, rfl, _, rfl, _, _, rfl, rfl, ⟨by decide, by decide⟩, _, _, rfl, rfl, _, _, rfl, rfl, .inl ⟨by omega, by omega⟩, .inl ⟨_, rfl, _, _, rfl, rfl, (by show (0 : Int) < 2147483399; decide), ?_⟩⟩
        refine ⟨_, rfl, _, _, rfl, rfl, ⟨by decide, by decide⟩, .inl ⟨_, rfl, _, rfl, _, _, rfl, rfl, hm0, ?_⟩⟩
        exact k _ _ (Int.emod_nonneg _ (by omega)) (Int.emod_lt_of_pos _ hm0) ⟨fun b o n e => by rw [upd_ne n]; exact S1.keep b o n e, fun c hc => cell_to hp upd_same c (S1.cell c hc), ca, cells, a, _, _, _, upd_same, by rw [upd_ne npc]; exact hca, h63, ha, hc, hg, hs, by omega⟩
theorem cut63 {xs : List V} (h : xs.length ≤ 63) : cutV xs none (some 63) = xs := by
  unfold cutV
  show (xs.drop 0).take (HT.sIx xs.length xs.length (some ((63 : Nat) : Int)) - 0) = xs
  rw [HT.sIx_nat, Nat.min_eq_right (by omega), Nat.sub_zero, List.drop_zero, List.take_length]
theorem merge_app : ∀ (more acc : List (Key × V)), ((acc ++ more).map (·.1)).Nodup → mergeK acc more = acc ++ more
  | [], acc, _ => (List.append_nil acc).symm
  | p :: r, acc, h => by
    have hn : valV acc p.1 = none := by
      unfold valV
      rw [List.find?_eq_none.mpr]
      · rfl
      · intro kv hkv e
        rw [List.map_append, List.nodup_append] at h
        exact h.2.2 kv.1 (List.mem_map_of_mem hkv) p.1 (List.mem_map_of_mem List.mem_cons_self) (of_decide_eq_true e)
    have e : putK acc p.1 p.2 = acc ++ [p] := putK_new _ hn
    show mergeK (putK acc p.1 p.2) r = acc ++ p :: r
    rw [e, merge_app r (acc ++ [p]) (by rw [List.append_assoc]; exact h), List.append_assoc] <;> rfl
theorem hd_keys : ([Sum.inr ("cells" : Str), Sum.inr ("at" : Str), Sum.inr ("great" : Str), Sum.inr ("seed" : Str), Sum.inr ("turn" : Str)] : List Key).Nodup := by decide +kernel
theorem merge_hd (ca : Addr) (a g s t : Int) : mergeK [] (hdK ca a g s t) = hdK ca a g s t := merge_app _ [] hd_keys
def spHand (K : PySem.W.Frag) : Sp := fun vs H Q _ => ∃ (a : Addr) (ns : List Int), vs = [.ref a] ∧ SqL K H a (ns.map V.int) ∧ ns.length ≤ 63 ∧ ∀ (p : Addr) (H' : Hp), H p = none → Same H H' → HandAt H' p → Q (.ref p) H'
theorem scHand : FnScope ["_law_script", "_law_cells", "_law_cell"] ["_law_script"] (defScope s_law_hand) := ⟨rfl, rfl, rfl, by decide +kernel, rfl, by decide +kernel, by decide +kernel⟩
def absI (n : Int) : Int := if n < 0 then -n else n
theorem absI_nn (n : Int) : 0 ≤ absI n := by
  unfold absI
  split <;> omega
theorem ok_hand {f : Addr} {fd : FuncData} (F : Fun K "_law_hand" "_law_hand" s_law_hand f fd) (T : NmA mg) : FnOk P w K mg base CX0 1 f fd ["_law_script"] (spHand K) := by
  refine F.ok scHand (fun vs H Q E h => ?_) (fun cdv A outer s H vs Q E hr h => ?_)
  · obtain ⟨a, ns, rfl, _⟩ := h
    rfl
  · obtain ⟨a, ns, rfl, hS, h63, k⟩ := h
    have hu := hu_of hr
    refine ⟨_, pss_cons (ps_setLc (i := 1) (own := [("_law_cell", 2)]) (g := gName 2) (tt := tYes) rfl scHand.nd rfl rfl (sw_true rfl rfl rfl (by decide +kernel)) (pi_list (pe_slice sl_list (pv 0) po_none (po_some pe_int)))
        (blkOk_by (own := [("_law_cell", 2)]) (N := ["_law_script", "_law_cells", "_law_cell"]) (sc := defScope s_law_hand) (by decide +kernel)) (fun _ _ _ _ _ => pg_name (i := 2) scHand.nd rfl (Or.inl rfl)) (fun _ _ _ _ _ => pts_nil)
        (fun _ _ _ _ _ => pe_callB call_abs (by rfl) T.abs (by decide +kernel) (pa_cons (pe_callTy call_int1 (by rfl) T.int (by decide +kernel) (pa_cons (pv 2) pa_nil)) pa_nil)))
      (pss_one (ps_ret (pe_disp (pps_cons pe_str (pv 1) (pps_cons pe_str pe_int (pps_cons pe_str pe_int (pps_cons pe_str (pe_op op_add pe_int (pe_callB call_len_seq (by rfl) T.len PySem.boot_len (pa_cons (pv 1) pa_nil))) (pps_cons pe_str pe_int pps_nil))))) (by rfl) (by rfl) (fun z => by cases z) (by decide)))), ?_⟩
    refine ⟨_, rfl, 63, rfl, a, _, rfl, hS, fun sp nsp => ?_⟩
    have h63' : (ns.map V.int).length ≤ 63 := by rw [List.length_map]; exact h63
    rw [cut63 h63']
    refine ⟨sp, rfl, ⟨_, SqL.of upd_same⟩, fun D hD => ?_⟩
    have sD : Same H (upd (upd H sp (.lst (ns.map V.int))) D (.lst [])) := fun b o e => by
      have z : upd H sp (.lst (ns.map V.int)) b = some o := by
        rw [upd_ne (ne_of_none e nsp)]
        exact e
      rw [upd_ne (ne_of_none z hD)]
      exact z
    have nDs : sp ≠ D := ne_of_none upd_same hD
    have hD0 : H D = none := by
      rw [upd_ne nDs.symm] at hD
      exact hD
    refine lc_list (K := K) (a := sp) (xs := ns.map V.int) (fun i H' => Same H H' ∧ H' sp = some (.lst (ns.map V.int)) ∧ H' D = some (.lst (((ns.take i).map absI).map V.int))) ⟨sD, by rw [upd_ne nDs, upd_same], upd_same⟩ (fun i H' _ h => SqL.of h.2.1) ?_ ?_
    · rintro i x H' hi ⟨s1, h1, h2⟩
      obtain ⟨z, hz, rfl⟩ : ∃ z, ns[i]? = some z ∧ x = V.int z := by
        rw [List.getElem?_map] at hi
        cases e : ns[i]? with
        | none => rw [e] at hi; cases hi
        | some z => rw [e] at hi; exact ⟨z, rfl, (Option.some.inj hi).symm⟩
      have hil : i < ns.length := (List.getElem?_eq_some_iff.mp hz).1
      refine ⟨rfl, _, rfl, .inl ⟨_, rfl, _, rfl, _, h2, ?_, ?_⟩⟩
      · rw [List.length_map, List.length_map, List.length_take]
        exact small1000 (by omega)
      · refine ⟨fun b o e => ?_, ?_, ?_⟩
        · have hb : b ≠ D := ne_of_none e hD0
          rw [upd_ne hb]
          exact s1 b o e
        · rw [upd_ne nDs]
          exact h1
        · rw [upd_same, List.take_add_one, hz, List.map_append, List.map_append] <;> rfl
    · rintro H' ⟨s1, h1, h2⟩
      rw [List.length_map, List.take_length] at h2
      intro p np
      have npD : D ≠ p := ne_of_none h2 np
      have s2 : Same H (upd H' p (.dK [])) := fun b o e => by
        rw [upd_ne (ne_of_none (s1 b o e) np)]
        exact s1 b o e
      refine ⟨_, rfl, _, rfl, D, _, rfl, .inl (SqL.of (by rw [upd_ne npD]; exact h2)), _, _, rfl, rfl, upd_same, hdK D 0 0 (977 + ((ns.map absI).map V.int).length) 0, rfl, (show 5 ≤ 15 by decide), ?_⟩
      rw [merge_hd, upd_upd]
      refine k p _ (s1.free np) (fun b o e => by rw [upd_ne (ne_of_none (s1 b o e) np)]; exact s1 b o e) ⟨D, ns.map absI, 0, 0, _, 0, upd_same, by rw [upd_ne npD]; exact h2, by rw [List.length_map]; exact h63, Nat.zero_le _, ?_, by decide, by omega, by decide⟩
      intro c hc
      obtain ⟨z, _, rfl⟩ := List.mem_map.mp hc
      exact absI_nn z
theorem Stp.sqL {p l : Addr} {H H' : Hp} {xs : List V} (S : Stp p H H') (hp : HandAt H p) (h : SqL K H l xs) : SqL K H' l xs := by
  obtain ⟨ca, cells, a, g, s0, t, hp, _⟩ := hp
  rcases h with (h | ⟨o, h⟩) | h
  · exact .inl (.inl (S.keep _ _ (ne_of h hp (by intro z; cases z)) h))
  · exact .inl (.inr ⟨o, S.keep _ _ (ne_of h hp (by intro z; cases z)) h⟩)
  · exact .inr h
theorem Stp.sqT {p l : Addr} {H H' : Hp} {xs : List V} (S : Stp p H H') (hp : HandAt H p) (h : SqT K H l xs) : SqT K H' l xs := by
  obtain ⟨ca, cells, a, g, s0, t, hp, _⟩ := hp
  rcases h with (h | ⟨o, h⟩) | h
  · exact .inl (.inl (S.keep _ _ (ne_of h hp (by intro z; cases z)) h))
  · exact .inl (.inr ⟨o, S.keep _ _ (ne_of h hp (by intro z; cases z)) h⟩)
  · exact .inr h
/-- a def of the module that may be called by its name -/
structure Cl (P : Program) (w : World) (K : PySem.W.Frag) (mg : Str → Option Value) (base : Heap) (CX : CXT) (k : Nat) (x : Str) (f : Addr) (fd : FuncData) (ps : List Str) (sp : Sp) : Prop where
  ok : FnOk P w K mg base CX k f fd ps sp
  b : Binds K fd ps []
  m : mg x = some (.ref f)
  kp : PySem.W.keepIn K (.ref f) = true
theorem Cl.call {X : Cx} {k : Nat} {x : Str} {f : Addr} {fd : FuncData} {ps : List Str} {sp : Sp} {p pos : Pos} {e : Expr} {es : List Expr} {t : TA} (c : Cl X.prog X.w X.K X.mg X.base CX0 k x f fd ps sp) (hr : Room k X.A) (ha : PA X (e :: es) t) (hg : Gl X x := by rfl) (hdb : (x == ("__debug__" : Str)) = false := by decide)
    (he : starEach (e :: es) X.env = (false, eval e X.env) :: starEach es X.env := by rfl) (hpl : (backTo pos (starEach es X.env)).any (·.1) = false := by rfl) :
    PE X (.Call (.Name x p) (e :: es) [] pos) (tCall sp [] E0 t) := pe_call c.ok hr hg c.m c.kp c.b .nil pass0 ha hdb he hpl
def spAny (K : PySem.W.Frag) : Sp := fun vs H Q _ => ∃ (p l : Addr) (xs : List V), vs = [.ref p, .ref l] ∧ (SqL K H l xs ∨ SqT K H l xs) ∧ 0 < xs.length ∧ xs.length < 1073741824 ∧ HandAt H p ∧ ∀ (i : Nat) (x : V) (H' : Hp), xs[i]? = some x → Stp p H H' → Q x H'
theorem scAny : FnScope ["_law_hand_here", "_law_things"] ["_law_hand_here", "_law_things"] (defScope s_law_any) := ⟨rfl, rfl, rfl, by decide +kernel, rfl, by decide +kernel, by decide +kernel⟩
theorem ok_any {f fD : Addr} {fd fdD : FuncData} (F : Fun K "_law_any" "_law_any" s_law_any f fd) (T : NmA mg) (D : Cl P w K mg base CX0 1 "_law_draw" fD fdD ["_law_hand_here", "_law_many"] spDraw) : FnOk P w K mg base CX0 2 f fd ["_law_hand_here", "_law_things"] (spAny K) := by
  refine F.ok scAny (fun vs H Q E h => ?_) (fun cdv A outer s H vs Q E hr h => ?_)
  · obtain ⟨p, l, xs, rfl, _⟩ := h
    rfl
  · obtain ⟨p, l, xs, rfl, hS, h0, h1, hH, k⟩ := h
    refine ⟨_, pss_one (ps_ret (pe_ix ix_seq (pv 1) (D.call hr (pa_cons (pv 0) (pa_cons (pe_callB call_len_seq (by rfl) T.len PySem.boot_len (pa_cons (pv 1) pa_nil)) pa_nil))) (fun _ _ => rfl))), ?_⟩
    refine ⟨_, rfl, _, rfl, _, rfl, l, xs, rfl, hS, p, _, rfl, by omega, by omega, hH, fun d H' d0 d1 S => ?_⟩
    obtain ⟨j, rfl⟩ := Int.eq_ofNat_of_zero_le d0
    have hj : j < xs.length := by omega
    have ha : atI xs ((j : Nat) : Int) = some xs[j] := by
      unfold atI
      rw [Evl.ixN_nat hj]
      exact List.getElem?_eq_getElem hj
    rcases hS with hS | hS
    · exact .inl ⟨l, xs, _, _, rfl, rfl, S.sqL hH hS, ha, k j _ H' (List.getElem?_eq_getElem hj) S⟩
    · exact .inr (.inl ⟨l, xs, _, _, rfl, rfl, S.sqT hH hS, ha, k j _ H' (List.getElem?_eq_getElem hj) S⟩)
end
end Law

namespace Law
open PySem L2
/-! ### the program's own: integers, fractions -/
def Ty3 (K : PySem.W.Frag) (H : Hp) (x : V) (bi bb : Bool) : Prop := ∃ t, TyX K H x t ∧ PySem.W.kitOne K t (.type "int") = some bi ∧ PySem.W.kitOne K t (.type "bool") = some bb
theorem ty3_int {K : PySem.W.Frag} {H : Hp} (i : Int) : Ty3 K H (.int i) true false := ⟨_, .base (.int i), kit_ty (by decide +kernel), kit_ty (by decide +kernel)⟩
theorem tyx_tup {K : PySem.W.Frag} {H : Hp} {a : Addr} {xs : List V} (h : SqT K H a xs) : TyX K H (.ref a) (.type "tuple") := by
  rcases h with (h | ⟨o, h⟩) | ⟨o, its, n, hk, hc, _⟩
  · exact .base (.tup h)
  · exact .fTuple h
  · exact .kTuple hk hc
theorem kit_tt {K : PySem.W.Frag} : PySem.W.kitOne K (.type "tuple") (.type "tuple") = some true := kit_ty (by decide +kernel)
end Law
namespace L2
open PySem
theorem Same.sqT {K : PySem.W.Frag} {H H' : Hp} {a : Addr} {xs : List V} (e : Same H H') (h : SqT K H a xs) : SqT K H' a xs := by
  rcases h with (h | ⟨o, h⟩) | h
  · exact .inl (.inl (e _ _ h))
  · exact .inl (.inr ⟨o, e _ _ h⟩)
  · exact .inr h
theorem Same.new {H : Hp} {p : Addr} {o : HO} (h : H p = none) : Same H (upd H p o) := fun b u e => by
  rw [upd_ne (ne_of_none e h)]
  exact e
theorem Same.mut {H H' : Hp} {p : Addr} {o : HO} (e : Same H H') (h : H p = none) : Same H (upd H' p o) := fun b u hb => by
  rw [upd_ne (ne_of_none hb h)]
  exact e b u hb
end L2
namespace Law
open PySem L2
section
variable {P : Program} {w : World} {K : PySem.W.Frag} {mg : Str → Option Value} {base : Heap}
def spIsInt (K : PySem.W.Frag) : Sp := fun vs H Q _ => ∃ x bi bb, vs = [x] ∧ Ty3 K H x bi bb ∧ Q (.bl (bi && !bb)) H
theorem scIsInt : FnScope ["thing"] ["thing"] (defScope s_is_integer) := ⟨rfl, rfl, rfl, by decide +kernel, rfl, by decide +kernel, by decide +kernel⟩
theorem ok_isint {f : Addr} {fd : FuncData} (F : Fun K "is_integer" "is_integer" s_is_integer f fd) (T : NmA mg) : FnOk P w K mg base CX0 1 f fd ["thing"] (spIsInt K) := by
  refine F.ok scIsInt (fun vs H Q E h => ?_) (fun cdv A outer s H vs Q E hr h => ?_)
  · obtain ⟨x, bi, bb, rfl, _⟩ := h
    rfl
  · obtain ⟨x, bi, bb, rfl, ⟨t, ty, h1, h2⟩, k⟩ := h
    refine ⟨_, pss_one (ps_ret (pe_and (pe_callB call_isi (by rfl) T.isi (by decide +kernel) (pa_cons (pv 0) (pa_cons (pe_bltn (v := .ty "int") (u := .type "int") (by rfl) T.int (by decide +kernel) rfl) pa_nil)))
      (pe_one (pe_not (pe_callB call_isi (by rfl) T.isi (by decide +kernel) (pa_cons (pv 0) (pa_cons (pe_bltn (v := .ty "bool") (u := .type "bool") (by rfl) T.bool (by decide +kernel) rfl) pa_nil))))))), ?_⟩
    refine ⟨_, rfl, _, _, _, _, _, rfl, .ty "int", ty, h1, _, rfl, ?_⟩
    cases bi with
    | true => exact iteT ⟨_, rfl, _, _, _, _, _, rfl, .ty "bool", ty, h2, _, rfl, k⟩
    | false => exact iteF k
def spWithin (K : PySem.W.Frag) : Sp := fun vs H Q _ => ∃ (lo hi : Int) (x : V), vs = [.int lo, .int hi, x] ∧ ((∃ i, x = .int i ∧ Q (.bl (decide (lo ≤ i) && decide (i ≤ hi))) H) ∨ ∃ bi bb, Ty3 K H x bi bb ∧ (bi && !bb) = false ∧ Q (.bl false) H)
theorem scWithin : FnScope ["low", "high", "thing"] ["low", "high", "thing"] (defScope s_is_within) := ⟨rfl, rfl, rfl, by decide +kernel, rfl, by decide +kernel, by decide +kernel⟩
theorem ok_within {f fI : Addr} {fd fdI : FuncData} (F : Fun K "is_within" "is_within" s_is_within f fd) (I : Cl P w K mg base CX0 1 "is_integer" fI fdI ["thing"] (spIsInt K)) : FnOk P w K mg base CX0 2 f fd ["low", "high", "thing"] (spWithin K) := by
  refine F.ok scWithin (fun vs H Q E h => ?_) (fun cdv A outer s H vs Q E hr h => ?_)
  · obtain ⟨lo, hi, x, rfl, _⟩ := h
    rfl
  · obtain ⟨lo, hi, x, rfl, h⟩ := h
    refine ⟨_, pss_one (ps_ret (pe_and (I.call hr (pa_cons (pv 2) pa_nil)) (pe_one (pe_chain op_le op_le (pv 0) (pv 2) (pv 1))))), ?_⟩
    rcases h with ⟨i, rfl, k⟩ | ⟨bi, bb, ty, hb, k⟩
    · refine ⟨_, rfl, _, true, false, rfl, ty3_int i, true, rfl, iteT ?_⟩
      refine ⟨_, rfl, _, rfl, _, _, rfl, rfl, _, rfl, ?_⟩
      refine ite2 (fun h1 => ?_) (fun h1 => ?_)
      · refine ⟨_, rfl, _, _, rfl, rfl, ?_⟩
        rw [h1, Bool.true_and] at k
        exact k
      · rw [Bool.not_eq_true] at h1
        rw [h1, Bool.false_and] at k
        exact k
    · refine ⟨_, rfl, x, bi, bb, rfl, ty, _, rfl, ?_⟩
      rw [hb]
      exact iteF k
def isW (lo hi : Int) : V → Bool
  | .int i => decide (lo ≤ i) && decide (i ≤ hi)
  | _ => false
def Known (K : PySem.W.Frag) (H : Hp) (x : V) : Prop := (∃ i, x = .int i) ∨ ∃ bi bb, Ty3 K H x bi bb ∧ (bi && !bb) = false ∧ ∀ lo hi, isW lo hi x = false
def spRowB (K : PySem.W.Frag) : Sp := fun vs H Q _ => ∃ (b : Int) (a : Addr) (xs : List V), vs = [.int b, .ref a] ∧ SqT K H a xs ∧ xs.length ≤ 1000 ∧ (∀ x ∈ xs, ∃ i, x = .int i) ∧ ∀ H', Same H H' → Q (.bl (xs.all (isW 0 (b - 1)))) H'
theorem scRowB : FnScope ["bound", "thing", "part"] ["bound", "thing"] (defScope s_is_row_below) := ⟨rfl, rfl, rfl, by decide +kernel, rfl, by decide +kernel, by decide +kernel⟩
theorem all_take {α : Type} (f : α → Bool) : ∀ xs : List α, (xs.map f).all id = xs.all f
  | [] => rfl
  | x :: xs => by rw [List.map_cons, List.all_cons, List.all_cons, all_take f xs] <;> rfl
theorem ok_rowb {f fW : Addr} {fd fdW : FuncData} (F : Fun K "is_row_below" "is_row_below" s_is_row_below f fd) (T : NmA mg) (W : Cl P w K mg base CX0 2 "is_within" fW fdW ["low", "high", "thing"] (spWithin K)) : FnOk P w K mg base CX0 3 f fd ["bound", "thing"] (spRowB K) := by
  refine F.ok scRowB (fun vs H Q E h => ?_) (fun cdv A outer s H vs Q E hr h => ?_)
  · obtain ⟨b, a, xs, rfl, _⟩ := h
    rfl
  · obtain ⟨b, a, xs, rfl, hS, hz, hx, k⟩ := h
    refine ⟨_, pss_one (ps_ret (pe_and (pe_callB call_isi (by rfl) T.isi (by decide +kernel) (pa_cons (pv 1) (pa_cons (pe_bltn (v := .ty "tuple") (u := .type "tuple") (by rfl) T.tuple (by decide +kernel) rfl) pa_nil)))
      (pe_one (pe_callB (cr_all rfl) (by rfl) T.all (by decide +kernel) (pa_cons (pe_lc (own := [("part", 2)]) (g := gName 2) (tt := tYes) rfl scRowB.nd (pi_tup (pv 1))
        (blkOk_by (own := [("part", 2)]) (N := ["bound", "thing", "part"]) (sc := defScope s_is_row_below) (by decide +kernel)) (fun _ _ _ _ _ => pg_name (i := 2) scRowB.nd rfl (Or.inl rfl)) (fun _ _ _ _ _ => pts_nil)
        (fun _ _ _ _ _ => W.call hr (pa_cons pe_int (pa_cons (pe_op op_sub (pv 0) pe_int) (pa_cons (pv 2) pa_nil))))) pa_nil))))), ?_⟩
    refine ⟨_, rfl, _, _, _, _, _, rfl, .ty "tuple", tyx_tup hS, kit_tt, _, rfl, iteT ?_⟩
    refine ⟨_, rfl, a, rfl, ⟨_, hS⟩, fun D hD => ?_⟩
    refine lc_tup (K := K) (a := a) (xs := xs) (fun i H' => Same H H' ∧ H' D = some (.lst (((xs.take i).map (isW 0 (b - 1))).map V.bl))) ⟨Same.new hD, upd_same⟩ (fun i H' _ h => h.1.sqT hS) ?_ ?_
    · rintro i x H' hi ⟨s1, h1⟩
      obtain ⟨z, rfl⟩ := hx x (List.mem_of_getElem? hi)
      refine ⟨rfl, _, rfl, _, _, rfl, rfl, _, rfl, _, _, _, rfl, .inl ⟨z, rfl, _, h1, ?_, s1.mut hD, ?_⟩⟩
      · rw [List.length_map, List.length_map, List.length_take]
        exact small1000 (by omega)
      · rw [upd_same, List.take_add_one, hi, List.map_append, List.map_append] <;> rfl
    · rintro H' ⟨s1, h1⟩
      rw [List.take_length] at h1
      refine ⟨D, _, rfl, SqL.of h1, ?_⟩
      rw [all_take]
      exact k H' s1
theorem dec_one (n : Nat) : decide (V.int (n : Int) = V.int 1) = (n == 1) := by
  rw [dec_int]
  by_cases e : n = 1
  · subst e
    rfl
  · rw [beq_eq_false_iff_ne.mpr e, beq_eq_false_iff_ne.mpr (by omega)]
def spFrac (K : PySem.W.Frag) : Sp := fun vs H Q _ => ∃ (a : Addr) (t b : Int), vs = [.ref a] ∧ SqT K H a [.int t, .int b] ∧ Q (.bl (decide (0 < b) && (Nat.gcd t.natAbs b.natAbs == 1))) H
theorem scFrac : FnScope ["thing", "top", "bottom"] ["thing"] (defScope s_is_fraction) := ⟨rfl, rfl, rfl, by decide +kernel, rfl, by decide +kernel, by decide +kernel⟩
theorem ok_frac {f fI : Addr} {fd fdI : FuncData} (F : Fun K "is_fraction" "is_fraction" s_is_fraction f fd) (T : NmA mg) (I : Cl P w K mg base CX0 1 "is_integer" fI fdI ["thing"] (spIsInt K)) : FnOk P w K mg base CX0 2 f fd ["thing"] (spFrac K) := by
  refine F.ok scFrac (fun vs H Q E h => ?_) (fun cdv A outer s H vs Q E hr h => ?_)
  · obtain ⟨a, t, b, rfl, _⟩ := h
    rfl
  · obtain ⟨a, t, b, rfl, hS, k⟩ := h
    refine ⟨_, pss_cons (ps_if (PW.pt (pw_or (pt_not (pt_val (pe_callB call_isi (by rfl) T.isi (by decide +kernel) (pa_cons (pv 0) (pa_cons (pe_bltn (v := .ty "tuple") (u := .type "tuple") (by rfl) T.tuple (by decide +kernel) rfl) pa_nil)))))
        (pw_or1 (pt_cmpR op_ne (pe_callB call_len_seq (by rfl) T.len PySem.boot_len (pa_cons (pv 0) pa_nil)) pe_int (nomark _))))) (pss_one (ps_ret pe_bl)) pss_nil)
      (pss_cons (ps_asg (pv 0) (pg_tup (by rfl) (pgs_cons (pg_name (i := 1) scFrac.nd rfl (Or.inl rfl)) (pgs_cons (pg_name (i := 2) scFrac.nd rfl (Or.inl rfl)) pgs_nil))))
      (pss_one (ps_ret (pe_and (I.call hr (pa_cons (pv 1) pa_nil)) (pe_and (I.call hr (pa_cons (pv 2) pa_nil)) (pe_and (pe_cmpR op_gt (pv 2) pe_int (nomark _)) (pe_one (pe_cmpR op_eq (pe_callBfun cr_gcd (by rfl) T.gcd (pa_cons (pv 1) (pa_cons (pv 2) pa_nil))) pe_int (nomark _))))))))), ?_⟩
    refine ⟨_, rfl, _, _, _, _, _, rfl, .ty "tuple", tyx_tup hS, kit_tt, _, rfl, ?_⟩
    refine iteF ⟨_, rfl, a, _, rfl, .inr hS, rfl, _, rfl, iteF ?_⟩
    refine ⟨_, rfl, a, _, rfl, hS, rfl, _, _, rfl, _, _, rfl, rfl, ?_⟩
    refine ⟨_, rfl, _, true, false, rfl, ty3_int t, _, rfl, iteT ⟨_, rfl, _, true, false, rfl, ty3_int b, _, rfl, iteT ⟨_, rfl, _, _, rfl, rfl, _, rfl, ?_⟩⟩⟩
    refine ite2 (fun h1 => ?_) (fun h1 => ?_)
    · refine ⟨_, rfl, _, rfl, t, b, rfl, rfl, ?_⟩
      rw [dec_one]
      rw [h1, Bool.true_and] at k
      exact k
    · rw [Bool.not_eq_true] at h1
      rw [h1, Bool.false_and] at k
      exact k
end
end Law

namespace L2
open PySem PySem.Spec PyProof.Rows
/-! ### math.lcm of great ints -/
theorem lcm_le (a b : Nat) (hb : 0 < b) (ha : 0 < a) : Nat.lcm a b ≤ a * b := Nat.le_of_dvd (Nat.mul_pos ha hb) (Nat.lcm_dvd_mul a b)
theorem lcm_lt {a b : Nat} (ha : a < 2 ^ 9000) (hb : b < 2 ^ 9000) : Nat.lcm a b < 2 ^ 18000 := by
  by_cases h0 : a = 0
  · subst h0
    rw [Nat.lcm_zero_left]
    exact Nat.two_pow_pos _
  by_cases h1 : b = 0
  · subst h1
    rw [Nat.lcm_zero_right]
    exact Nat.two_pow_pos _
  have h := lcm_le a b (Nat.pos_of_ne_zero h1) (Nat.pos_of_ne_zero h0)
  have h2 : a * b < 2 ^ 9000 * 2 ^ 9000 := Nat.mul_lt_mul_of_lt_of_lt ha hb
  rw [← Nat.pow_add] at h2
  exact Nat.lt_of_le_of_lt h h2
def rLcm : List V → Hp → VK → Prop := fun vs H Q => ∃ a b : Int, vs = [.int a, .int b] ∧ a.natAbs < 2 ^ 9000 ∧ b.natAbs < 2 ^ 9000 ∧ Q (.int ((Nat.lcm a.natAbs b.natAbs : Nat) : Int)) H
theorem cr_lcm {X : Cx} : CallR X (.builtin "math.lcm") rLcm := by
  intro pins s σ H vs us Q I r h
  obtain ⟨a, b, rfl, ha, hb, q⟩ := h
  obtain ⟨t, u, rfl⟩ := Vals.int2 r
  have l1 : ∀ {n : Nat}, n < 2 ^ 9000 → n.log2 < 9000 := fun h => PySem.Flt.log2_lt_of (by decide) h
  have m1 : max 1 a.natAbs < 2 ^ 9000 := by
    rw [Nat.max_def]
    split
    · exact ha
    · exact Nat.one_lt_two_pow (by decide)
  have m2 : max a.natAbs b.natAbs < 2 ^ 9000 := by
    rw [Nat.max_def]
    split
    · exact hb
    · exact ha
  have e : ((Nat.lcm 1 a.natAbs).lcm b.natAbs : Nat) = Nat.lcm a.natAbs b.natAbs := by rw [Nat.lcm_one_left]
  have hz : ((((Nat.lcm 1 a.natAbs).lcm b.natAbs : Nat) : Int)).natAbs.log2 < bitsLine := by
    rw [e, Int.natAbs_natCast]
    exact Nat.lt_of_lt_of_le (PySem.Flt.log2_lt_of (by decide) (lcm_lt ha hb)) (by decide)
  have c1 := l1 m1
  have c2 := l1 m2
  refine PySem.call_function_meets PySem.W.MGF.kind_lcm PySem.W.MGF.plain_lcm PySem.W.MGF.entry_lcm (PySem.W.MGF.args_lcm _ _) (PySem.W.mg_run_lcm a t b u (by omega) (by omega) hz).meets ?_
  exact ⟨.int _, H, I.tok _, ⟨_, rfl⟩, by rw [e]; exact q⟩
end L2

namespace Law
open PySem L2
/-! ### lists of fractions -/
abbrev Fr := Int × Int
def FrAt (K : PySem.W.Frag) (H : Hp) (v : V) (f : Fr) : Prop := ∃ s, v = .ref s ∧ SqT K H s [.int f.1, .int f.2]
def FrsIn (K : PySem.W.Frag) (H : Hp) (vs : List V) (fs : List Fr) : Prop := vs.length = fs.length ∧ ∀ (i : Nat) (v : V), vs[i]? = some v → ∃ f, fs[i]? = some f ∧ FrAt K H v f
def FrsAt (K : PySem.W.Frag) (H : Hp) (a : Addr) (fs : List Fr) : Prop := ∃ vs, SqL K H a vs ∧ FrsIn K H vs fs
/-- of moderate size -/
def FrOk (f : Fr) : Prop := 0 < f.2 ∧ f.2.natAbs < 2 ^ 62 ∧ f.1.natAbs < 2 ^ 62
theorem FrAt.same {K : PySem.W.Frag} {H H' : Hp} {v : V} {f : Fr} (e : Same H H') (h : FrAt K H v f) : FrAt K H' v f := by
  obtain ⟨s, h1, h2⟩ := h
  exact ⟨s, h1, e.sqT h2⟩
theorem FrsIn.same {K : PySem.W.Frag} {H H' : Hp} {vs : List V} {fs : List Fr} (e : Same H H') (h : FrsIn K H vs fs) : FrsIn K H' vs fs := ⟨h.1, fun i v hv => by
  obtain ⟨f, h1, h2⟩ := h.2 i v hv
  exact ⟨f, h1, h2.same e⟩⟩
theorem FrsAt.same {K : PySem.W.Frag} {H H' : Hp} {a : Addr} {fs : List Fr} (e : Same H H') (h : FrsAt K H a fs) : FrsAt K H' a fs := by
  obtain ⟨vs, h1, h2⟩ := h
  exact ⟨vs, e.seq h1, h2.same e⟩
def lcmAll (fs : List Fr) : Nat := fs.foldl (fun m f => Nat.lcm m f.2.natAbs) 1
theorem lcmAll_snoc (fs : List Fr) (f : Fr) : lcmAll (fs ++ [f]) = Nat.lcm (lcmAll fs) f.2.natAbs := by
  unfold lcmAll
  rw [List.foldl_append] <;> rfl
theorem lcm_fold : ∀ (fs : List Fr) (m : Nat), 0 < m → (∀ f ∈ fs, FrOk f) → 0 < fs.foldl (fun m f => Nat.lcm m f.2.natAbs) m ∧ fs.foldl (fun m f => Nat.lcm m f.2.natAbs) m ≤ m * 2 ^ (62 * fs.length)
  | [], m, hm, _ => ⟨hm, by simp⟩
  | f :: fs, m, hm, h => by
    obtain ⟨h1, h2, _⟩ := h f List.mem_cons_self
    have p : 0 < f.2.natAbs := by omega
    have q : 0 < Nat.lcm m f.2.natAbs := Nat.lcm_pos hm p
    obtain ⟨i1, i2⟩ := lcm_fold fs (Nat.lcm m f.2.natAbs) q fun g hg => h g (List.mem_cons_of_mem _ hg)
    refine ⟨i1, Nat.le_trans i2 ?_⟩
    have e1 : Nat.lcm m f.2.natAbs ≤ m * 2 ^ 62 := Nat.le_trans (lcm_le _ _ p hm) (Nat.mul_le_mul_left _ (Nat.le_of_lt h2))
    have e2 : m * 2 ^ (62 * (f :: fs).length) = m * 2 ^ 62 * 2 ^ (62 * fs.length) := by
      rw [List.length_cons, Nat.mul_add, Nat.mul_one, Nat.add_comm, Nat.pow_add, Nat.mul_assoc]
    rw [e2]
    exact Nat.mul_le_mul_right _ e1
theorem lcmAll_pos {fs : List Fr} (h : ∀ f ∈ fs, FrOk f) : 0 < lcmAll fs := (lcm_fold fs 1 (by decide) h).1
theorem lcmAll_lt {fs : List Fr} (h : ∀ f ∈ fs, FrOk f) (hl : fs.length ≤ 24) : lcmAll fs < 2 ^ 1489 := by
  have z := (lcm_fold fs 1 (by decide) h).2
  rw [Nat.one_mul] at z
  refine Nat.lt_of_le_of_lt z (Nat.pow_lt_pow_right (by decide) (by omega))
theorem pow_mono {n a b : Nat} (h : n < 2 ^ a) (hab : a ≤ b) : n < 2 ^ b := Nat.lt_of_lt_of_le h (Nat.pow_le_pow_right (by decide) hab)
section
variable {P : Program} {w : World} {K : PySem.W.Frag} {mg : Str → Option Value} {base : Heap}
def spComB (K : PySem.W.Frag) : Sp := fun vs H Q _ => ∃ (a : Addr) (fs : List Fr), vs = [.ref a] ∧ FrsAt K H a fs ∧ fs.length ≤ 24 ∧ (∀ f ∈ fs, FrOk f) ∧ Q (.int (lcmAll fs : Nat)) H
theorem scComB : FnScope ["fractions", "found", "_", "bottom"] ["fractions"] (defScope s_common_bottom) := ⟨rfl, rfl, rfl, by decide +kernel, rfl, by decide +kernel, by decide +kernel⟩
theorem ok_comb {f : Addr} {fd : FuncData} (F : Fun K "common_bottom" "common_bottom" s_common_bottom f fd) (T : NmA mg) : FnOk P w K mg base CX0 1 f fd ["fractions"] (spComB K) := by
  refine F.ok scComB (fun vs H Q E h => ?_) (fun cdv A outer s H vs Q E hr h => ?_)
  · obtain ⟨a, fs, rfl, _⟩ := h
    rfl
  · obtain ⟨a, fs, rfl, ⟨vs, hS, hF⟩, hl, ho, k⟩ := h
    refine ⟨_, pss_cons (ps_set (i := 1) scComB.nd rfl (Or.inl rfl) pe_int)
      (pss_cons (ps_for PassesOwn.never rfl (pi_list (pv 0)) (pg_tup (by rfl) (pgs_cons (pg_name (i := 2) scComB.nd rfl (Or.inl rfl)) (pgs_cons (pg_name (i := 3) scComB.nd rfl (Or.inl rfl)) pgs_nil)))
        (pss_one (ps_set (i := 1) scComB.nd rfl (Or.inl rfl) (pe_callBfun cr_lcm (by rfl) T.lcm (pa_cons (pv 1) (pa_cons (pv 3) pa_nil))))))
      (pss_one (ps_ret (pv 1)))), ?_⟩
    refine ⟨_, rfl, a, rfl, ⟨_, hS⟩, for_list (K := K) (a := a) (xs := vs) (fun i σ H' => H' = H ∧ ∃ u v : Option V, σ = [some (.ref a), some (.int (lcmAll (fs.take i) : Nat)), u, v]) ⟨rfl, none, none, rfl⟩ (fun i σ H' _ h => by rw [h.1]; exact hS) ?_ ?_⟩
    · rintro i x σ H' hi ⟨rfl, u, v, rfl⟩
      obtain ⟨g, hg, t, rfl, hT⟩ := hF.2 i x hi
      have gm : g ∈ fs := List.mem_of_getElem? hg
      obtain ⟨g1, g2, g3⟩ := ho g gm
      have hsub : ∀ f ∈ fs.take i, FrOk f := fun f hf => ho f (List.mem_of_mem_take hf)
      have hlt := lcmAll_lt hsub (by rw [List.length_take]; omega)
      refine ⟨t, _, rfl, hT, rfl, _, _, rfl, _, _, rfl, rfl, ?_⟩
      refine ⟨_, rfl, _, rfl, _, _, rfl, pow_mono (a := 1489) (by rw [Int.natAbs_natCast]; exact hlt) (by decide), pow_mono g2 (by decide), ?_⟩
      refine ⟨rfl, some (.int g.1), some (.int g.2), ?_⟩
      rw [List.take_add_one, hg]
      show _ = [some (V.ref a), some (V.int ((lcmAll (fs.take i ++ [g]) : Nat) : Int)), some (V.int g.1), some (V.int g.2)]
      rw [lcmAll_snoc]
      rfl
    · rintro σ H' ⟨rfl, u, v, rfl⟩
      refine ⟨_, rfl, ?_⟩
      rw [hF.1, List.take_length]
      exact k
def topsOf (fs : List Fr) (b : Int) : List Int := fs.map fun f => f.1 * (b / f.2)
def spTops (K : PySem.W.Frag) : Sp := fun vs H Q _ => ∃ (a : Addr) (fs : List Fr) (b : Int), vs = [.ref a, .int b] ∧ FrsAt K H a fs ∧ fs.length ≤ 24 ∧ (∀ f ∈ fs, FrOk f) ∧ ∀ p H', H p = none → Same H H' → H' p = some (.lst ((topsOf fs b).map V.int)) → Q (.ref p) H'
theorem scTops : FnScope ["fractions", "bottom", "top", "part"] ["fractions", "bottom"] (defScope s_tops_over) := ⟨rfl, rfl, rfl, by decide +kernel, rfl, by decide +kernel, by decide +kernel⟩
theorem ok_tops {f : Addr} {fd : FuncData} (F : Fun K "tops_over" "tops_over" s_tops_over f fd) : FnOk P w K mg base CX0 1 f fd ["fractions", "bottom"] (spTops K) := by
  refine F.ok scTops (fun vs H Q E h => ?_) (fun cdv A outer s H vs Q E hr h => ?_)
  · obtain ⟨a, fs, b, rfl, _⟩ := h
    rfl
  · obtain ⟨a, fs, b, rfl, ⟨vs, hS, hF⟩, hl, ho, k⟩ := h
    refine ⟨_, pss_one (ps_ret (pe_lc (own := [("top", 2), ("part", 3)]) (g := gTup K 2 (gCons (gName 2) (gCons (gName 3) gNil))) (tt := tYes) rfl scTops.nd (pi_list (pv 0))
        (blkOk_by (own := [("top", 2), ("part", 3)]) (N := ["fractions", "bottom", "top", "part"]) (sc := defScope s_tops_over) (by decide +kernel))
        (fun _ _ _ _ _ => pg_tup (by rfl) (pgs_cons (pg_name (i := 2) scTops.nd rfl (Or.inl rfl)) (pgs_cons (pg_name (i := 3) scTops.nd rfl (Or.inl rfl)) pgs_nil))) (fun _ _ _ _ _ => pts_nil)
        (fun _ _ _ _ _ => pe_op op_mul (pv 2) (pe_op op_fdivW (pv 1) (pv 3))))), ?_⟩
    refine ⟨_, rfl, a, rfl, ⟨_, hS⟩, fun D hD => ?_⟩
    refine lc_list (K := K) (a := a) (xs := vs) (fun i H' => Same H H' ∧ H' D = some (.lst ((topsOf (fs.take i) b).map V.int))) ⟨Same.new hD, upd_same⟩ (fun i H' _ h => h.1.seq hS) ?_ ?_
    · rintro i x H' hi ⟨s1, h1⟩
      obtain ⟨g, hg, t, rfl, hT⟩ := hF.2 i x hi
      obtain ⟨g1, g2, g3⟩ := ho g (List.mem_of_getElem? hg)
      have hil : i < fs.length := (List.getElem?_eq_some_iff.mp hg).1
      refine ⟨t, _, rfl, s1.sqT hT, rfl, _, _, rfl, _, _, rfl, rfl, ?_⟩
      refine ⟨rfl, _, rfl, _, rfl, _, rfl, _, _, rfl, rfl, wide_div g1 g2 (by decide) (by decide), _, _, rfl, rfl, .inl ⟨by omega, by omega⟩, _, h1, ?_, s1.mut hD, ?_⟩
      · unfold topsOf
        rw [List.length_map, List.length_map, List.length_take]
        exact small1000 (by omega)
      · unfold topsOf
        rw [upd_same, List.take_add_one, hg, List.map_append, List.map_append] <;> rfl
    · rintro H' ⟨s1, h1⟩
      rw [hF.1, List.take_length] at h1
      exact k D H' hD s1 h1
def spOne (K : PySem.W.Frag) : Sp := fun vs H Q _ => ∃ (a : Addr) (fs : List Fr), vs = [.ref a] ∧ FrsAt K H a fs ∧ fs.length ≤ 24 ∧ (∀ f ∈ fs, FrOk f) ∧ ∀ H', Same H H' → Q (.bl (decide ((topsOf fs (lcmAll fs : Nat)).sum = ((lcmAll fs : Nat) : Int)))) H'
theorem scOne : FnScope ["fractions", "bottom"] ["fractions"] (defScope s_are_one_together) := ⟨rfl, rfl, rfl, by decide +kernel, rfl, by decide +kernel, by decide +kernel⟩
theorem ok_one {f fC fT : Addr} {fd fdC fdT : FuncData} (F : Fun K "are_one_together" "are_one_together" s_are_one_together f fd) (T : NmA mg) (C : Cl P w K mg base CX0 1 "common_bottom" fC fdC ["fractions"] (spComB K))
    (U : Cl P w K mg base CX0 1 "tops_over" fT fdT ["fractions", "bottom"] (spTops K)) : FnOk P w K mg base CX0 2 f fd ["fractions"] (spOne K) := by
  refine F.ok scOne (fun vs H Q E h => ?_) (fun cdv A outer s H vs Q E hr h => ?_)
  · obtain ⟨a, fs, rfl, _⟩ := h
    rfl
  · obtain ⟨a, fs, rfl, hA, hl, ho, k⟩ := h
    refine ⟨_, pss_cons (ps_set (i := 1) scOne.nd rfl (Or.inl rfl) (C.call hr (pa_cons (pv 0) pa_nil)))
      (pss_one (ps_ret (pe_cmpR op_eq (pe_callB (cr_sum rfl) (by rfl) T.sum (by decide +kernel) (pa_cons (U.call hr (pa_cons (pv 0) (pa_cons (pv 1) pa_nil))) pa_nil)) (pv 1) (nomark _)))), ?_⟩
    refine ⟨_, rfl, a, fs, rfl, hA, hl, ho, ?_⟩
    refine ⟨_, rfl, _, rfl, a, fs, _, rfl, hA, hl, ho, fun p H' hp s1 h1 => ⟨p, _, rfl, SqL.of h1, _, rfl, rfl, ?_⟩⟩
    rw [dec_int]
    have z := k H' s1
    rw [show (((topsOf fs (lcmAll fs : Nat)).sum == ((lcmAll fs : Nat) : Int)) = decide ((topsOf fs (lcmAll fs : Nat)).sum = ((lcmAll fs : Nat) : Int))) from rfl]
    exact z
end
end Law

namespace PySem
namespace LawEnum
open AutoSeq1 (wpAny_loadPart')
theorem meets_enumerate_newT (l : Addr) (items : Array Value) (n : Nat) (dct : Option Addr) (sl : Array (Option Value)) :
    Meets (Builtin.«enumerate.__new__» ⟨[.type "enumerate", .ref l], []⟩) (fun _ R s => s.heap.get? l = some { cls := .type "tuple", dict := dct, data := .seq items n, slots := sl } ∧
      R (.ok (.ret (.ref (s.heap.push { cls := .type "tuple_iterator", data := .fields #[.ref l, .int 0 0] }).objs.size)))
        { s with heap := (s.heap.push { cls := .type "tuple_iterator", data := .fields #[.ref l, .int 0 0] }).push { cls := .type "enumerate", data := .fields #[.none, .bool false, .ref s.heap.objs.size, rawInt 0, .none, .none] } }) :=
  .of_wp fun prog w A R s h => by
    obtain ⟨hp, g, d, tk, os⟩ := s; obtain ⟨hl, h⟩ := h
    have hsub := sub_enumerate
    have hL : Heap.IsTuple (Shared.heap ⟨hp, g, d, tk, os⟩) l items := ⟨_, hl, rfl, n, rfl⟩
    wp_walk using wpAny_loadPart' hl
    refine wpAny_stack_any fun st => wpAny_pure ?_
    split
    · rename_i c _ _ _ _ _
      cases (c == Value.type "enumerate")
      · wp_walk using wpAny_loadPart' hl, wpAny_pyIter_tuple hL
        exact ⟨_, rfl, h⟩
      · wp_walk using wpAny_loadPart' hl, wpAny_pyIter_tuple hL
        exact ⟨_, rfl, h⟩
    · wp_walk using wpAny_loadPart' hl, wpAny_pyIter_tuple hL
      exact ⟨_, rfl, h⟩
section
variable {prog : Program} {w : World} {A : Around} {E : Value → Shared → Prop} {s : Shared}
theorem call_enumerate_tuple {l : Addr} {items : Array Value} {Q : Value → Shared → Prop} (hL : s.heap.IsTuple l items)
    (h : ∀ h', IsEnum h' (s.heap.objs.size + 1) s.heap.objs.size 0 .none → h'.IsTupleIter s.heap.objs.size l 0 → h'.objs.size = s.heap.objs.size + 2 →
      (∀ b o, s.heap.get? b = some o → h'.get? b = some o) → Q (.ref (s.heap.objs.size + 1)) { s with heap := h' }) :
    wpAny (model prog w) A (call (.type "enumerate") [.ref l]) Q E s := by
  obtain ⟨⟨c, dct, dt, sl⟩, hl, hc, n, hd⟩ := hL
  replace hc : c = .type "tuple" := hc
  replace hd : dt = .seq items n := hd
  subst hc hd
  refine callType_new F.called_enumerate (by decide) (F.typeCall_enumerate_1 _) (F.newCall_enumerate_1 _) (fun obj => F.args_object_init_2 obj _) F.entry_enumerate_new
    (meets_enumerate_newT l items n dct sl) ⟨hl, ?_⟩
  have hz : (s.heap.push { cls := .type "tuple_iterator", data := .fields #[.ref l, .int 0 0] }).objs.size = s.heap.objs.size + 1 := Heap.size_push ..
  show _ ∧ _
  rw [hz]
  have he : IsEnum ((s.heap.push { cls := .type "tuple_iterator", data := .fields #[.ref l, .int 0 0] }).push
      { cls := .type "enumerate", data := .fields #[.none, .bool false, .ref s.heap.objs.size, rawInt 0, .none, .none] }) (s.heap.objs.size + 1) s.heap.objs.size 0 .none := by
    have := Heap.get?_push_size (s.heap.push { cls := .type "tuple_iterator", data := .fields #[.ref l, .int 0 0] })
      (o := { cls := .type "enumerate", data := .fields #[.none, .bool false, .ref s.heap.objs.size, rawInt 0, .none, .none] }) rfl
    rw [hz] at this; exact this
  refine ⟨⟨_, he, rfl⟩, h _ he ⟨_, Heap.get?_push_of_some _ (Heap.get?_push_size _ rfl), rfl, rfl⟩ (by rw [Heap.size_push, hz]) fun b o x => Heap.get?_push_of_some _ (Heap.get?_push_of_some _ x)⟩
end
theorem draws_end {prog : Program} {w : World} {A : Around} (hh : A.handled = none) (it t : Addr) (items : Array Value) (i : Nat) (hx : items[i]? = none) :
    Draws prog w A it [it, t] 0 (fun _ _ => True) (fun _ h => h.IsTupleIter it t i ∧ h.IsTuple t items) where
  live := fun _ _ st => let ⟨o, ho, _⟩ := st.1; ⟨o, ho⟩
  frame := fun _ _ _ st hk => ⟨st.1.at fun o e => hk it (by simp) o e, st.2.at fun o e => hk t (by simp) o e⟩
  item := fun i s Q E hi st hQ => absurd hi (Nat.not_lt_zero i)
  done := fun s Q E st hE => wpAny_nextOf_tuple_end hh st.1 st.2 hx hE
end LawEnum
end PySem
namespace L2
open PySem PySem.Spec PyProof.Rows
/-- the tuple at a, item by item, each in a new pair with its number -/
def IteT (K : PySem.W.Frag) (a : Addr) : It :=
  ⟨fun i H => ∃ (xs : List V) (x : V), SqT K H a xs ∧ xs[i]? = some x, fun i H v H' => ∃ T x, v = .ref T ∧ H T = none ∧ H' = upd H T (.tup [.int (i : Nat), x]) ∧ ∀ xs, SqT K H a xs → xs[i]? = some x, fun i H => ∃ xs : List V, SqT K H a xs ∧ xs.length ≤ i⟩
theorem turn_enumT {P : Program} {w : World} {K : PySem.W.Frag} {elts : List Expr} {kk : Nat} {tpos : Pos} (a e it : Addr) :
    Turn P w K (.Tuple elts kk tpos) (IteT K a) [e, it] e (fun i h => (∃ old, IsEnum h e it ((i : Nat) : Int) old) ∧ h.IsTupleIter it a i ∧ e ≠ it ∧ a ≠ it ∧ e ≠ a) where
  mem := by simp
  obj := fun i h st b hb => by
    obtain ⟨⟨old, he⟩, ⟨o, ho, hc, hd⟩, _⟩ := st
    have e' : b = e ∨ b = it := by simpa using hb
    rcases e' with z | z
    · rw [z]; exact ⟨_, he, fun v q => nomatch q⟩
    · rw [z]; exact ⟨o, ho, fun v q => by rw [hd] at q; cases q⟩
  keep := fun i h h' st k => let ⟨⟨old, he⟩, hi, hne, h1, h2⟩ := st; ⟨⟨old, k e (by simp) _ he⟩, hi.at fun o q => k it (by simp) o q, hne, h1, h2⟩
  item := by
    intro X hP hw hK hc i pins s σ H E I hf st hg
    subst hP hw hK
    obtain ⟨⟨old, he⟩, hit, hne, hai, hea⟩ := st
    obtain ⟨xs, x, hq, hx⟩ := hg
    obtain ⟨its, rv, p, hz⟩ := I.tuple hq
    obtain ⟨u, hu, ru⟩ := rv.get hx
    have hel : e < s.heap.objs.size := Heap.lt_size he
    have hil : it < s.heap.objs.size := by obtain ⟨_, q, _⟩ := hit; exact Heap.lt_size q
    have hlt : i < its.toArray.size := by
      have z := (List.getElem?_eq_some_iff.mp hu).1
      simpa using z
    have D := Draws.tuple (prog := X.prog) (w := X.w) (A := X.A.in1) (I.ok.hd hc) it a hai its.toArray
    refine wpAny_pyNext_enum_itemD D he ⟨hit, p⟩ hlt hne (by simp [hne, hea]) fun x' h' tk hPx ho hit' hT hsz hk => ?_
    have ex : x' = u := by
      have z : its.toArray[i]? = some x' := hPx
      have z2 : its.toArray[i]? = some u := by simpa using hu
      rw [z2] at z
      exact (Option.some.inj z).symm
    subst ex
    refine ⟨_, rfl, wpAny_letOwnedTupleGo_enum (s := { s with heap := h', toks := tk + 1 }) ho fun h'' he' sb => ?_⟩
    have hT2 : h''.get? s.heap.objs.size = some { cls := .type "tuple", data := .seq #[.int i tk, x'] } := (sb.2 _ (Nat.ne_of_gt hel)).trans hT
    have new : ObjOk X.prog X.w (upd H s.heap.objs.size (.tup [.int (i : Nat), x])) h'' s.heap.objs.size (.tup [.int (i : Nat), x]) :=
      ⟨by show 2 ≤ sizeLine; decide, [.int i tk, x'], .cons ⟨_, rfl⟩ (.cons ru .nil), ⟨_, hT2, rfl, _, rfl⟩⟩
    have I1 : Inv X pins σ (upd H s.heap.objs.size (.tup [.int (i : Nat), x])) { s with heap := h'', toks := tk + 1 } :=
      I.turnedNew (ch := [e, it]) (fun b ob hb q => (sb.2 b (fun z => hb (by simp [z]))).trans (hk b ob (fun z => hb (by simp [z])) (fun z => hb (by simp [z])) q)) hf (Nat.le_refl _) new
    refine ⟨.ref s.heap.objs.size, _, I1, rfl, ⟨_, x, rfl, I.hok.fresh (Nat.le_refl _), rfl, fun ys hy => by rw [I.tuple_inj hy hq]; exact hx⟩, ⟨⟨x', ?_⟩, hit'.1.at fun o q => (sb.2 it (Ne.symm hne)).trans q, hne, hai, hea⟩, fun b hb => ?_⟩
    · have e1 : ((i + 1 : Nat) : Int) = (i : Int) + 1 := by omega
      rw [e1]; exact he'
    · have hb' : b < s.heap.objs.size := by
        have e' : b = e ∨ b = it := by simpa using hb
        rcases e' with z | z
        · rw [z]; exact hel
        · rw [z]; exact hil
      rw [upd_ne (Nat.ne_of_lt hb')]
      exact (hf b hb).1
  done := by
    intro X hP hw hK hc i pins s σ H E I hf st hg
    subst hP hw hK
    obtain ⟨⟨old, he⟩, hit, hne, hai, hea⟩ := st
    obtain ⟨xs, hq, hx⟩ := hg
    obtain ⟨its, rv, p, hz⟩ := I.tuple hq
    obtain ⟨f0, f1, f2, f3, f4, f5⟩ := hf it (by simp)
    have hl := rv.length
    have D := LawEnum.draws_end (prog := X.prog) (w := X.w) (A := X.A.in1) (I.ok.hd hc) it a its.toArray i (by simp; omega)
    exact wpAny_pyNext_enum_endD D he ⟨hit, p⟩ fun h' eb => ⟨rfl, I.turned (t' := s.toks) (fun b o hb q => eb b o hb q) f0 f1 f3 f4 f5⟩
  self := fun A i s Q E st h => let ⟨⟨_, he⟩, _⟩ := st; wpAny_pyIter_enum he h
def iEnumT (K : PySem.W.Frag) (ta : TA) : TI := fun σ H R => ta σ H fun vs H1 => ∃ a xs, vs = [.ref a] ∧ SqT K H1 a xs ∧ R (IteT K a) H1
theorem pi_enumT {X : Cx} {e : Expr} {ta : TA} {p pos tpos : Pos} {elts : List Expr} {kk : Nat} (hg : Gl X "enumerate") (hm : X.mg "enumerate" = none) (ha : PA X [e] ta) (hs : starEach [e] X.env = [(false, eval e X.env)] := by rfl) :
    PI X (.Tuple elts kk tpos) (.Call (.Name "enumerate" p) [e] [] pos) (iEnumT X.K ta) := by
  refine ⟨fun pins s σ H R I h => ?_⟩
  refine Call_ (ld_blt I hg hm boot_enumerate (PyProof.Rows.callWith_type1 (thn (ha.run pos pins s σ H _ I h) fun us s1 ⟨vs, H1, I1, r1, q1⟩ => ?_) hs rfl))
  obtain ⟨a, xs, ex, hq, q⟩ := q1
  subst ex
  cases r1 with
  | cons r rr =>
    cases rr
    cases r
    obtain ⟨its, rv, p', hz⟩ := I1.tuple hq
    have hal : a < s1.heap.objs.size := by obtain ⟨o, ho, _⟩ := p'; exact Heap.lt_size ho
    refine LawEnum.call_enumerate_tuple p' fun h' he hit hsz hk => wpAny_pyIter_enum he ?_
    have I2 : Inv X pins σ H1 { s1 with heap := h' } := I1.kept (t' := s1.toks) hk
    refine ⟨s1.heap.objs.size + 1, [s1.heap.objs.size + 1, s1.heap.objs.size], _, _, H1, rfl, I2, turn_enumT a (s1.heap.objs.size + 1) s1.heap.objs.size, ⟨⟨.none, he⟩, hit, Nat.succ_ne_self _, Nat.ne_of_lt hal, Nat.ne_of_gt (Nat.lt_succ_of_lt hal)⟩, fun b hb => ?_, q⟩
    have e' : b = s1.heap.objs.size + 1 ∨ b = s1.heap.objs.size := by simpa using hb
    have hle : s1.heap.objs.size ≤ b := by
      rcases e' with z | z
      · rw [z]; exact Nat.le_add_right _ _
      · rw [z]; exact Nat.le_refl _
    exact I1.fpOk hle (I1.hok.fresh hle)
theorem walk_enumT {K : PySem.W.Frag} {a : Addr} {xs : List V} : Walk (IteT K a) xs.length (fun H => SqT K H a xs) (fun i H v H' => ∃ T x, v = .ref T ∧ H T = none ∧ H' = upd H T (.tup [.int (i : Nat), x]) ∧ xs[i]? = some x) where
  goes := fun i H hi h => ⟨xs, xs[i], h, List.getElem?_eq_getElem hi⟩
  stops := fun H h => ⟨xs, h, Nat.le_refl _⟩
  yields := fun i H x H' hi h ⟨T, y, h1, h2, h3, h4⟩ => ⟨T, y, h1, h2, h3, h4 xs h⟩
end L2

namespace L2
open PySem PySem.Spec PyProof.Rows
/-! ### zip of a list and a tuple -/
/-- the list at a and the tuple at b, one turn after another, each turn's two items in a new pair -/
def ItzM (K : PySem.W.Frag) (a b : Addr) : It where
  go := fun i H => ∃ us ts x y, SqL K H a us ∧ SqT K H b ts ∧ us[i]? = some x ∧ ts[i]? = some y
  yld := fun i H v H' => ∃ q x y, v = .ref q ∧ H q = none ∧ H' = upd H q (.tup [x, y]) ∧ (∀ us, SqL K H a us → us[i]? = some x) ∧ ∀ ts, SqT K H b ts → ts[i]? = some y
  stop := fun i H => ∃ us ts : List V, SqL K H a us ∧ SqT K H b ts ∧ i ≤ us.length ∧ i ≤ ts.length ∧ (us.length ≤ i ∨ ts.length ≤ i)
theorem five {α : Type} {z a b c d x : α} (h : x ∈ [z, a, b, c, d]) : x = z ∨ x = a ∨ x = b ∨ x = c ∨ x = d := by simpa using h
theorem turn_zipM {P : Program} {w : World} {K : PySem.W.Frag} {ns : List Expr} {n : Nat} {q : Pos} {a b z TI TO i1 i2 : Addr} (S : ZipSep2 z TI TO i1 i2 [i1, a] [i2, b]) (na : a ≠ i1) (nb : b ≠ i2) :
    Turn P w K (.Tuple ns n q) (ItzM K a b) [z, TI, TO, i1, i2] z (fun i h => IsZip h z TI TO .none ∧ IsTupOf2 h TI (.ref i1) (.ref i2) ∧ (∃ x y, IsTupOf2 h TO x y) ∧ h.IsListIter i1 a i ∧ h.IsTupleIter i2 b i) where
  mem := List.mem_cons_self ..
  obj := by
    rintro i h ⟨e1, e2, ⟨x, y, e3⟩, ⟨o4, e4, _, d4⟩, ⟨o5, e5, _, d5⟩⟩ c hc
    rcases five hc with rfl | rfl | rfl | rfl | rfl
    · exact ⟨_, e1, fun v z => nomatch z⟩
    · exact ⟨_, e2, fun v z => nomatch z⟩
    · exact ⟨_, e3, fun v z => nomatch z⟩
    · exact ⟨o4, e4, fun v z => by rw [d4] at z; cases z⟩
    · exact ⟨o5, e5, fun v z => by rw [d5] at z; cases z⟩
  keep := by
    rintro i h h' ⟨e1, e2, ⟨x, y, e3⟩, e4, e5⟩ k
    exact ⟨k z (by simp) _ e1, k TI (by simp) _ e2, ⟨x, y, k TO (by simp) _ e3⟩, e4.at fun o e => k i1 (by simp) o e, e5.at fun o e => k i2 (by simp) o e⟩
  item := by
    rintro X rfl rfl rfl calm i pins s σ H E I young ⟨e1, e2, ⟨x0, y0, e3⟩, e4, e5⟩ ⟨us, ts, x, y, la, tb, ex, ey⟩
    obtain ⟨js, rv, p, _⟩ := I.list la
    obtain ⟨ks, rw', p', _⟩ := I.tuple tb
    obtain ⟨u, hu, ru⟩ := rv.get ex
    obtain ⟨v, hv, rv'⟩ := rw'.get ey
    have hd : X.A.in1.handled = none := I.ok.hd calm
    have D1 := Draws.list (prog := X.prog) (w := X.w) hd i1 a na js.toArray
    have D2 := Draws.tuple (prog := X.prog) (w := X.w) hd i2 b nb ks.toArray
    have zl : z < s.heap.objs.size := Heap.lt_size e1
    have l1 : i < js.toArray.size := (List.getElem?_eq_some_iff.mp hu).1
    have l2 : i < ks.toArray.size := (List.getElem?_eq_some_iff.mp hv).1
    refine wpAny_pyNext_zipD2_item S D1 D2 e1 e2 e3 ⟨e4, p.isList⟩ ⟨e5, p'⟩ l1 l2 fun w1 w2 g tk m1 m2 f1 f3 f4 f5 fT fs fk => ?_
    have m1 : js[i]? = some w1 := by simpa using m1
    have m2 : ks[i]? = some w2 := by simpa using m2
    rw [hu] at m1
    rw [hv] at m2
    cases m1
    cases m2
    refine ⟨_, rfl, wpAny_letOwnedTupleGo_zip (s := { s with heap := g, toks := tk }) f1 fun g2 f1' sb => ?_⟩
    have nz : s.heap.objs.size ≠ z := Nat.ne_of_gt zl
    have fT2 : g2.get? s.heap.objs.size = some { cls := .type "tuple", data := .seq #[u, v] } := (sb.2 _ nz).trans fT
    have new : ObjOk X.prog X.w (upd H s.heap.objs.size (.tup [x, y])) g2 s.heap.objs.size (.tup [x, y]) :=
      ⟨by show 2 ≤ sizeLine; decide, [u, v], .cons ru (.cons rv' .nil), ⟨_, fT2, rfl, _, rfl⟩⟩
    have still : ∀ c o, c ∉ [z, TI, TO, i1, i2] → s.heap.get? c = some o → g2.get? c = some o := fun c o hc e =>
      (sb.2 c fun q => hc (by simp [q])).trans (fk c o (fun q => hc (by simp [q])) (fun q => hc (by simp [q])) (fun q => hc (by simp [q])) (fun q => hc (by simp [q])) e)
    refine ⟨.ref s.heap.objs.size, _, I.turnedNew (t' := tk) (ch := [z, TI, TO, i1, i2]) still young (Nat.le_refl _) new, rfl,
      ⟨_, x, y, rfl, I.hok.fresh (Nat.le_refl _), rfl, fun l hl => by rw [I.list_inj hl la]; exact ex, fun l hl => by rw [I.tuple_inj hl tb]; exact ey⟩, ⟨f1', ?_, ⟨u, v, ?_⟩, ?_, ?_⟩, fun c hc => ?_⟩
    · exact (sb.2 _ S.TIz).trans (fk _ _ S.TIz S.TITO S.TIi1 S.TIi2 e2)
    · exact (sb.2 _ S.TOz).trans f3
    · exact f4.1.at fun o e => (sb.2 _ fun q => S.zi1 q.symm).trans e
    · exact f5.1.at fun o e => (sb.2 _ fun q => S.zi2 q.symm).trans e
    · have lt : c < s.heap.objs.size := by
        rcases five hc with rfl | rfl | rfl | rfl | rfl
        · exact zl
        · exact Heap.lt_size e2
        · exact Heap.lt_size e3
        · obtain ⟨_, e, _⟩ := e4; exact Heap.lt_size e
        · obtain ⟨_, e, _⟩ := e5; exact Heap.lt_size e
      rw [upd_ne (Nat.ne_of_lt lt)]
      exact (young c hc).1
  done := by
    rintro X rfl rfl rfl calm i pins s σ H E I young ⟨e1, e2, ⟨x0, y0, e3⟩, e4, e5⟩ ⟨us, ts, la, tb, le1, le2, fin⟩
    obtain ⟨js, rv, p, _⟩ := I.list la
    obtain ⟨ks, rw', p', _⟩ := I.tuple tb
    have hd : X.A.in1.handled = none := I.ok.hd calm
    have D1 := Draws.list (prog := X.prog) (w := X.w) hd i1 a na js.toArray
    have D2 := Draws.tuple (prog := X.prog) (w := X.w) hd i2 b nb ks.toArray
    have n1 : us.length = js.toArray.size := rv.length
    have n2 : ts.length = ks.toArray.size := rw'.length
    refine wpAny_pyNext_zipD2_end S D1 D2 e1 e2 e3 ⟨e4, p.isList⟩ ⟨e5, p'⟩ (by omega) (by omega) (by omega) fun g tk fk => ⟨rfl, I.turnedL (t' := tk) (ch := [z, TI, TO, i1, i2]) (fun c o hc e => ?_) young⟩
    exact fk c o (fun q => hc (by simp [q])) (fun q => hc (by simp [q])) (fun q => hc (by simp [q])) (fun q => hc (by simp [q])) e
  self := fun A i s Q E st h => wpAny_pyIter_zip st.1 h
def iZipM (K : PySem.W.Frag) (ta : TA) : TI := fun σ H R => ta σ H fun vs H1 => ∃ a b us ts, vs = [.ref a, .ref b] ∧ SqL K H1 a us ∧ SqT K H1 b ts ∧ R (ItzM K a b) H1
theorem pi_zipM {X : Cx} {e e2 : Expr} {ta : TA} {p pos tpos : Pos} {ns : List Expr} {n : Nat} (hg : Gl X "zip") (hm : X.mg "zip" = none) (ha : PA X [e, e2] ta)
    (hs : starEach [e, e2] X.env = (false, eval e X.env) :: starEach [e2] X.env := by rfl) (hpl : (backTo pos (starEach [e2] X.env)).any (·.1) = false := by rfl) :
    PI X (.Tuple ns n tpos) (.Call (.Name "zip" p) [e, e2] [] pos) (iZipM X.K ta) := by
  refine ⟨fun pins s σ H R I h => ?_⟩
  refine Call_ (ld_blt I hg hm boot_zip (callWith_type1 (thn (ha.run pos pins s σ H _ I h) fun zs t ⟨vs, H1, I1, rs, q1⟩ => ?_) hs hpl))
  obtain ⟨a, b, us, ts, rfl, la, tb, q⟩ := q1
  cases rs with
  | cons ra rs =>
    cases rs with
    | cons rb rs =>
      cases rs
      cases ra
      cases rb
      obtain ⟨js, _, p, _⟩ := I1.list la
      obtain ⟨ks, _, p', _⟩ := I1.tuple tb
      have al : a < t.heap.objs.size := p.lt
      have bl : b < t.heap.objs.size := by
        obtain ⟨o, e, _⟩ := id p'
        exact Heap.lt_size e
      refine zip_begins2 (begins_list a js.toArray) (begins_tuple b ks.toArray) p.isList p' fun g f1 f2 f3 f4 f5 fs fk => wpAny_pyIter_zip f1 ?_
      have I2 : Inv X pins σ H1 { t with heap := g } := I1.kept (t' := t.toks) fk
      have S := zip_sep2 (N := t.heap.objs.size) (fp1 := [a]) (fp2 := [b]) (fun c hc => by rw [List.mem_singleton.mp hc]; exact al) (fun c hc => by rw [List.mem_singleton.mp hc]; exact bl)
      refine ⟨_, [t.heap.objs.size + 4, t.heap.objs.size + 2, t.heap.objs.size + 3, t.heap.objs.size, t.heap.objs.size + 1], _, _, H1, rfl, I2, turn_zipM S (Nat.ne_of_lt al) (Nat.ne_of_lt (Nat.lt_succ_of_lt bl)), ⟨f1, f2, ⟨_, _, f3⟩, ⟨_, f4, rfl, rfl⟩, ⟨_, f5, rfl, rfl⟩⟩, fun c hc => ?_, q⟩
      have le : t.heap.objs.size ≤ c := by
        rcases five hc with rfl | rfl | rfl | rfl | rfl
        · exact Nat.le_add_right _ _
        · exact Nat.le_add_right _ _
        · exact Nat.le_add_right _ _
        · exact Nat.le_refl _
        · exact Nat.le_add_right _ _
      exact I1.fpOk le (I1.hok.fresh le)
/-- a loop over such a zip, of one length -/
theorem for_zipM {K : PySem.W.Frag} {a b : Addr} {us ts : List V} {g : TG} {tb : TS} {D : Ends} {σ : St} {H : Hp} (hl : us.length = ts.length) (Pv : Nat → St → Hp → Prop) (h0 : Pv 0 σ H) (hq : ∀ i σ H, Pv i σ H → SqL K H a us ∧ SqT K H b ts)
    (hs : ∀ (i : Nat) (x y : V) (q : Addr) (σ : St) (H : Hp), us[i]? = some x → ts[i]? = some y → Pv i σ H → H q = none → g (.ref q) σ (upd H q (.tup [x, y])) fun σ2 H2 => tb { D with nx := Pv (i + 1), ct := Pv (i + 1), bk := D.nx } σ2 H2) (hd : ∀ σ H, Pv us.length σ H → D.nx σ H) :
    ∃ W : Nat → Nat → St → Hp → Prop, (∃ m, W 0 m σ H) ∧ ∀ i m σ H, W i m σ H →
      ((ItzM K a b).stop i H ∧ D.nx σ H) ∨ ((ItzM K a b).go i H ∧ ∃ N : St → Hp → Prop, (∀ σ' H', N σ' H' → ∃ m', m' < m ∧ W (i + 1) m' σ' H') ∧ ∀ v H', (ItzM K a b).yld i H v H' → g v σ H' fun σ2 H2 => tb { D with nx := N, ct := N, bk := D.nx } σ2 H2) := by
  refine ⟨fun i m σ H => m = us.length - i ∧ i ≤ us.length ∧ Pv i σ H, ⟨us.length, rfl, Nat.zero_le _, h0⟩, ?_⟩
  rintro i m σ H ⟨rfl, le, pv⟩
  obtain ⟨q1, q2⟩ := hq i σ H pv
  rcases Nat.lt_or_ge i us.length with lt | ge
  · have e1 : us[i]? = some us[i] := List.getElem?_eq_getElem lt
    have e2 : ts[i]? = some (ts[i]'(hl ▸ lt)) := List.getElem?_eq_getElem (hl ▸ lt)
    refine .inr ⟨⟨us, ts, _, _, q1, q2, e1, e2⟩, Pv (i + 1), fun σ' H' pv' => ⟨_, by omega, rfl, lt, pv'⟩, ?_⟩
    rintro v H' ⟨q, x, y, rfl, hn, rfl, hx, hy⟩
    exact hs i x y q σ H (hx _ q1) (hy _ q2) pv hn
  · have e : i = us.length := Nat.le_antisymm le ge
    subst e
    exact .inl ⟨⟨us, ts, q1, q2, Nat.le_refl _, by omega, .inl (Nat.le_refl _)⟩, hd _ _ pv⟩
end L2
namespace L2
open PySem PySem.Spec PyProof.Rows
/-- xs[i], i not negative, as xs[i] += e reads it -/
def rGetL (K : PySem.W.Frag) : V → V → Hp → VK → Prop := fun o i H Q => ∃ p xs n v, o = .ref p ∧ i = .int ((n : Nat) : Int) ∧ SqL K H p xs ∧ xs[n]? = some v ∧ Q v H
theorem get_list {X : Cx} : PGet X (rGetL X.K) := by
  rintro pins s σ H o i ov iv Q I ro ri ⟨p, xs, n, v, rfl, rfl, hq, hv, q⟩
  cases ro
  obtain ⟨t, rfl⟩ := ri
  obtain ⟨its, r, pl, hz⟩ := I.list hq
  obtain ⟨u, hu, ru⟩ := r.get hv
  have lt : n < xs.length := (List.getElem?_eq_some_iff.mp hv).1
  have top := line63
  exact wpAny_getItem_list pl.isList (Int.natCast_nonneg n) (by omega) (x := u) (by simpa using hu) ⟨v, H, I, ru, q⟩
end L2
namespace L2
open PySem PySem.Spec PyProof.Rows
def rTupOf (K : PySem.W.Frag) : List V → Hp → VK → Prop := fun xs H Q => ∃ p ys, xs = [.ref p] ∧ ((SqL K H p ys ∧ ∀ l, H l = none → Q (.ref l) (upd H l (.tup ys))) ∨ (SqT K H p ys ∧ Q (.ref p) H))
end L2
namespace Law
open PySem L2
/-! ### data: ints, tuples of ints, moves -/
def tupD (l : List Int) : PyData := .tuple (l.map .int)
def frD (f : Fr) : PyData := .tuple [.int f.1, .int f.2]
abbrev Mv := Fr × List Int
def mvD (m : Mv) : PyData := .tuple [frD m.1, tupD m.2]
def mvsD (ms : List Mv) : PyData := .tuple (ms.map mvD)
theorem eqvAll_map {α : Type} [DecidableEq α] (g : α → PyData) (hg : ∀ a b, PyData.eqv (g a) (g b) = decide (a = b)) : ∀ xs ys : List α, PyData.eqvAll (xs.map g) (ys.map g) = decide (xs = ys)
  | [], [] => by simp [PyData.eqvAll]
  | [], _ :: _ => by simp [PyData.eqvAll]
  | _ :: _, [] => by simp [PyData.eqvAll]
  | x :: xs, y :: ys => by
    rw [List.map_cons, List.map_cons, PyData.eqvAll, hg, eqvAll_map g hg xs ys]
    by_cases h1 : x = y <;> by_cases h2 : xs = ys <;> simp [h1, h2]
theorem eqv_int (a b : Int) : PyData.eqv (.int a) (.int b) = decide (a = b) := by
  rw [PyData.eqv]
  rfl
theorem eqv_tupD (a b : List Int) : PyData.eqv (tupD a) (tupD b) = decide (a = b) := by
  unfold tupD
  rw [PyData.eqv]
  exact eqvAll_map PyData.int eqv_int a b
theorem eqv_frD (a b : Fr) : PyData.eqv (frD a) (frD b) = decide (a = b) := by
  obtain ⟨a1, a2⟩ := a
  obtain ⟨b1, b2⟩ := b
  unfold frD
  rw [PyData.eqv, PyData.eqvAll, PyData.eqvAll, PyData.eqvAll, eqv_int, eqv_int]
  by_cases h1 : a1 = b1 <;> by_cases h2 : a2 = b2 <;> simp [h1, h2]
theorem eqv_mvD (a b : Mv) : PyData.eqv (mvD a) (mvD b) = decide (a = b) := by
  obtain ⟨a1, a2⟩ := a
  obtain ⟨b1, b2⟩ := b
  unfold mvD
  rw [PyData.eqv, PyData.eqvAll, PyData.eqvAll, PyData.eqvAll, eqv_frD, eqv_tupD]
  by_cases h1 : a1 = b1 <;> by_cases h2 : a2 = b2 <;> simp [h1, h2]
theorem eqv_mvsD (a b : List Mv) : PyData.eqv (mvsD a) (mvsD b) = decide (a = b) := by
  unfold mvsD
  rw [PyData.eqv]
  exact eqvAll_map mvD eqv_mvD a b
theorem lay_all {α : Type} (g : α → PyData) (n : Nat) (hg : ∀ a, (g a).canLay0 = true ∧ (g a).depth ≤ n) : ∀ xs : List α, PyData.canLayAll0 (xs.map g) = true ∧ PyData.depthAll (xs.map g) ≤ n
  | [] => by simp [PyData.canLayAll0, PyData.depthAll]
  | x :: xs => by
    obtain ⟨h1, h2⟩ := hg x
    obtain ⟨h3, h4⟩ := lay_all g n hg xs
    rw [List.map_cons, PyData.canLayAll0, PyData.depthAll, h1, h3]
    exact ⟨rfl, Nat.max_le.mpr ⟨h2, h4⟩⟩
theorem lay_int (a : Int) : (PyData.int a).canLay0 = true ∧ (PyData.int a).depth ≤ 0 := by simp [PyData.canLay0, PyData.depth]
theorem lay_tupD (a : List Int) : (tupD a).canLay0 = true ∧ (tupD a).depth ≤ 1 := by
  have h := lay_all PyData.int 0 lay_int a
  unfold tupD
  rw [PyData.canLay0, PyData.depth]
  exact ⟨h.1, by omega⟩
theorem lay_frD (a : Fr) : (frD a).canLay0 = true ∧ (frD a).depth ≤ 1 := by simp [frD, PyData.canLay0, PyData.canLayAll0, PyData.depth, PyData.depthAll]
theorem lay_mvD (a : Mv) : (mvD a).canLay0 = true ∧ (mvD a).depth ≤ 2 := by
  have h1 := lay_frD a.1
  have h2 := lay_tupD a.2
  unfold mvD
  rw [PyData.canLay0, PyData.canLayAll0, PyData.canLayAll0, PyData.canLayAll0, PyData.depth, PyData.depthAll, PyData.depthAll, PyData.depthAll, h1.1, h2.1]
  exact ⟨rfl, by omega⟩
theorem lay_mvsD (a : List Mv) : (mvsD a).canLay0 = true ∧ (mvsD a).depth ≤ 3 := by
  have h := lay_all mvD 2 lay_mvD a
  unfold mvsD
  rw [PyData.canLay0, PyData.depth]
  exact ⟨h.1, by omega⟩
theorem shaped_of {d : PyData} {n : Nat} (h : d.canLay0 = true ∧ d.depth ≤ n) (hn : n ≤ 64) : SeqAt.shaped d = true := by
  unfold SeqAt.shaped
  rw [h.1, Bool.true_and, decide_eq_true (Nat.le_trans h.2 hn)]
theorem dp_ints {K : PySem.W.Frag} {H : Hp} : ∀ l : List Int, DpAll K H (l.map V.int) (l.map PyData.int)
  | [] => .nil
  | x :: l => .cons (.int x) (dp_ints l)
/-! ### moves and systems -/
def MvAt (K : PySem.W.Frag) (H : Hp) (v : V) (m : Mv) : Prop := ∃ a s l, v = .ref a ∧ SqT K H a [.ref s, .ref l] ∧ SqT K H s [.int m.1.1, .int m.1.2] ∧ SqT K H l (m.2.map V.int)
def MvsIn (K : PySem.W.Frag) (H : Hp) (vs : List V) (ms : List Mv) : Prop := vs.length = ms.length ∧ ∀ (i : Nat) (v : V), vs[i]? = some v → ∃ m, ms[i]? = some m ∧ MvAt K H v m
def MvsAt (K : PySem.W.Frag) (H : Hp) (a : Addr) (ms : List Mv) : Prop := ∃ vs, SqT K H a vs ∧ MvsIn K H vs ms
theorem MvAt.same {K : PySem.W.Frag} {H H' : Hp} {v : V} {m : Mv} (e : Same H H') (h : MvAt K H v m) : MvAt K H' v m := by
  obtain ⟨a, s, l, h1, h2, h3, h4⟩ := h
  exact ⟨a, s, l, h1, e.sqT h2, e.sqT h3, e.sqT h4⟩
theorem MvsIn.same {K : PySem.W.Frag} {H H' : Hp} {vs : List V} {ms : List Mv} (e : Same H H') (h : MvsIn K H vs ms) : MvsIn K H' vs ms := ⟨h.1, fun i v hv => by
  obtain ⟨m, h1, h2⟩ := h.2 i v hv
  exact ⟨m, h1, h2.same e⟩⟩
theorem MvsAt.same {K : PySem.W.Frag} {H H' : Hp} {a : Addr} {ms : List Mv} (e : Same H H') (h : MvsAt K H a ms) : MvsAt K H' a ms := by
  obtain ⟨vs, h1, h2⟩ := h
  exact ⟨vs, e.sqT h1, h2.same e⟩
theorem dp_mv {K : PySem.W.Frag} {H : Hp} {v : V} {m : Mv} (h : MvAt K H v m) : Dp K H v (mvD m) := by
  obtain ⟨a, s, l, rfl, h2, h3, h4⟩ := h
  exact .tup h2 (.cons (.tup h3 (.cons (.int _) (.cons (.int _) .nil))) (.cons (.tup h4 (dp_ints _)) .nil))
theorem dp_mvs {K : PySem.W.Frag} {H : Hp} : ∀ {vs : List V} {ms : List Mv}, MvsIn K H vs ms → DpAll K H vs (ms.map mvD)
  | [], [], _ => .nil
  | [], _ :: _, h => absurd h.1 (by simp)
  | _ :: _, [], h => absurd h.1 (by simp)
  | v :: vs, m :: ms, h => by
    obtain ⟨m', e, hm⟩ := h.2 0 v rfl
    cases e
    exact .cons (dp_mv hm) (dp_mvs ⟨by simpa using h.1, fun i x hx => h.2 (i + 1) x (by simpa using hx)⟩)
theorem dp_mvsAt {K : PySem.W.Frag} {H : Hp} {a : Addr} {ms : List Mv} (h : MvsAt K H a ms) : Dp K H (.ref a) (mvsD ms) := by
  obtain ⟨vs, h1, h2⟩ := h
  exact .tup h1 (dp_mvs h2)
def MvOk (many : Nat) (m : Mv) : Prop := FrOk m.1 ∧ 0 < m.1.1 ∧ Nat.gcd m.1.1.natAbs m.1.2.natAbs = 1 ∧ m.2.length = many ∧ ∀ x ∈ m.2, 0 ≤ x ∧ x < (many : Int)
abbrev OneOk (fs : List Fr) : Prop := (topsOf fs (lcmAll fs : Nat)).sum = ((lcmAll fs : Nat) : Int)
structure SysOk (many : Nat) (ms : List Mv) : Prop where
  m1 : 1 ≤ many
  m2 : many ≤ 12
  l1 : 1 ≤ ms.length
  l2 : ms.length ≤ 24
  mv : ∀ m ∈ ms, MvOk many m
  one : OneOk (ms.map (·.1))
theorem nMM : ¬ (("many" : Str) = "moves") := by decide +kernel
def sysF (many : Nat) (mv : Addr) : List (Str × V) := putF "moves" (.ref mv) (putF "many" (.int (many : Int)) [])
theorem sysF_eq (many : Nat) (mv : Addr) : sysF many mv = ([("many", V.int (many : Int)), ("moves", V.ref mv)] : List (Str × V)) := by
  show (if ("many" : Str) = "moves" then [(("many" : Str), V.ref mv)] else (("many" : Str), V.int (many : Int)) :: putF "moves" (V.ref mv) []) = _
  rw [if_neg nMM] <;> rfl
theorem sysF_many (many : Nat) (mv : Addr) : (sysF many mv).lookup ("many" : Str) = some (.int (many : Int)) := by
  unfold sysF
  rw [lookup_putF, if_neg nMM, lookup_putF, if_pos rfl]
theorem sysF_moves (many : Nat) (mv : Addr) : (sysF many mv).lookup ("moves" : Str) = some (.ref mv) := by
  unfold sysF
  rw [lookup_putF, if_pos rfl]
/-- a System stands at p -/
def SysAt (K : PySem.W.Frag) (C : Addr) (H : Hp) (p : Addr) (many : Nat) (ms : List Mv) : Prop := ∃ dx mv, H p = some (.ins C dx (sysF many mv)) ∧ MvsAt K H mv ms
theorem SysAt.same {K : PySem.W.Frag} {C : Addr} {H H' : Hp} {p : Addr} {many : Nat} {ms : List Mv} (e : Same H H') (h : SysAt K C H p many ms) : SysAt K C H' p many ms := by
  obtain ⟨dx, mv, h1, h2⟩ := h
  exact ⟨dx, mv, e _ _ h1, h2.same e⟩
/-- the class System, as the top has made it -/
structure SysT (K : PySem.W.Frag) (mg : Str → Option Value) (C : Addr) : Prop where
  cl : Cls K C
  nK : NoAttr K C "many"
  nM : NoAttr K C "moves"
  mgC : mg "System" = some (.ref C)
  ha : PySem.W.findIn K (.ref C) "__class__" = some (some (.builtin "object.__class__"))
  hn : PySem.W.specialIn K (.builtin "object.__class__") "__get__" = some (some (.builtin "getset_descriptor.__get__"))
  ht : PySem.W.takesIn K (.builtin "object.__class__") = some true
  hm : PySem.W.mroIn K C (.type "object") = some true
theorem SysAt.ty {K : PySem.W.Frag} {mg : Str → Option Value} {C : Addr} {H : Hp} {p : Addr} {many : Nat} {ms : List Mv} (T : SysT K mg C) (h : SysAt K C H p many ms) : TyX K H (.ref p) (.ref C) := by
  obtain ⟨dx, mv, h1, _⟩ := h
  exact .base (.ins h1 T.cl T.ha T.hn T.ht T.hm)
theorem kit_self {K : PySem.W.Frag} {v : Value} (h : (v == v) = true) : PySem.W.kitOne K v v = some true := by
  unfold PySem.W.kitOne
  rw [if_pos h]
theorem at0 (x y : V) : atI [x, y] (0 : Int) = some x := by
  unfold atI
  rw [show ixN [x, y].length (0 : Int) = some 0 from Evl.ixN_nat (n := 2) (j := 0) (by decide)]
  rfl
section
variable {P : Program} {w : World} {K : PySem.W.Frag} {mg : Str → Option Value} {base : Heap}
def spMove (K : PySem.W.Frag) : Sp := fun vs H Q _ => ∃ (many : Nat) (v : V) (m : Mv), vs = [.int (many : Int), v] ∧ many ≤ 12 ∧ MvAt K H v m ∧ MvOk many m ∧ ∀ H', Same H H' → Q (.bl true) H'
theorem scMove : FnScope ["many", "thing", "share", "leads"] ["many", "thing"] (defScope s_is_move) := ⟨rfl, rfl, rfl, by decide +kernel, rfl, by decide +kernel, by decide +kernel⟩
theorem ok_move {f fF fR : Addr} {fd fdF fdR : FuncData} (F : Fun K "is_move" "is_move" s_is_move f fd) (T : NmA mg) (G : Cl P w K mg base CX0 2 "is_fraction" fF fdF ["thing"] (spFrac K))
    (R : Cl P w K mg base CX0 3 "is_row_below" fR fdR ["bound", "thing"] (spRowB K)) : FnOk P w K mg base CX0 4 f fd ["many", "thing"] (spMove K) := by
  refine F.ok scMove (fun vs H Q E h => ?_) (fun cdv A outer s H vs Q E hr h => ?_)
  · obtain ⟨many, v, m, rfl, _⟩ := h
    rfl
  · obtain ⟨many, v, m, rfl, h12, ⟨a, t, l, rfl, hA, hT, hL⟩, ⟨⟨f1, f2, f3⟩, f4, f5, f6, f7⟩, k⟩ := h
    refine ⟨_, pss_cons (ps_if (PW.pt (pw_or (pt_not (pt_val (pe_callB call_isi (by rfl) T.isi (by decide +kernel) (pa_cons (pv 1) (pa_cons (pe_bltn (v := .ty "tuple") (u := .type "tuple") (by rfl) T.tuple (by decide +kernel) rfl) pa_nil)))))
        (pw_or1 (pt_cmpR op_ne (pe_callB call_len_seq (by rfl) T.len PySem.boot_len (pa_cons (pv 1) pa_nil)) pe_int (nomark _))))) (pss_one (ps_ret pe_bl)) pss_nil)
      (pss_cons (ps_asg (pv 1) (pg_tup (by rfl) (pgs_cons (pg_name (i := 2) scMove.nd rfl (Or.inl rfl)) (pgs_cons (pg_name (i := 3) scMove.nd rfl (Or.inl rfl)) pgs_nil))))
      (pss_one (ps_ret (pe_and (G.call (hr.mono (by decide)) (pa_cons (pv 2) pa_nil)) (pe_and (pe_cmpR op_gt (pe_ix ix_tup (pv 2) pe_int (fun _ _ => rfl)) pe_int (nomark _)) (pe_and (R.call hr (pa_cons (pv 0) (pa_cons (pv 3) pa_nil)))
        (pe_one (pe_cmpR op_eq (pe_callB call_len_seq (by rfl) T.len PySem.boot_len (pa_cons (pv 3) pa_nil)) (pv 0) (nomark _))))))))), ?_⟩
    refine ⟨_, rfl, _, _, _, _, _, rfl, .ty "tuple", tyx_tup hA, kit_tt, _, rfl, ?_⟩
    refine iteF ⟨_, rfl, a, _, rfl, .inr hA, rfl, _, rfl, iteF ?_⟩
    refine ⟨_, rfl, a, _, rfl, hA, rfl, _, _, rfl, _, _, rfl, rfl, ?_⟩
    refine ⟨_, rfl, t, _, _, rfl, hT, _, rfl, ?_⟩
    rw [decide_eq_true f1, f5]
    refine iteT ⟨_, rfl, t, _, _, _, rfl, rfl, hT, at0 _ _, _, _, rfl, rfl, _, rfl, ?_⟩
    rw [decide_eq_true f4]
    refine iteT ⟨_, rfl, _, rfl, _, l, _, rfl, hL, ?_, ?_, fun H' s1 => ⟨_, rfl, ?_⟩⟩
    · rw [List.length_map]
      omega
    · intro x hx
      obtain ⟨i, _, rfl⟩ := List.mem_map.mp hx
      exact ⟨i, rfl⟩
    · have hall : (m.2.map V.int).all (isW 0 ((many : Int) - 1)) = true := by
        rw [List.all_eq_true]
        intro x hx
        obtain ⟨i, hi, rfl⟩ := List.mem_map.mp hx
        obtain ⟨g1, g2⟩ := f7 i hi
        show (decide (0 ≤ i) && decide (i ≤ (many : Int) - 1)) = true
        rw [decide_eq_true g1, decide_eq_true (show i ≤ (many : Int) - 1 by omega)] <;> rfl
      rw [hall]
      refine iteT ⟨_, rfl, l, _, rfl, .inr (s1.sqT hL), _, rfl, rfl, ?_⟩
      rw [List.length_map, f6, decide_eq_true rfl]
      exact k H' s1
def spSInit (K : PySem.W.Frag) (C : Addr) : Sp := fun vs H Q _ => ∃ (p dx : Addr) (many : Nat) (mv : Addr) (ms : List Mv), vs = [.ref p, .int (many : Int), .ref mv] ∧ H p = some (.ins C dx []) ∧ MvsAt K H mv ms ∧ SysOk many ms ∧
  ∀ H', (∀ b o, b ≠ p → H b = some o → H' b = some o) → H' p = some (.ins C dx (sysF many mv)) → Q .non H'
theorem scSInit : FnScope ["self", "many", "moves", "number", "move", "share", "_"] ["self", "many", "moves"] (defScope s_System_init) := ⟨rfl, rfl, rfl, by decide +kernel, rfl, by decide +kernel, by decide +kernel⟩
theorem ok_sinit {f C fW fM fO : Addr} {fd fdW fdM fdO : FuncData} (F : Fun K "__init__" "System.__init__" s_System_init f fd) (T : NmA mg) (S : SysT K mg C) (W : Cl P w K mg base CX0 2 "is_within" fW fdW ["low", "high", "thing"] (spWithin K))
    (M : Cl P w K mg base CX0 4 "is_move" fM fdM ["many", "thing"] (spMove K)) (O : Cl P w K mg base CX0 2 "are_one_together" fO fdO ["fractions"] (spOne K)) : FnOk P w K mg base CX0 5 f fd ["self", "many", "moves"] (spSInit K C) := by
  refine F.ok scSInit (fun vs H Q E h => ?_) (fun cdv A outer s H vs Q E hr h => ?_)
  · obtain ⟨p, dx, many, mv, ms, rfl, _⟩ := h
    rfl
  · obtain ⟨p, dx, many, mv, ms, rfl, hp, ⟨vs, hV, hM⟩, ok, k⟩ := h
    have hvl : vs.length = ms.length := hM.1
    refine ⟨_, pss_cons (ps_if (pt_not (pt_val (W.call (hr.mono (by decide)) (pa_cons pe_int (pa_cons pe_int (pa_cons (pv 1) pa_nil)))))) pss_never pss_nil)
      (pss_cons (ps_if (PW.pt (pw_or (pt_not (pt_val (pe_callB call_isi (by rfl) T.isi (by decide +kernel) (pa_cons (pv 2) (pa_cons (pe_bltn (v := .ty "tuple") (u := .type "tuple") (by rfl) T.tuple (by decide +kernel) rfl) pa_nil)))))
        (pw_or1 (pt_not (pt_chain op_le op_le pe_int (pe_callB call_len_seq (by rfl) T.len PySem.boot_len (pa_cons (pv 2) pa_nil)) pe_int))))) pss_never pss_nil)
      (pss_cons (ps_for PassesOwn.never rfl (pi_enumT (by rfl) T.enum (pa_cons (pv 2) pa_nil)) (pg_tup (by rfl) (pgs_cons (pg_name (i := 3) scSInit.nd rfl (Or.inl rfl)) (pgs_cons (pg_name (i := 4) scSInit.nd rfl (Or.inl rfl)) pgs_nil)))
        (pss_one (ps_if (pt_not (pt_val (M.call hr (pa_cons (pv 1) (pa_cons (pv 4) pa_nil))))) pss_never pss_nil)))
      (pss_cons (ps_if (pt_not (pt_val (O.call (hr.mono (by decide)) (pa_cons (pe_lc (own := [("share", 5), ("_", 6)]) (g := gTup K 2 (gCons (gName 5) (gCons (gName 6) gNil))) (tt := tYes) rfl scSInit.nd (pi_tup (pv 2))
          (blkOk_by (own := [("share", 5), ("_", 6)]) (N := ["self", "many", "moves", "number", "move", "share", "_"]) (sc := defScope s_System_init) (by decide +kernel))
          (fun _ _ _ _ _ => pg_tup (by rfl) (pgs_cons (pg_name (i := 5) scSInit.nd rfl (Or.inl rfl)) (pgs_cons (pg_name (i := 6) scSInit.nd rfl (Or.inl rfl)) pgs_nil))) (fun _ _ _ _ _ => pts_nil) (fun _ _ _ _ _ => pv 5)) pa_nil)))) pss_never pss_nil)
      (pss_cons (ps_fld (pv 0) (pv 1) rfl) (pss_one (ps_fld (pv 0) (pv 2) rfl)))))), ?_⟩
    -- is_within(1, 12, many)
    refine ⟨_, rfl, 1, 12, _, rfl, .inl ⟨(many : Int), rfl, _, rfl, ?_⟩⟩
    rw [decide_eq_true (show (1 : Int) ≤ (many : Int) by have := ok.m1; omega), decide_eq_true (show (many : Int) ≤ 12 by have := ok.m2; omega)]
    -- isinstance(moves, tuple), 1 <= len(moves) <= 24
    refine iteF ⟨_, rfl, _, _, _, _, _, rfl, .ty "tuple", tyx_tup hV, kit_tt, _, rfl, iteF ⟨_, rfl, mv, _, rfl, .inr hV, _, _, rfl, rfl, _, rfl, ?_⟩⟩
    rw [decide_eq_true (show (1 : Int) ≤ ((vs.length : Nat) : Int) by have := ok.l1; omega)]
    refine iteT ⟨_, _, rfl, rfl, _, rfl, ?_⟩
    rw [decide_eq_true (show ((vs.length : Nat) : Int) ≤ 24 by have := ok.l2; omega)]
    refine iteF ?_
    -- for number, move in enumerate(moves)
    refine ⟨_, rfl, mv, vs, rfl, hV, for_it walk_enumT (fun i σ H' => Same H H' ∧ ∃ u v : Option V, σ = [some (.ref p), some (.int (many : Int)), some (.ref mv), u, v, none, none]) ⟨Same.refl H, none, none, rfl⟩ (fun i σ H' _ h => h.1.sqT hV) ?_ ?_⟩
    · rintro i x σ H1 H2 hi ⟨s1, u, v, rfl⟩ ⟨t, y, rfl, ht, rfl, hy⟩
      obtain ⟨m, hm, hA⟩ := hM.2 i y hy
      have s2 : Same H (upd H1 t (.tup [.int (i : Nat), y])) := fun b o e => Same.new ht b o (s1 b o e)
      refine ⟨t, _, rfl, SqT.of upd_same, rfl, _, _, rfl, _, _, rfl, rfl, ?_⟩
      refine ⟨_, rfl, _, rfl, many, _, m, rfl, ok.m2, hA.same s2, ok.mv m (List.mem_of_getElem? hm), fun H3 s3 => ⟨_, rfl, iteF ⟨s2.trans s3, _, _, rfl⟩⟩⟩
    · rintro σ H1 ⟨s1, u, v, rfl⟩
      -- the shares
      refine ⟨_, rfl, mv, rfl, ⟨_, s1.sqT hV⟩, fun D hD => ?_⟩
      refine lc_tup (K := K) (a := mv) (xs := vs) (fun i H' => Same H1 H' ∧ ∃ acc, H' D = some (.lst acc) ∧ FrsIn K H' acc ((ms.take i).map (·.1))) ⟨Same.new hD, [], upd_same, rfl, fun i v hv => by simp at hv⟩ (fun i H' _ h => (s1.trans h.1).sqT hV) ?_ ?_
      · rintro i x H2 hi ⟨s2, acc, h1, h2⟩
        obtain ⟨m, hm, a, t, l, rfl, hA, hT, hL⟩ := hM.2 i x hi
        have hil : i < ms.length := (List.getElem?_eq_some_iff.mp hm).1
        have s3 := s1.trans s2
        have hz : acc.length = i := by
          have z := h2.1
          rw [List.length_map, List.length_take] at z
          omega
        refine ⟨a, _, rfl, s3.sqT hA, rfl, _, _, rfl, _, _, rfl, rfl, ?_⟩
        have s4 : Same H1 (upd H2 D (.lst (acc ++ [.ref t]))) := s2.mut hD
        refine ⟨rfl, _, rfl, acc, h1, small1000 (by have := ok.l2; omega), s4, _, upd_same, ?_, fun j v hj => ?_⟩
        · rw [List.length_append, List.length_map, List.length_take]
          simp
          omega
        · by_cases hji : j < acc.length
          · rw [List.getElem?_append_left hji] at hj
            obtain ⟨f, g1, g2⟩ := h2.2 j v hj
            obtain ⟨q, g3, g4⟩ := g2
            refine ⟨f, ?_, q, g3, ?_⟩
            · rw [List.take_add_one, hm]
              simp only [Option.toList, List.map_append]
              rw [List.getElem?_append_left (by rw [List.length_map, List.length_take]; omega)]
              exact g1
            · rcases g4 with (z | ⟨o, z⟩) | z
              · refine .inl (.inl ?_)
                rw [upd_ne (ne_of z h1 (by intro y; cases y))]
                exact z
              · refine .inl (.inr ⟨o, ?_⟩)
                rw [upd_ne (ne_of z h1 (by intro y; cases y))]
                exact z
              · exact .inr z
          · have e : j = acc.length := by
              have z := (List.getElem?_eq_some_iff.mp hj).1
              rw [List.length_append] at z
              simp at z
              omega
            subst e
            rw [List.getElem?_append_right (Nat.le_refl _), Nat.sub_self] at hj
            have ev : V.ref t = v := Option.some.inj hj
            refine ⟨m.1, ?_, t, ev.symm, s4.sqT (s1.sqT hT)⟩
            rw [List.take_add_one, hm, hz]
            simp only [Option.toList, List.map_append]
            rw [List.getElem?_append_right (by rw [List.length_map, List.length_take]; omega), List.length_map, List.length_take, show i - min i ms.length = 0 by omega]
            rfl
      · rintro H2 ⟨s2, acc, h1, h2⟩
        rw [hvl, List.take_length] at h2
        refine ⟨D, ms.map (·.1), rfl, ⟨acc, SqL.of h1, h2⟩, by rw [List.length_map]; exact ok.l2, ?_, fun H3 s3 => ⟨_, rfl, ?_⟩⟩
        · intro f hf
          obtain ⟨m, hm, rfl⟩ := List.mem_map.mp hf
          exact (ok.mv m hm).1
        rw [decide_eq_true ok.one]
        have s4 := (s1.trans s2).trans s3
        refine iteF ⟨_, rfl, _, rfl, p, C, dx, [], rfl, s4 _ _ hp, S.cl, S.nK, (by show 0 < 1000; decide), _, rfl, _, rfl, p, C, dx, _, rfl, upd_same, S.cl, S.nM, (by show 1 < 1000; decide), ?_⟩
        rw [upd_upd]
        exact k _ (fun b o n e => by rw [upd_ne n]; exact s4 b o e) upd_same
def spSEq (K : PySem.W.Frag) (C : Addr) : Sp := fun vs H Q _ => ∃ (p q : Addr) (m1 m2 : Nat) (ms1 ms2 : List Mv), vs = [.ref p, .ref q] ∧ SysAt K C H p m1 ms1 ∧ SysAt K C H q m2 ms2 ∧ Q (.bl (decide (m1 = m2) && decide (ms1 = ms2))) H
theorem scSEq : FnScope ["self", "other"] ["self", "other"] (defScope s_System_eq) := ⟨rfl, rfl, rfl, by decide +kernel, rfl, by decide +kernel, by decide +kernel⟩
theorem ok_seq {f C : Addr} {fd : FuncData} (F : Fun K "__eq__" "System.__eq__" s_System_eq f fd) (T : NmA mg) (S : SysT K mg C) : FnOk P w K mg base CX0 1 f fd ["self", "other"] (spSEq K C) := by
  refine F.ok scSEq (fun vs H Q E h => ?_) (fun cdv A outer s H vs Q E hr h => ?_)
  · obtain ⟨p, q, m1, m2, ms1, ms2, rfl, _⟩ := h
    rfl
  · obtain ⟨p, q, m1, m2, ms1, ms2, rfl, h1, h2, k⟩ := h
    obtain ⟨d1, v1, a1, b1⟩ := id h1
    obtain ⟨d2, v2, a2, b2⟩ := id h2
    refine ⟨_, pss_one (ps_ret (pe_and (pe_callB call_isi (by rfl) T.isi (by decide +kernel) (pa_cons (pv 1) (pa_cons (pe_glob (v := .ref C) (u := .ref C) rfl S.mgC rfl) pa_nil)))
      (pe_and (pe_cmpR op_eq (pe_fld (pv 0) rfl) (pe_fld (pv 1) rfl) (nomark _)) (pe_one (pe_cmpR (op_eqD hr.units) (pe_fld (pv 0) rfl) (pe_fld (pv 1) rfl) (nomark _)))))), ?_⟩
    refine ⟨_, rfl, _, _, _, _, _, rfl, .own C, h2.ty S, kit_self (by simp), _, rfl, iteT ?_⟩
    refine ⟨_, rfl, p, C, d1, _, _, rfl, a1, S.cl, S.nK, sysF_many _ _, _, rfl, q, C, d2, _, _, rfl, a2, S.cl, S.nK, sysF_many _ _, rfl, _, rfl, ?_⟩
    have e1 : decide (V.int (m1 : Int) = V.int (m2 : Int)) = decide (m1 = m2) := by
      by_cases e : m1 = m2
      · subst e
        rw [decide_eq_true rfl, decide_eq_true rfl]
      · rw [decide_eq_false e, decide_eq_false (fun z => e (by have := V.int.inj z; omega))]
    rw [e1]
    refine ite2 (fun h => ?_) (fun h => ?_)
    · refine ⟨_, rfl, p, C, d1, _, _, rfl, a1, S.cl, S.nM, sysF_moves _ _, _, rfl, q, C, d2, _, _, rfl, a2, S.cl, S.nM, sysF_moves _ _, mvsD ms1, mvsD ms2, dp_mvsAt b1, dp_mvsAt b2, shaped_of (lay_mvsD _) (by decide), shaped_of (lay_mvsD _) (by decide), ?_⟩
      rw [eqv_mvsD]
      rw [h, Bool.true_and] at k
      exact k
    · rw [Bool.not_eq_true] at h
      rw [h, Bool.false_and] at k
      exact k
end
end Law

namespace Law
open PySem L2
/-! ### lowest terms -/
structure Lg (P : Program) (K : PySem.W.Frag) : Prop where
  seer : seerB K = true
  tree : P.given.tree = none
theorem hi_dp {k : Nat} {A : Around} (hr : Room k A) (h : 33 ≤ k) : A.depth + Builtin.pylongFrames < recursionLimit := by
  have z := hr.dp
  have e : Builtin.pylongFrames = 100 := rfl
  rw [e]
  omega
def gI (t b : Int) : Int := ((Nat.gcd t.natAbs b.natAbs : Nat) : Int)
theorem gI_pos {t b : Int} (h : 0 < b) : 0 < gI t b := by
  have z : 0 < Nat.gcd t.natAbs b.natAbs := Nat.gcd_pos_of_pos_right _ (by omega)
  unfold gI
  omega
def lowP (t b : Int) : Fr := (t / gI t b, b / gI t b)
section
variable {P : Program} {w : World} {K : PySem.W.Frag} {mg : Str → Option Value} {base : Heap}
def spLow : Sp := fun vs H Q _ => ∃ (t b : Int), vs = [.int t, .int b] ∧ 0 ≤ t ∧ 0 < b ∧ ∀ p, H p = none → Q (.ref p) (upd H p (.tup [.int (lowP t b).1, .int (lowP t b).2]))
theorem scFraction : FnScope ["top", "bottom", "part"] ["top", "bottom"] (defScope s_fraction) := ⟨rfl, rfl, rfl, by decide +kernel, rfl, by decide +kernel, by decide +kernel⟩
theorem ok_fraction {f : Addr} {fd : FuncData} (F : Fun K "fraction" "fraction" s_fraction f fd) (T : NmA mg) (G : Lg P K) : FnOk P w K mg base CX0 34 f fd ["top", "bottom"] spLow := by
  refine F.ok scFraction (fun vs H Q E h => ?_) (fun cdv A outer s H vs Q E hr h => ?_)
  · obtain ⟨t, b, rfl, _⟩ := h
    rfl
  · obtain ⟨t, b, rfl, ht, hb, k⟩ := h
    refine ⟨_, pss_cons (ps_set (i := 2) scFraction.nd rfl (Or.inl rfl) (pe_callBfun cr_gcd (by rfl) T.gcd (pa_cons (pv 0) (pa_cons (pv 1) pa_nil))))
      (pss_cons (ps_if (pt_cmpR op_lt (pv 1) pe_int (nomark _)) pss_never pss_nil)
      (pss_one (ps_ret (pe_tup (pa_cons (pe_op (op_fdivB ⟨G.seer, G.tree, hi_dp hr (by decide), rfl, rfl, rfl⟩) (pv 0) (pv 2)) (pa_cons (pe_op (op_fdivB ⟨G.seer, G.tree, hi_dp hr (by decide), rfl, rfl, rfl⟩) (pv 1) (pv 2)) pa_nil)))))), ?_⟩
    have gp : (0 : Int) < gI t b := gI_pos hb
    refine ⟨_, rfl, _, rfl, t, b, rfl, ?_⟩
    refine ⟨_, rfl, _, _, rfl, rfl, _, rfl, ?_⟩
    rw [decide_eq_false (show ¬ b < 0 by omega)]
    refine iteF ⟨_, rfl, _, rfl, _, _, rfl, rfl, gp, _, rfl, _, rfl, _, _, rfl, rfl, gp, ?_⟩
    exact ⟨(by show 2 ≤ sizeLine; decide), fun p hp => k p hp⟩
theorem scLow : FnScope ["_law_top", "_law_bottom", "_law_one", "_law_other"] ["_law_top", "_law_bottom"] (defScope s_law_low) := ⟨rfl, rfl, rfl, by decide +kernel, rfl, by decide +kernel, by decide +kernel⟩
theorem gI_step {x y : Int} (hx : 0 ≤ x) (hy : 0 < y) : gI y (x % y) = gI x y := by
  obtain ⟨a, rfl⟩ := Int.eq_ofNat_of_zero_le hx
  obtain ⟨c, rfl⟩ := Int.eq_ofNat_of_zero_le (Int.le_of_lt hy)
  unfold gI
  rw [← Int.natCast_emod, Int.natAbs_natCast, Int.natAbs_natCast, Int.natAbs_natCast, Nat.gcd_comm c, ← Nat.gcd_rec, Nat.gcd_comm]
theorem gI_zero {x : Int} (hx : 0 ≤ x) : gI x 0 = x := by
  unfold gI
  rw [show (0 : Int).natAbs = 0 from rfl, Nat.gcd_zero_right]
  omega
theorem ok_low {f : Addr} {fd : FuncData} (F : Fun K "_law_low" "_law_low" s_law_low f fd) (T : NmA mg) (G : Lg P K) : FnOk P w K mg base CX0 34 f fd ["_law_top", "_law_bottom"] spLow := by
  refine F.ok scLow (fun vs H Q E h => ?_) (fun cdv A outer s H vs Q E hr h => ?_)
  · obtain ⟨t, b, rfl, _⟩ := h
    rfl
  · obtain ⟨t, b, rfl, ht, hb, k⟩ := h
    refine ⟨_, pss_cons (ps_par (i := 2) (j := 3) (by rfl) scLow.nd rfl rfl (by decide) rfl rfl (pa_cons (pe_callB call_abs (by rfl) T.abs (by decide +kernel) (pa_cons (pv 0) pa_nil)) (pa_cons (pv 1) pa_nil)) (by rfl))
      (pss_cons (ps_while PassesOwn.never (pt_cmpR op_gt (pv 3) pe_int (nomark _)) (pss_one (ps_par (i := 2) (j := 3) (by rfl) scLow.nd rfl rfl (by decide) rfl rfl (pa_cons (pv 3) (pa_cons (pe_op op_mod (pe_callTy call_int1 (by rfl) T.int (by decide +kernel) (pa_cons (pv 2) pa_nil)) (pv 3)) pa_nil)) (by rfl))))
      (pss_one (ps_ret (pe_tup (pa_cons (pe_op (op_fdivB ⟨G.seer, G.tree, hi_dp hr (by decide), rfl, rfl, rfl⟩) (pv 0) (pv 2)) (pa_cons (pe_op (op_fdivB ⟨G.seer, G.tree, hi_dp hr (by decide), rfl, rfl, rfl⟩) (pv 1) (pv 2)) pa_nil)))))), ?_⟩
    have gp : (0 : Int) < gI t b := gI_pos hb
    refine ⟨_, rfl, t, rfl, _, rfl, _, _, rfl, ?_⟩
    rw [if_neg (show ¬ t < 0 by omega)]
    refine ⟨fun m σ H' => H' = H ∧ ∃ x y : Int, σ = [some (.int t), some (.int b), some (.int x), some (.int y)] ∧ 0 ≤ x ∧ 0 ≤ y ∧ gI x y = gI t b ∧ m = y.toNat, ⟨_, rfl, t, b, rfl, ht, by omega, rfl, rfl⟩, ?_⟩
    rintro m σ H' ⟨rfl, x, y, rfl, hx, hy, e, rfl⟩
    refine ⟨_, rfl, _, _, rfl, rfl, _, rfl, ite2 (fun h1 => ?_) (fun h1 => ?_)⟩
    · have y0 : 0 < y := of_decide_eq_true h1
      refine ⟨fun σ' H1 => H1 = H' ∧ ∃ x' y' : Int, σ' = [some (.int t), some (.int b), some (.int x'), some (.int y')] ∧ 0 ≤ x' ∧ 0 ≤ y' ∧ gI x' y' = gI t b ∧ y'.toNat < y.toNat, ?_, ?_⟩
      · rintro σ' H1 ⟨rfl, x', y', rfl, a1, a2, a3, a4⟩
        exact ⟨_, a4, rfl, x', y', rfl, a1, a2, a3, rfl⟩
      · refine ⟨_, rfl, _, rfl, .inl ⟨_, rfl, _, rfl, _, _, rfl, rfl, y0, _, _, rfl, ?_⟩⟩
        have r0 := Int.emod_nonneg x (show y ≠ 0 by omega)
        have r1 := Int.emod_lt_of_pos x y0
        exact ⟨rfl, y, x % y, rfl, by omega, r0, by rw [gI_step hx y0]; exact e, by omega⟩
    · have y0 : y = 0 := by
        have z : ¬ 0 < y := fun q => h1 (decide_eq_true q)
        omega
      subst y0
      rw [gI_zero hx] at e
      subst e
      refine ⟨_, rfl, _, rfl, _, _, rfl, rfl, gp, _, rfl, _, rfl, _, _, rfl, rfl, gp, ?_⟩
      exact ⟨(by show 2 ≤ sizeLine; decide), fun p hp => k p hp⟩
end
end Law

namespace Law
open PySem L2
/-! ### states with a hand -/
theorem keep_sqT {K : PySem.W.Frag} {H H' : Hp} {a p : Addr} {xs : List V} (k : ∀ b o, b ≠ p → H b = some o → H' b = some o) (hp : ∃ ks, H p = some (.dK ks)) (h : SqT K H a xs) : SqT K H' a xs := by
  obtain ⟨ks, hp⟩ := hp
  rcases h with (h | ⟨o, h⟩) | h
  · exact .inl (.inl (k _ _ (ne_of h hp (by intro z; cases z)) h))
  · exact .inl (.inr ⟨o, k _ _ (ne_of h hp (by intro z; cases z)) h⟩)
  · exact .inr h
theorem HandAt.dk {H : Hp} {p : Addr} (h : HandAt H p) : ∃ ks, H p = some (.dK ks) := by
  obtain ⟨ca, cells, a, g, s, t, hp, _⟩ := h
  exact ⟨_, hp⟩
theorem HandAt.same {H H' : Hp} {p : Addr} (s : Same H H') (h : HandAt H p) : HandAt H' p := by
  obtain ⟨ca, cells, a, g, s0, t, hp, hc, r⟩ := h
  exact ⟨ca, cells, a, g, s0, t, s _ _ hp, s _ _ hc, r⟩
theorem Stp.pre {p : Addr} {H H1 H2 : Hp} (s : Same H H1) (t : Stp p H1 H2) : Stp p H H2 := ⟨fun b o n e => t.keep b o n (s b o e), fun c ⟨a, g, s0, u, h⟩ => t.cell c ⟨a, g, s0, u, s _ _ h⟩, t.hand⟩
theorem Stp.post {p : Addr} {H H1 H2 : Hp} (t : Stp p H H1) (s : Same H1 H2) : Stp p H H2 := ⟨fun b o n e => s _ _ (t.keep b o n e), fun c hc => by
  obtain ⟨a, g, s0, u, h⟩ := t.cell c hc
  exact ⟨a, g, s0, u, s _ _ h⟩, t.hand.same s⟩
theorem Stp.of {p : Addr} {H H' : Hp} (h : HandAt H p) (s : Same H H') : Stp p H H' := (Stp.refl h).post s
theorem atI_nat {xs : List V} {i : Nat} {x : V} (h : xs[i]? = some x) : atI xs ((i : Nat) : Int) = some x := by
  unfold atI
  rw [Evl.ixN_nat (List.getElem?_eq_some_iff.mp h).1]
  exact h
theorem at_len {xs : List V} {i : Nat} (h : i < xs.length) : ∃ x, xs[i]? = some x ∧ x ∈ xs ∧ atI xs ((i : Nat) : Int) = some x := ⟨xs[i], List.getElem?_eq_getElem h, List.getElem_mem h, atI_nat (List.getElem?_eq_getElem h)⟩
theorem ats0 (x y : V) : atI [x, y] (0 : Int) = some x := atI_nat (i := 0) rfl
theorem ats1 (x y : V) : atI [x, y] (1 : Int) = some y := atI_nat (i := 1) rfl
end Law

namespace Law
open PySem L2
/-! ### the product of two, the size -/
section
variable {P : Program} {w : World} {K : PySem.W.Frag} {mg : Str → Option Value} {base : Heap}
def spTimes (K : PySem.W.Frag) : Sp := fun vs H Q _ => ∃ (a c : Addr) (f g : Fr), vs = [.ref a, .ref c] ∧ SqT K H a [.int f.1, .int f.2] ∧ SqT K H c [.int g.1, .int g.2] ∧ 0 ≤ f.1 ∧ 0 ≤ g.1 ∧ 0 < f.2 ∧ 0 < g.2 ∧
  f.1.natAbs < 2 ^ 100000 ∧ f.2.natAbs < 2 ^ 100000 ∧ g.1.natAbs < 2 ^ 100000 ∧ g.2.natAbs < 2 ^ 100000 ∧ ∀ p, H p = none → Q (.ref p) (upd H p (.tup [.int (lowP (f.1 * g.1) (f.2 * g.2)).1, .int (lowP (f.1 * g.1) (f.2 * g.2)).2]))
theorem scTimes : FnScope ["_law_one", "_law_other"] ["_law_one", "_law_other"] (defScope s_law_times) := ⟨rfl, rfl, rfl, by decide +kernel, rfl, by decide +kernel, by decide +kernel⟩
theorem ok_times {f fL : Addr} {fd fdL : FuncData} (F : Fun K "_law_times" "_law_times" s_law_times f fd) (L : Cl P w K mg base CX0 34 "_law_low" fL fdL ["_law_top", "_law_bottom"] spLow) : FnOk P w K mg base CX0 35 f fd ["_law_one", "_law_other"] (spTimes K) := by
  refine F.ok scTimes (fun vs H Q E h => ?_) (fun cdv A outer s H vs Q E hr h => ?_)
  · obtain ⟨a, c, f, g, rfl, _⟩ := h
    rfl
  · obtain ⟨a, c, f, g, rfl, ha, hc, f1, g1, f2, g2, b1, b2, b3, b4, k⟩ := h
    refine ⟨_, pss_one (ps_ret (L.call hr (pa_cons (pe_op op_mulW (pe_ix ix_tup (pv 0) pe_int (fun _ _ => rfl)) (pe_ix ix_tup (pv 1) pe_int (fun _ _ => rfl)))
      (pa_cons (pe_op op_mulW (pe_ix ix_tup (pv 0) pe_int (fun _ _ => rfl)) (pe_ix ix_tup (pv 1) pe_int (fun _ _ => rfl))) pa_nil)))), ?_⟩
    refine ⟨_, rfl, a, _, _, _, rfl, rfl, ha, ats0 _ _, _, rfl, c, _, _, _, rfl, rfl, hc, ats0 _ _, _, _, rfl, rfl, wide_mul b1 b3 (by decide) (by decide) (by decide), ?_⟩
    refine ⟨_, rfl, a, _, _, _, rfl, rfl, ha, ats1 _ _, _, rfl, c, _, _, _, rfl, rfl, hc, ats1 _ _, _, _, rfl, rfl, wide_mul b2 b4 (by decide) (by decide) (by decide), ?_⟩
    exact ⟨_, _, rfl, Int.mul_nonneg f1 g1, Int.mul_pos f2 g2, k⟩
def spSize : Sp := fun vs H Q _ => ∃ (p : Addr), vs = [.ref p] ∧ HandAt H p ∧ ∀ (n : Nat) (H' : Hp), 1 ≤ n → n ≤ 12 → Stp p H H' → Q (.int n) H'
theorem scSize : FnScope ["_law_hand_here"] ["_law_hand_here"] (defScope s_law_size) := ⟨rfl, rfl, rfl, by decide +kernel, rfl, by decide +kernel, by decide +kernel⟩
theorem ok_size {f fD fA : Addr} {fd fdD fdA : FuncData} (F : Fun K "_law_size" "_law_size" s_law_size f fd) (D : Cl P w K mg base CX0 1 "_law_draw" fD fdD ["_law_hand_here", "_law_many"] spDraw)
    (A : Cl P w K mg base CX0 2 "_law_any" fA fdA ["_law_hand_here", "_law_things"] (spAny K)) : FnOk P w K mg base CX0 3 f fd ["_law_hand_here"] spSize := by
  refine F.ok scSize (fun vs H Q E h => ?_) (fun cdv A' outer s H vs Q E hr h => ?_)
  · obtain ⟨p, rfl, _⟩ := h
    rfl
  · obtain ⟨p, rfl, hH, k⟩ := h
    refine ⟨_, pss_one (ps_ret (pe_ifExp (pt_cmpR op_gt (D.call (hr.mono (by decide)) (pa_cons (pv 0) (pa_cons pe_int pa_nil))) pe_int (nomark _))
      (A.call hr (pa_cons (pv 0) (pa_cons (pe_lst (pa_cons pe_int (pa_cons pe_int (pa_cons pe_int (pa_cons pe_int (pa_cons pe_int (pa_cons pe_int (pa_cons pe_int (pa_cons pe_int (pa_cons pe_int (pa_cons pe_int pa_nil))))))))))) pa_nil)))
      (pe_op op_add pe_int (D.call (hr.mono (by decide)) (pa_cons (pv 0) (pa_cons pe_int pa_nil)))))), ?_⟩
    refine ⟨_, rfl, p, 12, rfl, by decide, by decide, hH, fun d H1 d0 d1 S1 => ?_⟩
    refine ⟨_, _, rfl, rfl, _, rfl, ite2 (fun _ => ?_) (fun _ => ?_)⟩
    · refine ⟨_, rfl, by show 10 ≤ sizeLine; decide, fun q hq => ?_⟩
      have s2 : Same H1 (upd H1 q (.lst [.int 1, .int 2, .int 2, .int 3, .int 3, .int 4, .int 4, .int 5, .int 5, .int 6])) := Same.new hq
      refine ⟨p, q, _, rfl, .inl (SqL.of upd_same), by decide, by decide, S1.hand.same s2, fun i x H2 hi S2 => ?_⟩
      have S : Stp p H H2 := S1.trans (S2.pre s2)
      have e : ∃ n : Nat, x = .int n ∧ 1 ≤ n ∧ n ≤ 12 := by
        have hx := List.mem_of_getElem? hi
        simp only [List.mem_cons, List.not_mem_nil, or_false] at hx
        rcases hx with rfl | rfl | rfl | rfl | rfl | rfl | rfl | rfl | rfl | rfl
        · exact ⟨1, rfl, by decide, by decide⟩
        · exact ⟨2, rfl, by decide, by decide⟩
        · exact ⟨2, rfl, by decide, by decide⟩
        · exact ⟨3, rfl, by decide, by decide⟩
        · exact ⟨3, rfl, by decide, by decide⟩
        · exact ⟨4, rfl, by decide, by decide⟩
        · exact ⟨4, rfl, by decide, by decide⟩
        · exact ⟨5, rfl, by decide, by decide⟩
        · exact ⟨5, rfl, by decide, by decide⟩
        · exact ⟨6, rfl, by decide, by decide⟩
      obtain ⟨n, rfl, n1, n2⟩ := e
      exact k n H2 n1 n2 S
    · refine ⟨_, rfl, p, 6, rfl, by decide, by decide, S1.hand, fun d H2 d0 d1 S2 => ⟨_, _, rfl, rfl, ?_⟩⟩
      obtain ⟨j, rfl⟩ := Int.eq_ofNat_of_zero_le d0
      have z := k (7 + j) H2 (by omega) (by omega) (S1.trans S2)
      rw [Int.natCast_add] at z
      exact z
end
/-! ### shares that are one together -/
theorem lcm_dvd_fold : ∀ (fs : List Fr) (m n : Nat), n ∣ m → n ∣ fs.foldl (fun m f => Nat.lcm m f.2.natAbs) m
  | [], _, _, h => h
  | f :: fs, m, n, h => lcm_dvd_fold fs _ n (Nat.dvd_trans h (Nat.dvd_lcm_left _ _))
theorem dvd_fold : ∀ (fs : List Fr) (m : Nat) (f : Fr), f ∈ fs → f.2.natAbs ∣ fs.foldl (fun m f => Nat.lcm m f.2.natAbs) m
  | [], _, _, h => nomatch h
  | g :: fs, m, f, h => by
    rcases List.mem_cons.mp h with rfl | h
    · exact lcm_dvd_fold fs _ _ (Nat.dvd_lcm_right _ _)
    · exact dvd_fold fs _ f h
theorem dvd_lcmAll {fs : List Fr} {f : Fr} (h : f ∈ fs) : f.2.natAbs ∣ lcmAll fs := dvd_fold fs 1 f h
theorem sum_scale (S : Int) (g : Int → Int) (L : Int) : ∀ ws : List Int, (∀ x ∈ ws, S * g x = x * L) → S * (ws.map g).sum = ws.sum * L
  | [], _ => by simp
  | x :: ws, h => by
    rw [List.map_cons, List.sum_cons, List.sum_cons, Int.mul_add, Int.add_mul, h x List.mem_cons_self, sum_scale S g L ws fun y hy => h y (List.mem_cons_of_mem _ hy)]
theorem lowP_cross {t b : Int} (hb : 0 < b) : b * (lowP t b).1 = t * (lowP t b).2 := by
  have gp := gI_pos (t := t) hb
  have d1 : gI t b ∣ t := by
    unfold gI
    exact Int.ofNat_dvd_left.mpr (Nat.gcd_dvd_left _ _)
  have d2 : gI t b ∣ b := by
    unfold gI
    exact Int.ofNat_dvd_left.mpr (Nat.gcd_dvd_right _ _)
  show b * (t / gI t b) = t * (b / gI t b)
  rw [← Int.mul_ediv_assoc _ d1, ← Int.mul_ediv_assoc _ d2, Int.mul_comm]
theorem lowP_pos {t b : Int} (ht : 0 < t) (hb : 0 < b) : 0 < (lowP t b).1 ∧ 0 < (lowP t b).2 := by
  have gp := gI_pos (t := t) hb
  have d1 : gI t b ∣ t := by
    unfold gI
    exact Int.ofNat_dvd_left.mpr (Nat.gcd_dvd_left _ _)
  have d2 : gI t b ∣ b := by
    unfold gI
    exact Int.ofNat_dvd_left.mpr (Nat.gcd_dvd_right _ _)
  exact ⟨Int.ediv_pos_of_pos_of_dvd ht (Int.le_of_lt gp) d1, Int.ediv_pos_of_pos_of_dvd hb (Int.le_of_lt gp) d2⟩
theorem lowP_le {t b : Int} (ht : 0 ≤ t) (hb : 0 < b) : (lowP t b).1 ≤ t ∧ (lowP t b).2 ≤ b := ⟨Int.ediv_le_self _ ht, Int.ediv_le_self _ (Int.le_of_lt hb)⟩
theorem lowP_cop {t b : Int} (ht : 0 ≤ t) (hb : 0 < b) : Nat.gcd (lowP t b).1.natAbs (lowP t b).2.natAbs = 1 := by
  obtain ⟨a, rfl⟩ := Int.eq_ofNat_of_zero_le ht
  obtain ⟨c, rfl⟩ := Int.eq_ofNat_of_zero_le (Int.le_of_lt hb)
  have z : 0 < Nat.gcd a c := Nat.gcd_pos_of_pos_right _ (by omega)
  have e : ∀ x : Nat, ((x : Int) / gI (a : Int) (c : Int)).natAbs = x / Nat.gcd a c := fun x => by
    unfold gI
    rw [Int.natAbs_natCast, Int.natAbs_natCast, ← Int.natCast_ediv, Int.natAbs_natCast]
  show Nat.gcd ((a : Int) / gI (a : Int) (c : Int)).natAbs ((c : Int) / gI (a : Int) (c : Int)).natAbs = 1
  rw [e, e]
  exact Nat.coprime_div_gcd_div_gcd z
theorem sum_pos : ∀ ws : List Int, ws ≠ [] → (∀ x ∈ ws, 0 < x) → 0 < ws.sum ∧ ∀ x ∈ ws, x ≤ ws.sum
  | [], h, _ => absurd rfl h
  | [x], _, h => by
    have := h x List.mem_cons_self
    simp
    omega
  | x :: y :: ws, _, h => by
    obtain ⟨h1, h2⟩ := sum_pos (y :: ws) (by simp) fun z hz => h z (List.mem_cons_of_mem _ hz)
    have h3 := h x List.mem_cons_self
    rw [List.sum_cons]
    refine ⟨by omega, fun z hz => ?_⟩
    rcases List.mem_cons.mp hz with rfl | hz
    · omega
    · have := h2 z hz
      omega
theorem sum_le (B : Int) : ∀ ws : List Int, (∀ x ∈ ws, x ≤ B) → ws.sum ≤ (ws.length : Int) * B
  | [], _ => by simp
  | x :: ws, h => by
    have h1 := sum_le B ws fun z hz => h z (List.mem_cons_of_mem _ hz)
    have h2 := h x List.mem_cons_self
    rw [List.sum_cons, List.length_cons, Int.natCast_add, Int.add_mul]
    simp
    omega
/-- a weight's share: in lowest terms, of moderate size -/
theorem share_ok {t b : Int} (ht : 0 < t) (h1 : t ≤ b) (h2 : b < 2 ^ 40) : FrOk (lowP t b) ∧ 0 < (lowP t b).1 ∧ Nat.gcd (lowP t b).1.natAbs (lowP t b).2.natAbs = 1 := by
  have hb : 0 < b := by omega
  obtain ⟨p1, p2⟩ := lowP_pos ht hb
  obtain ⟨l1, l2⟩ := lowP_le (Int.le_of_lt ht) hb
  refine ⟨⟨p2, ?_, ?_⟩, p1, lowP_cop (Int.le_of_lt ht) hb⟩ <;> omega
theorem one_of {ws : List Int} (hn : ws ≠ []) (h : ∀ x ∈ ws, 0 < x) : OneOk (ws.map fun x => lowP x ws.sum) := by
  obtain ⟨s0, s1⟩ := sum_pos ws hn h
  unfold OneOk topsOf
  rw [List.map_map]
  have q := sum_scale ws.sum ((fun f : Fr => f.1 * (((lcmAll (ws.map fun x => lowP x ws.sum) : Nat) : Int) / f.2)) ∘ fun x => lowP x ws.sum) ((lcmAll (ws.map fun x => lowP x ws.sum) : Nat) : Int) ws fun x hx => by
    obtain ⟨p1, p2⟩ := lowP_pos (h x hx) s0
    have d : (lowP x ws.sum).2 ∣ ((lcmAll (ws.map fun x => lowP x ws.sum) : Nat) : Int) := by
      have d0 := dvd_lcmAll (List.mem_map.mpr ⟨x, hx, rfl⟩ : lowP x ws.sum ∈ ws.map fun x => lowP x ws.sum)
      exact Int.ofNat_dvd_right.mpr d0
    show ws.sum * ((lowP x ws.sum).1 * (_ / (lowP x ws.sum).2)) = _
    rw [← Int.mul_assoc, lowP_cross s0, Int.mul_assoc, Int.mul_ediv_cancel' d]
  exact Int.eq_of_mul_eq_mul_left (by omega) q
end Law

namespace Law
open PySem L2
/-! ### the shares -/
theorem Stp.free {p W : Addr} {H H' : Hp} (S : Stp p H H') (h : H' W = none) : H W = none := by
  cases e : H W with
  | none => rfl
  | some o =>
    by_cases n : W = p
    · obtain ⟨ks, hp⟩ := S.hand.dk
      rw [n, hp] at h
      cases h
    · rw [S.keep W o n e] at h
      cases h
theorem sqT_upd {K : PySem.W.Frag} {H : Hp} {a D : Addr} {acc xs : List V} {o : HO} (hD : H D = some (.lst acc)) (h : SqT K H a xs) : SqT K (upd H D o) a xs := by
  rcases h with (z | ⟨q, z⟩) | z
  · refine .inl (.inl ?_)
    rw [upd_ne (ne_of z hD (by intro y; cases y))]
    exact z
  · refine .inl (.inr ⟨q, ?_⟩)
    rw [upd_ne (ne_of z hD (by intro y; cases y))]
    exact z
  · exact .inr z
theorem snoc_get {α : Type} {xs : List α} {y v : α} {i : Nat} (h : (xs ++ [y])[i]? = some v) : (i < xs.length ∧ xs[i]? = some v) ∨ (i = xs.length ∧ y = v) := by
  by_cases hi : i < xs.length
  · rw [List.getElem?_append_left hi] at h
    exact .inl ⟨hi, h⟩
  · have z := (List.getElem?_eq_some_iff.mp h).1
    rw [List.length_append] at z
    simp at z
    have e : i = xs.length := by omega
    subst e
    rw [List.getElem?_append_right (Nat.le_refl _), Nat.sub_self] at h
    exact .inr ⟨rfl, Option.some.inj h⟩
theorem FrsIn.snoc {K : PySem.W.Frag} {H : Hp} {D : Addr} {acc : List V} {fs : List Fr} {v : V} {f : Fr} (h : FrsIn K H acc fs) (hD : H D = some (.lst acc)) (hv : FrAt K H v f) : FrsIn K (upd H D (.lst (acc ++ [v]))) (acc ++ [v]) (fs ++ [f]) := by
  refine ⟨by rw [List.length_append, List.length_append, h.1]; rfl, fun i u hu => ?_⟩
  rcases snoc_get hu with ⟨hi, e⟩ | ⟨hi, e⟩
  · obtain ⟨g, h1, s, h2, h3⟩ := h.2 i u e
    exact ⟨g, by rw [List.getElem?_append_left (by rw [← h.1]; exact hi)]; exact h1, s, h2, sqT_upd hD h3⟩
  · obtain ⟨s, h2, h3⟩ := hv
    subst e
    refine ⟨f, ?_, s, h2, sqT_upd hD h3⟩
    rw [List.getElem?_append_right (by rw [hi, h.1]; exact Nat.le_refl _), hi, h.1, Nat.sub_self]
    rfl
theorem Stp.fr {p : Addr} {K : PySem.W.Frag} {H H' : Hp} {vs : List V} {fs : List Fr} (S : Stp p H H') (hp : HandAt H p) (h : FrsIn K H vs fs) : FrsIn K H' vs fs := ⟨h.1, fun i v hv => by
  obtain ⟨f, h1, s, h2, h3⟩ := h.2 i v hv
  exact ⟨f, h1, s, h2, S.sqT hp h3⟩⟩
def FrGood (f : Fr) : Prop := FrOk f ∧ 0 < f.1 ∧ Nat.gcd f.1.natAbs f.2.natAbs = 1
section
variable {P : Program} {w : World} {K : PySem.W.Frag} {mg : Str → Option Value} {base : Heap}
def spShares (K : PySem.W.Frag) : Sp := fun vs H Q _ => ∃ (p : Addr) (n : Nat), vs = [.ref p, .int (n : Int)] ∧ 1 ≤ n ∧ n ≤ 24 ∧ HandAt H p ∧
  ∀ (D : Addr) (H' : Hp) (us : List V) (fs : List Fr), H D = none → Stp p H H' → H' D = some (.lst us) → FrsIn K H' us fs → fs.length = n → (∀ f ∈ fs, FrGood f ∧ f.1 < 2 ^ 40 ∧ f.2 < 2 ^ 40) → OneOk fs → Q (.ref D) H'
theorem scShares : FnScope ["_law_hand_here", "_law_many", "_law_great", "_law_weights", "_law_k", "_law_weight"] ["_law_hand_here", "_law_many"] (defScope s_law_shares) := ⟨rfl, rfl, rfl, by decide +kernel, rfl, by decide +kernel, by decide +kernel⟩
theorem ok_shares {f fD fA fL : Addr} {fd fdD fdA fdL : FuncData} (F : Fun K "_law_shares" "_law_shares" s_law_shares f fd) (T : NmA mg) (D : Cl P w K mg base CX0 1 "_law_draw" fD fdD ["_law_hand_here", "_law_many"] spDraw)
    (A : Cl P w K mg base CX0 2 "_law_any" fA fdA ["_law_hand_here", "_law_things"] (spAny K)) (L : Cl P w K mg base CX0 34 "_law_low" fL fdL ["_law_top", "_law_bottom"] spLow) : FnOk P w K mg base CX0 35 f fd ["_law_hand_here", "_law_many"] (spShares K) := by
  refine F.ok scShares (fun vs H Q E h => ?_) (fun cdv A' outer s H vs Q E hr h => ?_)
  · obtain ⟨p, n, rfl, _⟩ := h
    rfl
  · obtain ⟨p, n, rfl, n1, n24, hH, k⟩ := h
    refine ⟨_, pss_cons (ps_set (i := 2) scShares.nd rfl (Or.inl rfl) (pe_cmpR op_eq (D.call (hr.mono (by decide)) (pa_cons (pv 0) (pa_cons pe_int pa_nil))) pe_int (nomark _)))
      (pss_cons (ps_set (i := 3) scShares.nd rfl (Or.inr rfl) (pe_lst pa_nil))
      (pss_cons (ps_for PassesOwn.never rfl (pi_range1 (by rfl) T.range (pa_cons (pv 1) pa_nil)) (pg_name (i := 4) scShares.nd rfl (Or.inl rfl))
        (pss_cons (ps_set (i := 5) scShares.nd rfl (Or.inl rfl) (pe_op op_add pe_int (D.call (hr.mono (by decide)) (pa_cons (pv 0) (pa_cons (A.call (hr.mono (by decide)) (pa_cons (pv 0) (pa_cons (pe_lst (pa_cons pe_int (pa_cons pe_int (pa_cons pe_int pa_nil)))) pa_nil))) pa_nil)))))
        (pss_one (ps_expr (pe_bm PySem.F.plainAttrs_list PySem.F.slot_list_append PySem.F.type_list_append mt_append (pv 3)
          (pa_cons (pe_ifExp (pt_val (pv 2)) (pe_op op_add (pe_op op_mul (pv 5) (pe_op op_pow pe_int pe_int)) (D.call (hr.mono (by decide)) (pa_cons (pv 0) (pa_cons (pe_op op_pow pe_int pe_int) pa_nil)))) (pv 5)) pa_nil))))))
      (pss_one (ps_ret (pe_lc (own := [("_law_weight", 5)]) (g := gName 5) (tt := tYes) rfl scShares.nd (pi_list (pv 3))
        (blkOk_by (own := [("_law_weight", 5)]) (N := ["_law_hand_here", "_law_many", "_law_great", "_law_weights", "_law_k", "_law_weight"]) (sc := defScope s_law_shares) (by decide +kernel))
        (fun _ _ _ _ _ => pg_name (i := 5) scShares.nd rfl (Or.inl rfl)) (fun _ _ _ _ _ => pts_nil)
        (fun _ _ _ _ _ => L.call hr (pa_cons (pv 5) (pa_cons (pe_callB (r := rSum K) (show CallR _ (.builtin "sum") (rSum K) from cr_sum rfl) (by rfl) T.sum (by decide +kernel) (pa_cons (pv 3) pa_nil)) pa_nil)))))))), ?_⟩
    refine ⟨_, rfl, p, 16, rfl, by decide, by decide, hH, fun d H1 d0 d1 S1 => ?_⟩
    refine ⟨rfl, by show 0 ≤ sizeLine; decide, fun W hW => ?_⟩
    generalize hg : decide (V.int d = V.int 0) = great
    have hWH : H W = none := S1.free hW
    have S2 : Stp p H (upd H1 W (.lst [])) := S1.mut hH hWH
    refine ⟨_, rfl, (n : Int), rfl, by omega, by have : n ≤ 24 := n24; omega, ?_⟩
    refine for_range (lo := 0) (n := n) (fun i σ H' => Stp p H H' ∧ ∃ (ws : List Int) (u v : Option V), H' W = some (.lst (ws.map V.int)) ∧ ws.length = i ∧ (∀ x ∈ ws, 0 < x ∧ x < 2 ^ 34) ∧ σ = [some (.ref p), some (.int (n : Int)), some (.bl great), some (.ref W), u, v]) ⟨S2, [], none, none, upd_same, rfl, fun x hx => absurd hx List.not_mem_nil, rfl⟩ ?_ ?_
    · rintro i σ H' hi ⟨S3, ws, u, v, hw, hl, hb, rfl⟩
      have nW : W ≠ p := ne_of hw S3.hand.dk.choose_spec (by intro z; cases z)
      refine ⟨_, rfl, _, rfl, by show 3 ≤ sizeLine; decide, fun q hq => ?_⟩
      have s4 : Same H' (upd H' q (.lst [.int 1, .int 3, .int 6])) := Same.new hq
      refine ⟨p, q, _, rfl, .inl (SqL.of upd_same), by decide, by decide, S3.hand.same s4, fun j x H4 hj S4 => ?_⟩
      have e : ∃ m : Int, x = .int m ∧ 1 ≤ m ∧ m ≤ 6 := by
        have hx := List.mem_of_getElem? hj
        simp only [List.mem_cons, List.not_mem_nil, or_false] at hx
        rcases hx with rfl | rfl | rfl
        · exact ⟨1, rfl, by decide, by decide⟩
        · exact ⟨3, rfl, by decide, by decide⟩
        · exact ⟨6, rfl, by decide, by decide⟩
      obtain ⟨m, rfl, m1, m6⟩ := e
      refine ⟨p, m, rfl, by omega, by omega, S4.hand, fun d2 H5 e0 e1 S5 => ⟨_, _, rfl, rfl, ?_⟩⟩
      have S35 : Stp p H' H5 := (S4.pre s4).trans S5
      refine ⟨_, rfl, .inl ⟨rfl, _, SqL.of (S35.keep _ _ nW hw)⟩, _, rfl, _, rfl, ?_⟩
      have fin : ∀ (x : Int) (H6 : Hp), Stp p H' H6 → 0 < x → x < 2 ^ 34 → ∃ l xs y, V.ref W = .ref l ∧ [V.int x] = [y] ∧ H6 l = some (.lst xs) ∧ xs.length < sizeLine ∧ (Stp p H (upd H6 l (.lst (xs ++ [y]))) ∧ ∃ (ws : List Int) (u v : Option V), (upd H6 l (.lst (xs ++ [y]))) W = some (.lst (ws.map V.int)) ∧ ws.length = i + 1 ∧ (∀ x ∈ ws, 0 < x ∧ x < 2 ^ 34) ∧
          [some (V.ref p), some (.int (n : Int)), some (.bl great), some (.ref W), some (.int (0 + (i : Int))), some (.int (1 + d2))] = [some (.ref p), some (.int (n : Int)), some (.bl great), some (.ref W), u, v]) := by
        intro x H6 S6 x0 x1
        refine ⟨W, _, _, rfl, rfl, S6.keep _ _ nW hw, ?_, (S3.trans S6).mut hH hWH, ws ++ [x], _, _, ?_, ?_, ?_, rfl⟩
        · rw [List.length_map, hl]
          exact small1000 (by omega)
        · rw [upd_same, List.map_append] <;> rfl
        · rw [List.length_append, hl] <;> rfl
        · intro y hy
          rcases List.mem_append.mp hy with hy | hy
          · exact hb y hy
          · rw [List.mem_singleton.mp hy]
            exact ⟨x0, x1⟩
      cases great with
      | true =>
        refine iteT ⟨_, rfl, _, _, rfl, rfl, ⟨by decide, by decide, by decide⟩, _, _, rfl, rfl, .inl ⟨by omega, by omega⟩, ?_⟩
        refine ⟨_, rfl, _, _, rfl, rfl, ⟨by decide, by decide, by decide⟩, p, 1000000000, rfl, by decide, by decide, S35.hand, fun d3 H6 f0 f1 S6 => ⟨_, _, rfl, rfl, ?_⟩⟩
        exact fin ((1 + d2) * 10 ^ 9 + d3) H6 (S35.trans S6) (by omega) (by omega)
      | false => exact iteF ⟨_, rfl, fin (1 + d2) H5 S35 (by omega) (by omega)⟩
    · rintro σ H' ⟨S3, ws, u, v, hw, hl, hb, rfl⟩
      have wn : ws ≠ [] := fun z => by
        rw [z] at hl
        simp at hl
        omega
      obtain ⟨s0, s1⟩ := sum_pos ws wn fun x hx => (hb x hx).1
      have sB := sum_le (2 ^ 34) ws fun x hx => Int.le_of_lt (hb x hx).2
      have s2 : ws.sum < 2 ^ 40 := by
        rw [hl] at sB
        omega
      refine ⟨_, rfl, W, rfl, ⟨_, SqL.of hw⟩, fun D hD => ?_⟩
      refine lc_list (K := K) (a := W) (xs := ws.map V.int) (fun i H2 => Same H' H2 ∧ ∃ acc, H2 D = some (.lst acc) ∧ FrsIn K H2 acc ((ws.take i).map fun x => lowP x ws.sum)) ⟨Same.new hD, [], upd_same, rfl, fun i v hv => by simp at hv⟩ (fun i H2 _ h => SqL.of (h.1 _ _ hw)) ?_ ?_
      · rintro i x H2 hi ⟨t1, acc, h1, h2⟩
        rw [List.getElem?_map] at hi
        obtain ⟨z, hz, rfl⟩ := Option.map_eq_some_iff.mp hi
        have zm := List.mem_of_getElem? hz
        have hla : acc.length = i := by
          have y := h2.1
          have y2 := (List.getElem?_eq_some_iff.mp hz).1
          rw [List.length_map, List.length_take] at y
          omega
        refine ⟨rfl, _, rfl, _, rfl, W, _, rfl, SqL.of (t1 _ _ hw), z, ws.sum, rfl, Int.le_of_lt (hb z zm).1, s0, fun q hq => ?_⟩
        have nDq : D ≠ q := ne_of_none h1 hq
        have t2 : Same H2 (upd H2 q (.tup [.int (lowP z ws.sum).1, .int (lowP z ws.sum).2])) := Same.new hq
        have h3 := t2 _ _ h1
        refine ⟨acc, h3, small1000 (by have := (List.getElem?_eq_some_iff.mp hz).1; omega), (t1.trans t2).mut hD, _, upd_same, ?_⟩
        rw [List.take_add_one, hz, List.map_append]
        exact FrsIn.snoc (h2.same t2) h3 ⟨q, rfl, SqT.of upd_same⟩
      · rintro H2 ⟨t1, acc, h1, h2⟩
        rw [List.length_map, List.take_length] at h2
        refine k D H2 acc _ (S3.free hD) (S3.post t1) h1 h2 (by rw [List.length_map, hl]) ?_ (one_of wn fun x hx => (hb x hx).1)
        intro g hg
        obtain ⟨x, hx, rfl⟩ := List.mem_map.mp hg
        obtain ⟨l1, l2⟩ := lowP_le (t := x) (b := ws.sum) (Int.le_of_lt (hb x hx).1) s0
        have := s1 x hx
        exact ⟨share_ok (hb x hx).1 (s1 x hx) s2, by omega, by omega⟩
end
end Law

namespace Law
open PySem L2
/-! ### where a move leads -/
/-- a list of whole numbers below n grows at D -/
def Grow (p D : Addr) (H : Hp) (n : Int) : Nat → Hp → Prop := fun i H' => Stp p H H' ∧ ∃ ws : List Int, H' D = some (.lst (ws.map V.int)) ∧ ws.length = i ∧ ∀ x ∈ ws, 0 ≤ x ∧ x < n
theorem Grow.zero {p D : Addr} {H : Hp} {n : Int} (hH : HandAt H p) (hD : H D = none) : Grow p D H n 0 (upd H D (.lst [])) := ⟨Stp.of hH (Same.new hD), [], upd_same, rfl, fun x hx => absurd hx List.not_mem_nil⟩
theorem Grow.put {p D : Addr} {H H1 H2 : Hp} {n x : Int} {i : Nat} (hH : HandAt H p) (hD : H D = none) (g : Grow p D H n i H1) (S : Stp p H1 H2) (hi : i ≤ 999) (x0 : 0 ≤ x) (x1 : x < n) :
    ∃ acc, H2 D = some (.lst acc) ∧ acc.length < sizeLine ∧ Grow p D H n (i + 1) (upd H2 D (.lst (acc ++ [V.int x]))) := by
  obtain ⟨S1, ws, h1, h2, h3⟩ := g
  have nD : D ≠ p := ne_of h1 S1.hand.dk.choose_spec (by intro z; cases z)
  refine ⟨_, S.keep _ _ nD h1, ?_, (S1.trans S).mut hH hD, ws ++ [x], ?_, ?_, ?_⟩
  · rw [List.length_map, h2]
    exact small1000 (by omega)
  · rw [upd_same, List.map_append] <;> rfl
  · rw [List.length_append, h2] <;> rfl
  · intro y hy
    rcases List.mem_append.mp hy with hy | hy
    · exact h3 y hy
    · rw [List.mem_singleton.mp hy]
      exact ⟨x0, x1⟩
section
variable {P : Program} {w : World} {K : PySem.W.Frag} {mg : Str → Option Value} {base : Heap}
def spLeads (K : PySem.W.Frag) : Sp := fun vs H Q _ => ∃ (p : Addr) (n : Nat), vs = [.ref p, .int (n : Int)] ∧ 1 ≤ n ∧ n ≤ 12 ∧ HandAt H p ∧
  ∀ (l : Addr) (H' : Hp) (xs : List Int), Stp p H H' → H' l = some (.tup (xs.map V.int)) → xs.length = n → (∀ x ∈ xs, 0 ≤ x ∧ x < (n : Int)) → Q (.ref l) H'
abbrev nLeads : List Str := ["_law_hand_here", "_law_many", "_law_kind", "_law_left", "_law_found", "_law_k", "_law_two", "_law_half", "_law_by"]
theorem scLeads : FnScope nLeads ["_law_hand_here", "_law_many"] (defScope s_law_leads) := ⟨rfl, rfl, rfl, by decide +kernel, rfl, by decide +kernel, by decide +kernel⟩
theorem ok_leads {f fD fA : Addr} {fd fdD fdA : FuncData} (F : Fun K "_law_leads" "_law_leads" s_law_leads f fd) (T : NmA mg) (D : Cl P w K mg base CX0 1 "_law_draw" fD fdD ["_law_hand_here", "_law_many"] spDraw)
    (A : Cl P w K mg base CX0 2 "_law_any" fA fdA ["_law_hand_here", "_law_things"] (spAny K)) : FnOk P w K mg base CX0 3 f fd ["_law_hand_here", "_law_many"] (spLeads K) := by
  refine F.ok scLeads (fun vs H Q E h => ?_) (fun cdv A' outer s H vs Q E hr h => ?_)
  · obtain ⟨p, n, rfl, _⟩ := h
    rfl
  · obtain ⟨p, n, rfl, n1, n12, hH, k⟩ := h
    have hr1 := hr.mono (show 1 ≤ 2 by decide)
    refine ⟨_, pss_cons (ps_set (i := 2) scLeads.nd rfl (Or.inl rfl) (D.call hr1 (pa_cons (pv 0) (pa_cons pe_int pa_nil))))
      (pss_cons (ps_if (pt_cmpR op_eq (pv 2) pe_int (nomark _))
        (pss_cons (ps_par (i := 3) (j := 4) (by rfl) scLeads.nd rfl rfl (by decide) rfl rfl (pa_cons (pe_listRg (by rfl) (by rfl) T.list (prg_1 (by rfl) T.range (pv 1))) (pa_cons (pe_lst pa_nil) pa_nil)) (by rfl))
        (pss_cons (ps_for PassesOwn.never rfl (pi_range1 (by rfl) T.range (pa_cons (pv 1) pa_nil)) (pg_name (i := 5) scLeads.nd rfl (Or.inl rfl))
          (pss_one (ps_expr (pe_bm PySem.F.plainAttrs_list PySem.F.slot_list_append PySem.F.type_list_append mt_append (pv 4) (pa_cons (pe_bm PySem.F.plainAttrs_list PySem.F.slot_list_pop PySem.F.type_list_pop mt_popAt (pv 3)
            (pa_cons (D.call hr1 (pa_cons (pv 0) (pa_cons (pe_callB call_len_seq (by rfl) T.len PySem.boot_len (pa_cons (pv 3) pa_nil)) pa_nil))) pa_nil)) pa_nil)))))
        (pss_one (ps_ret (pe_callTy call_tuple_of (by rfl) T.tuple (by decide +kernel) (pa_cons (pv 4) pa_nil)))))) pss_nil)
      (pss_cons (ps_if (pt_cmpR op_eq (pv 2) pe_int (nomark _))
        (pss_cons (ps_set (i := 6) scLeads.nd rfl (Or.inr rfl) (pe_lst (pa_cons (D.call hr1 (pa_cons (pv 0) (pa_cons (pv 1) pa_nil))) (pa_cons (D.call hr1 (pa_cons (pv 0) (pa_cons (pv 1) pa_nil))) pa_nil))))
        (pss_one (ps_ret (pe_callTy call_tuple_of (by rfl) T.tuple (by decide +kernel) (pa_cons (pe_lc (own := [("_law_k", 5)]) (g := gName 5) (tt := tYes) rfl scLeads.nd (pi_range1 (by rfl) T.range (pa_cons (pv 1) pa_nil))
          (blkOk_by (own := [("_law_k", 5)]) (N := nLeads) (sc := defScope s_law_leads) (by decide +kernel)) (fun _ _ _ _ _ => pg_name (i := 5) scLeads.nd rfl (Or.inl rfl)) (fun _ _ _ _ _ => pts_nil)
          (fun _ _ _ _ _ => A.call hr (pa_cons (pv 0) (pa_cons (pv 6) pa_nil)))) pa_nil))))) pss_nil)
      (pss_cons (ps_if (pt_cmpR op_eq (pv 2) pe_int (nomark _))
        (pss_one (ps_ret (pe_callTy call_tuple_of (by rfl) T.tuple (by decide +kernel) (pa_cons (pe_lc (own := [("_law_k", 5)]) (g := gName 5) (tt := tYes) rfl scLeads.nd (pi_range1 (by rfl) T.range (pa_cons (pv 1) pa_nil))
          (blkOk_by (own := [("_law_k", 5)]) (N := nLeads) (sc := defScope s_law_leads) (by decide +kernel)) (fun _ _ _ _ _ => pg_name (i := 5) scLeads.nd rfl (Or.inl rfl)) (fun _ _ _ _ _ => pts_nil)
          (fun _ _ _ _ _ => pe_ifExp (pt_cmpR op_eq (D.call hr1 (pa_cons (pv 0) (pa_cons pe_int pa_nil))) pe_int (nomark _)) (D.call hr1 (pa_cons (pv 0) (pa_cons (pv 1) pa_nil))) (pv 5))) pa_nil)))) pss_nil)
      (pss_cons (ps_if (pt_cmpR op_eq (pv 2) pe_int (nomark _))
        (pss_cons (ps_set (i := 7) scLeads.nd rfl (Or.inr rfl) (pe_op op_fdiv (pv 1) pe_int))
        (pss_one (ps_ret (pe_callTy call_tuple_of (by rfl) T.tuple (by decide +kernel) (pa_cons (pe_lc (own := [("_law_k", 5)]) (g := gName 5) (tt := tYes) rfl scLeads.nd (pi_range1 (by rfl) T.range (pa_cons (pv 1) pa_nil))
          (blkOk_by (own := [("_law_k", 5)]) (N := nLeads) (sc := defScope s_law_leads) (by decide +kernel)) (fun _ _ _ _ _ => pg_name (i := 5) scLeads.nd rfl (Or.inl rfl)) (fun _ _ _ _ _ => pts_nil)
          (fun _ _ _ _ _ => pe_ifExp (pt_cmpR op_lt (pv 5) (pv 7) (nomark _)) (D.call hr1 (pa_cons (pv 0) (pa_cons (pv 7) pa_nil))) (pe_op op_add (pv 7) (D.call hr1 (pa_cons (pv 0) (pa_cons (pe_op op_sub (pv 1) (pv 7)) pa_nil)))))) pa_nil))))) pss_nil)
      (pss_cons (ps_if (pt_cmpR op_eq (pv 2) pe_int (nomark _))
        (pss_cons (ps_set (i := 8) scLeads.nd rfl (Or.inr rfl) (pe_op op_add pe_int (D.call hr1 (pa_cons (pv 0) (pa_cons (pv 1) pa_nil)))))
        (pss_one (ps_ret (pe_callTy call_tuple_of (by rfl) T.tuple (by decide +kernel) (pa_cons (pe_lc (own := [("_law_k", 5)]) (g := gName 5) (tt := tYes) rfl scLeads.nd (pi_range1 (by rfl) T.range (pa_cons (pv 1) pa_nil))
          (blkOk_by (own := [("_law_k", 5)]) (N := nLeads) (sc := defScope s_law_leads) (by decide +kernel)) (fun _ _ _ _ _ => pg_name (i := 5) scLeads.nd rfl (Or.inl rfl)) (fun _ _ _ _ _ => pts_nil)
          (fun _ _ _ _ _ => pe_op op_mod (pe_callTy (r := fun xs H Q => (∃ i, xs = [.int i] ∧ Q (.int i) H) ∨ ∃ k, xs = [.bl k] ∧ Q (.int (if k then 1 else 0)) H) call_int1 (by rfl) T.int (by decide +kernel) (pa_cons (pe_op op_add (pv 5) (pv 8)) pa_nil)) (pv 1))) pa_nil))))) pss_nil)
      (pss_one (ps_ret (pe_callTy call_tuple_of (by rfl) T.tuple (by decide +kernel) (pa_cons (pe_lc (own := [("_law_k", 5)]) (g := gName 5) (tt := tYes) rfl scLeads.nd (pi_range1 (by rfl) T.range (pa_cons (pv 1) pa_nil))
          (blkOk_by (own := [("_law_k", 5)]) (N := nLeads) (sc := defScope s_law_leads) (by decide +kernel)) (fun _ _ _ _ _ => pg_name (i := 5) scLeads.nd rfl (Or.inl rfl)) (fun _ _ _ _ _ => pts_nil)
          (fun _ _ _ _ _ => D.call hr1 (pa_cons (pv 0) (pa_cons (pv 1) pa_nil)))) pa_nil))))))))), ?_⟩
    have fin : ∀ (D : Addr) (H' : Hp) (ws : List Int), Stp p H H' → H' D = some (.lst (ws.map V.int)) → ws.length = n → (∀ x ∈ ws, 0 ≤ x ∧ x < (n : Int)) → ∃ q ys, [V.ref D] = [.ref q] ∧ ((SqL K H' q ys ∧ ∀ l, H' l = none → Q (.ref l) (upd H' l (.tup ys))) ∨ (SqT K H' q ys ∧ Q (.ref q) H')) := by
      intro D H' ws S h1 h2 h3
      exact ⟨D, _, rfl, .inl ⟨SqL.of h1, fun l hl => k l _ ws (S.post (Same.new hl)) upd_same h2 h3⟩⟩
    have done : ∀ (D : Addr) (H1 H' : Hp), Stp p H H1 → Grow p D H1 n n H' → ∃ q ys, [V.ref D] = [.ref q] ∧ ((SqL K H' q ys ∧ ∀ l, H' l = none → Q (.ref l) (upd H' l (.tup ys))) ∨ (SqT K H' q ys ∧ Q (.ref q) H')) := by
      rintro D H1 H' S ⟨S1, ws, h1, h2, h3⟩
      exact fin D H' ws (S.trans S1) h1 h2 h3
    refine ⟨_, rfl, p, 7, rfl, by decide, by decide, hH, fun d H1 d0 d1 S1 => ?_⟩
    refine ⟨_, rfl, rfl, _, rfl, ite2 (fun _ => ?_) (fun _ => ?_)⟩
    · refine ⟨_, rfl, (n : Int), rfl, RgOk.of_le (by decide) (by omega) (by decide) (by omega), fun q hq => ⟨by show 0 ≤ sizeLine; decide, fun r hr' => ⟨_, _, rfl, ?_⟩⟩⟩
      have qr : q ≠ r := ne_of_none upd_same hr'
      have hqH : H q = none := S1.free hq
      have hrH : H r = none := (S1.post (Same.new hq)).free hr'
      refine ⟨_, rfl, (n : Int), rfl, by omega, by omega, ?_⟩
      refine for_range (lo := 0) (n := n) (fun i σ H' => Stp p H H' ∧ ∃ (ls ws : List Int) (u : Option V), H' q = some (.lst (ls.map V.int)) ∧ H' r = some (.lst (ws.map V.int)) ∧ ls.length + i = n ∧ ws.length = i ∧ (∀ x ∈ ls, 0 ≤ x ∧ x < (n : Int)) ∧ (∀ x ∈ ws, 0 ≤ x ∧ x < (n : Int)) ∧
        σ = [some (.ref p), some (.int (n : Int)), some (.int d), some (.ref q), some (.ref r), u, none, none, none]) ⟨(S1.post (Same.new hq)).post (Same.new hr'), (List.range n).map fun i : Nat => (i : Int), [], none, ?_, upd_same, ?_, rfl, ?_, fun x hx => absurd hx List.not_mem_nil, rfl⟩ ?_ ?_
      · rw [upd_ne qr, upd_same]
        unfold rgV
        rw [List.map_map]
        rw [show ((n : Int) - 0).toNat = n by omega]
        refine congrArg (fun z => some (HO.lst z)) (List.map_congr_left fun i _ => ?_)
        show V.int (0 + (i : Nat)) = V.int (i : Int)
        rw [Int.zero_add]
      · rw [List.length_map, List.length_range] <;> rfl
      · intro x hx
        obtain ⟨i, hi, rfl⟩ := List.mem_map.mp hx
        have := List.mem_range.mp hi
        omega
      · rintro i σ H' hi ⟨S2, ls, ws, u, h1, h2, h3, h4, h5, h6, rfl⟩
        have nq : q ≠ p := ne_of h1 S2.hand.dk.choose_spec (by intro z; cases z)
        have nr : r ≠ p := ne_of h2 S2.hand.dk.choose_spec (by intro z; cases z)
        refine ⟨_, rfl, .inl ⟨rfl, _, SqL.of h2⟩, _, rfl, .inl ⟨rfl, _, SqL.of h1⟩, _, rfl, _, rfl, q, _, rfl, .inl (SqL.of h1), p, _, rfl, ?_, ?_, S2.hand, fun d2 H3 e0 e1 S3 => ?_⟩
        · rw [List.length_map]
          omega
        · rw [List.length_map]
          omega
        · rw [List.length_map] at e1
          obtain ⟨j, rfl⟩ := Int.eq_ofNat_of_zero_le e0
          have hj : j < ls.length := by omega
          have h1' := S3.keep _ _ nq h1
          have h2' := S3.keep _ _ nr h2
          refine ⟨q, _, (j : Int), j, V.int ls[j], rfl, rfl, h1', by omega, by omega, ?_, ?_, ?_⟩
          · unfold seqIndex?
            rw [if_neg (show ¬ ((j : Int) < 0) by omega), List.length_map]
            simp
            omega
          · rw [List.getElem?_map, List.getElem?_eq_getElem hj] <;> rfl
          · have S4 : Stp p H (upd H3 q (.lst ((ls.map V.int).eraseIdx j))) := (S2.trans S3).mut hH hqH
            refine ⟨r, _, _, rfl, rfl, by rw [upd_ne (Ne.symm qr)]; exact h2', ?_, S4.mut hH hrH, ls.eraseIdx j, ws ++ [ls[j]], _, ?_, ?_, ?_, ?_, ?_, ?_, rfl⟩
            · rw [List.length_map, h4]
              exact small1000 (by omega)
            · rw [upd_ne qr, upd_same, erase_mapI]
            · rw [upd_same, List.map_append] <;> rfl
            · rw [List.length_eraseIdx_of_lt hj]
              omega
            · rw [List.length_append, h4] <;> rfl
            · exact fun x hx => h5 x (List.mem_of_mem_eraseIdx hx)
            · intro x hx
              rcases List.mem_append.mp hx with hx | hx
              · exact h6 x hx
              · rw [List.mem_singleton.mp hx]
                exact h5 _ (List.getElem_mem hj)
      · rintro σ H' ⟨S2, ls, ws, u, h1, h2, h3, h4, h5, h6, rfl⟩
        exact ⟨_, rfl, fin r H' ws S2 h2 h4 h6⟩
    refine ⟨_, rfl, rfl, _, rfl, ite2 (fun _ => ?_) (fun _ => ?_)⟩
    · refine ⟨_, rfl, _, rfl, p, (n : Int), rfl, by omega, by omega, S1.hand, fun a1 H2 a0 a2 S2 => ?_⟩
      refine ⟨_, rfl, _, rfl, p, (n : Int), rfl, by omega, by omega, S2.hand, fun b1 H3 b0 b2 S3 => ⟨by show 2 ≤ sizeLine; decide, fun q hq => ?_⟩⟩
      have S4 : Stp p H (upd H3 q (.lst [.int a1, .int b1])) := ((S1.trans S2).trans S3).post (Same.new hq)
      have g4 : (upd H3 q (.lst [.int a1, .int b1])) q = some (.lst [.int a1, .int b1]) := upd_same
      generalize upd H3 q (.lst [.int a1, .int b1]) = H4 at S4 g4 ⊢
      have nq : q ≠ p := ne_of g4 S4.hand.dk.choose_spec (by intro z; cases z)
      refine ⟨_, rfl, (n : Int), rfl, by omega, by omega, fun D hD => ?_⟩
      refine lc_range (lo := 0) (n := n) (Grow p D H4 n) (Grow.zero S4.hand hD) (fun i H' hi g => ?_) fun H' g => done D H4 H' S4 g
      refine ⟨rfl, _, rfl, _, rfl, p, q, _, rfl, .inl (SqL.of (g.1.keep _ _ nq g4)), by show 0 < 2; decide, by show 2 < _; decide, g.1.hand, fun j x H5 hj S5 => ?_⟩
      have e : ∃ z : Int, x = .int z ∧ 0 ≤ z ∧ z < (n : Int) := by
        have hx := List.mem_of_getElem? hj
        simp only [List.mem_cons, List.not_mem_nil, or_false] at hx
        rcases hx with rfl | rfl
        · exact ⟨a1, rfl, a0, a2⟩
        · exact ⟨b1, rfl, b0, b2⟩
      obtain ⟨z, rfl, z0, z1⟩ := e
      exact g.put S4.hand hD S5 (by omega) z0 z1
    refine ⟨_, rfl, rfl, _, rfl, ite2 (fun _ => ?_) (fun _ => ?_)⟩
    · refine ⟨_, rfl, (n : Int), rfl, by omega, by omega, fun D hD => ?_⟩
      refine lc_range (lo := 0) (n := n) (Grow p D H1 n) (Grow.zero S1.hand hD) (fun i H' hi g => ?_) fun H' g => done D H1 H' S1 g
      refine ⟨rfl, _, rfl, p, 3, rfl, by decide, by decide, g.1.hand, fun d2 H2 e0 e1 S2 => ⟨rfl, _, rfl, ite2 (fun _ => ?_) (fun _ => ?_)⟩⟩
      · exact ⟨_, rfl, _, rfl, p, (n : Int), rfl, by omega, by omega, S2.hand, fun d3 H3 f0 f1 S3 => g.put S1.hand hD (S2.trans S3) (by omega) f0 f1⟩
      · exact ⟨_, rfl, g.put S1.hand hD S2 (by omega) (by omega) (by omega)⟩
    refine ⟨_, rfl, rfl, _, rfl, ite2 (fun _ => ?_) (fun _ => ?_)⟩
    · refine ⟨_, rfl, _, _, rfl, rfl, ⟨by decide, by decide⟩, ?_⟩
      refine ⟨_, rfl, (n : Int), rfl, by omega, by omega, fun D hD => ?_⟩
      refine lc_range (lo := 0) (n := n) (Grow p D H1 n) (Grow.zero S1.hand hD) (fun i H' hi g => ?_) fun H' g => done D H1 H' S1 g
      refine ⟨rfl, _, rfl, _, rfl, _, _, rfl, rfl, _, rfl, ite2 (fun hlt => ?_) (fun _ => ?_)⟩
      · have hlt := of_decide_eq_true hlt
        exact ⟨_, rfl, _, rfl, p, (n : Int) / 2, rfl, by omega, by omega, g.1.hand, fun d3 H3 f0 f1 S3 => g.put S1.hand hD S3 (by omega) f0 (by omega)⟩
      · exact ⟨_, rfl, _, rfl, _, rfl, _, rfl, _, _, rfl, rfl, p, (n : Int) - (n : Int) / 2, rfl, by omega, by omega, g.1.hand, fun d3 H3 f0 f1 S3 => ⟨_, _, rfl, rfl, g.put S1.hand hD S3 (by omega) (by omega) (by omega)⟩⟩
    refine ⟨_, rfl, rfl, _, rfl, ite2 (fun _ => ?_) (fun _ => ?_)⟩
    · refine ⟨_, rfl, _, rfl, p, (n : Int), rfl, by omega, by omega, S1.hand, fun d2 H2 e0 e1 S2 => ⟨_, _, rfl, rfl, ?_⟩⟩
      have S12 := S1.trans S2
      refine ⟨_, rfl, (n : Int), rfl, by omega, by omega, fun D hD => ?_⟩
      refine lc_range (lo := 0) (n := n) (Grow p D H2 n) (Grow.zero S2.hand hD) (fun i H' hi g => ?_) fun H' g => done D H2 H' S12 g
      have np : (0 : Int) < n := by omega
      exact ⟨rfl, _, rfl, _, rfl, _, _, rfl, rfl, .inl ⟨_, rfl, _, rfl, _, _, rfl, rfl, np, g.put S2.hand hD (Stp.refl g.1.hand) (by omega) (Int.emod_nonneg _ (by omega)) (Int.emod_lt_of_pos _ np)⟩⟩
    · refine ⟨_, rfl, (n : Int), rfl, by omega, by omega, fun D hD => ?_⟩
      refine lc_range (lo := 0) (n := n) (Grow p D H1 n) (Grow.zero S1.hand hD) (fun i H' hi g => ?_) fun H' g => done D H1 H' S1 g
      exact ⟨rfl, _, rfl, _, rfl, p, (n : Int), rfl, by omega, by omega, g.1.hand, fun d3 H3 f0 f1 S3 => g.put S1.hand hD S3 (by omega) f0 f1⟩
end
end Law

namespace L2
open PySem PySem.Spec PyProof.Rows
/-! ### (x,) * n for every n; t.count(k); set(t) of a tuple of ints -/
theorem tuple_mul0 (l : Addr) (items : Array Value) (n : Nat) (dd : Option Addr) (sl : Array (Option Value)) (u : Tok) (hi : items.isEmpty = false) :
    Meets (Builtin.«tuple.__mul__» ⟨[.ref l, .int 0 u], []⟩) (fun _ R s => s.heap.get? l = some { cls := .type "tuple", dict := dd, data := .seq items n, slots := sl } ∧
      R (.ok (.ret (Value.ref s.heap.objs.size))) { s with heap := s.heap.push { cls := Value.type "tuple", data := Data.seq #[] }, toks := s.toks }) :=
  .of_wp fun prog w A R s h => by
    obtain ⟨hp, g, d, tk, os⟩ := s
    obtain ⟨hl, h⟩ := h
    have f1 := AutoSeq1.idx_int
    have c1 : (items.isEmpty || (0 : Int) == 1) = false := by rw [hi] <;> rfl
    wp_walk using wpAny_loadPart' hl
    repeat (first
      | (refine wpAny_ite_false (decide_eq_false (by decide)) ?_; wp_walk using wpAny_loadPart' hl)
      | (refine wpAny_ite_false (decide_eq_false (by rw [c1]; exact Bool.false_ne_true)) ?_; wp_walk using wpAny_loadPart' hl)
      | (refine wpAny_ite_true (decide_eq_true (by simp)) ?_; wp_walk using wpAny_loadPart' hl))
    exact ⟨_, rfl, h⟩
theorem tuple_mul1 (l : Addr) (items : Array Value) (n : Nat) (dd : Option Addr) (sl : Array (Option Value)) (u : Tok) :
    Meets (Builtin.«tuple.__mul__» ⟨[.ref l, .int 1 u], []⟩) (fun _ R s => s.heap.get? l = some { cls := .type "tuple", dict := dd, data := .seq items n, slots := sl } ∧ R (.ok (.ret (Value.ref l))) s) :=
  .of_wp fun prog w A R s h => by
    obtain ⟨hp, g, d, tk, os⟩ := s
    obtain ⟨hl, h⟩ := h
    have f1 := AutoSeq1.idx_int
    have c1 : (items.isEmpty || (1 : Int) == 1) = true := by simp
    wp_walk using wpAny_loadPart' hl
    repeat (first
      | (refine wpAny_ite_false (decide_eq_false (by decide)) ?_; wp_walk using wpAny_loadPart' hl)
      | (refine wpAny_ite_true (decide_eq_true (by rw [c1])) ?_; wp_walk using wpAny_loadPart' hl, wpAny_typeOf' ⟨_, hl, rfl⟩))
    exact ⟨_, rfl, h⟩
def rCntT (K : PySem.W.Frag) : V → List V → Hp → VK → Prop := fun x xs H Q => ∃ (p : Addr) (ns : List Int) (k : Int), x = .ref p ∧ xs = [.int k] ∧ SqT K H p (ns.map V.int) ∧ Q (.int (ns.count k : Nat)) H
def rSetI (K : PySem.W.Frag) (w : World) : List V → Hp → VK → Prop := fun vs H Q => ∃ (a : Addr) (ns : List Int), vs = [V.ref a] ∧ SqT K H a (ns.map V.int) ∧ ns.length ≤ 1000 ∧
  ∀ (p : Addr) (c : Nat), H p = none → c ≤ ns.length → Q (.ref p) (upd H p (SetO w p (fun j => decide (j ∈ ns)) c))
section
variable {X : Cx}
theorem mt_tcount : MtR X "tuple.count" (rCntT X.K) := by
  intro pins s σ H x xs v us Q I rx rxs h
  obtain ⟨p, ns, k, rfl, rfl, hs, q⟩ := h
  cases rx
  obtain ⟨u, rfl, ru⟩ := rxs.one
  obtain ⟨t, rfl⟩ := ru
  obtain ⟨its, rv, ⟨⟨cls, dd, data, sl⟩, ho, hc, n, hd⟩, hlen⟩ := I.tuple hs
  simp only at hc hd
  subst hc hd
  have hi := ints_of_vals rv
  refine call_meets PySem.F.slot_tuple_count ⟨_, ho, rfl⟩ PySem.F.entry_tuple_count (PySem.F.args_tuple_count_2 _ _)
    (SeqAt.tuple_countAt p its.toArray n dd sl (.int k t) (eqk k)) ⟨ho, fun y hy => (eqk_gives hi y (by simpa using hy)).at _ _, ?_⟩
  have ec : its.toArray.toList.countP (eqk k) = ns.count k := eqk_count hi
  refine ⟨.int (ns.count k : Nat), H, I.tok _, ⟨s.toks, ?_⟩, q⟩
  show Value.int ((its.toArray.toList.countP (eqk k) : Nat) : Int) s.toks = Value.int ((ns.count k : Nat) : Int) s.toks
  rw [ec]
theorem cr_setI (hc : X.calm = true) : CallR X (.type "set") (rSetI X.K X.w) := by
  intro pins s σ H xs us Q I r h
  obtain ⟨a, ns, rfl, hq, hl, q⟩ := h
  rw [Vals.ref1 r]
  obtain ⟨its, rv, pt, hz⟩ := I.tuple hq
  have hi : IntsAre its.toArray.toList ns := ints_of_vals rv
  refine call_set_tupI ns (I.ok.hd hc) (show s.heap.IsTuple a its.toArray from pt) hi (by unfold scanBound; omega) fun h' tk c R1 hcn k => ?_
  exact ⟨.ref _, upd H s.heap.objs.size (SetO X.w s.heap.objs.size (fun j => decide (j ∈ ns)) c), I.laid (t' := tk) k (Nat.le_refl _) (setO_new R1), rfl, q _ c (I.hok.fresh (Nat.le_refl _)) hcn⟩
def rRepI (K : PySem.W.Frag) : R2 := fun x y H Q => ∃ l k xs, x = .ref l ∧ y = .int k ∧ SqT K H l xs ∧ xs ≠ [] ∧ 0 ≤ k ∧ k ≤ 1000 ∧ xs.length ≤ 1000 ∧
  (k = 0 → ∀ p, H p = none → Q (.ref p) (upd H p (.tup []))) ∧ (k = 1 → Q (.ref l) H) ∧ (2 ≤ k → ∀ p, H p = none → Q (.ref p) (upd H p (.tup (List.replicate k.toNat xs).flatten)))
theorem op_repI : OpR X (binaryOp .Mult) (rRepI X.K) := by
  intro pins s σ H x y v u Q I rx ry h
  obtain ⟨l, k, xs, rfl, rfl, hT, hne, h1, h2, hz, q0, q1, q2⟩ := h
  by_cases k2 : 2 ≤ k
  · exact op_repT pins s σ H _ _ v u Q I rx ry ⟨l, k, xs, rfl, rfl, hT, hne, k2, h2, hz, q2 k2⟩
  cases rx
  obtain ⟨t, rfl⟩ := ry
  obtain ⟨its, r, ⟨⟨cls, dd, data, sl⟩, ho, hc, n, hd⟩, hs⟩ := I.tuple hT
  simp only at hc hd
  subst hc hd
  have hle : its.length = xs.length := r.length.symm
  have hn : its ≠ [] := fun e => hne (by
    rw [e] at hle
    exact List.eq_nil_of_length_eq_zero hle.symm)
  have hi : its.toArray.isEmpty = false := by
    cases its with
    | nil => exact absurd rfl hn
    | cons a b => rfl
  by_cases k0 : k = 0
  · subst k0
    refine wpAny_binaryOp_repeat_ref (T := "tuple") (U := "int") (by decide) ⟨_, ho, rfl⟩ (fun s' => typeIs_int s' 0 t) noFill_tuple_mul F.fills_int_mul F.slot_int_rmul repeat_tuple F.slot_int_index.lookup
      (call_meets F.slot_int_rmul (typeIs_int s 0 t) F.entry_int_rmul (F.args_int_rmul_2 _ _) (int_rmul_tuple 0 t l its.toArray n dd sl)
        ⟨ho, rfl, ⟨_, ho, rfl⟩, call_meets F.slot_tuple_mul ⟨_, ho, rfl⟩ F.entry_tuple_mul (F.args_tuple_mul_2 _ _) (tuple_mul0 l its.toArray n dd sl t hi) ⟨ho, ?_⟩⟩)
    refine ⟨.ref s.heap.objs.size, _, I.laid (t' := s.toks) (o := .tup []) (fun b ob q => Heap.get?_push_of_some _ q) (Nat.le_refl _) ?_, rfl, q0 rfl _ (I.hok.fresh (Nat.le_refl _))⟩
    exact ⟨Nat.zero_le _, [], .nil, IsTup.new _ _⟩
  · have k1 : k = 1 := by omega
    subst k1
    exact wpAny_binaryOp_repeat_ref (T := "tuple") (U := "int") (by decide) ⟨_, ho, rfl⟩ (fun s' => typeIs_int s' 1 t) noFill_tuple_mul F.fills_int_mul F.slot_int_rmul repeat_tuple F.slot_int_index.lookup
      (call_meets F.slot_int_rmul (typeIs_int s 1 t) F.entry_int_rmul (F.args_int_rmul_2 _ _) (int_rmul_tuple 1 t l its.toArray n dd sl)
        ⟨ho, rfl, ⟨_, ho, rfl⟩, call_meets F.slot_tuple_mul ⟨_, ho, rfl⟩ F.entry_tuple_mul (F.args_tuple_mul_2 _ _) (tuple_mul1 l its.toArray n dd sl t) ⟨ho, ⟨.ref l, H, I, rfl, q1 rfl⟩⟩⟩)
end
end L2

namespace Law
open PySem L2
/-! ### drawn moves -/
theorem Stp.mvAt {p : Addr} {K : PySem.W.Frag} {H H' : Hp} {v : V} {m : Mv} (S : Stp p H H') (hp : HandAt H p) (h : MvAt K H v m) : MvAt K H' v m := by
  obtain ⟨a, s, l, h1, h2, h3, h4⟩ := h
  exact ⟨a, s, l, h1, S.sqT hp h2, S.sqT hp h3, S.sqT hp h4⟩
theorem Stp.mv {p : Addr} {K : PySem.W.Frag} {H H' : Hp} {vs : List V} {ms : List Mv} (S : Stp p H H') (hp : HandAt H p) (h : MvsIn K H vs ms) : MvsIn K H' vs ms := ⟨h.1, fun i v hv => by
  obtain ⟨m, h1, h2⟩ := h.2 i v hv
  exact ⟨m, h1, S.mvAt hp h2⟩⟩
theorem Stp.mvs {p : Addr} {K : PySem.W.Frag} {H H' : Hp} {a : Addr} {ms : List Mv} (S : Stp p H H') (hp : HandAt H p) (h : MvsAt K H a ms) : MvsAt K H' a ms := by
  obtain ⟨vs, h1, h2⟩ := h
  exact ⟨vs, S.sqT hp h1, S.mv hp h2⟩
theorem mvAt_upd {K : PySem.W.Frag} {H : Hp} {D : Addr} {acc : List V} {o : HO} {v : V} {m : Mv} (hD : H D = some (.lst acc)) (h : MvAt K H v m) : MvAt K (upd H D o) v m := by
  obtain ⟨a, s, l, h1, h2, h3, h4⟩ := h
  exact ⟨a, s, l, h1, sqT_upd hD h2, sqT_upd hD h3, sqT_upd hD h4⟩
theorem MvsIn.snoc {K : PySem.W.Frag} {H : Hp} {D : Addr} {acc : List V} {ms : List Mv} {v : V} {m : Mv} (h : MvsIn K H acc ms) (hD : H D = some (.lst acc)) (hv : MvAt K H v m) : MvsIn K (upd H D (.lst (acc ++ [v]))) (acc ++ [v]) (ms ++ [m]) := by
  refine ⟨by rw [List.length_append, List.length_append, h.1]; rfl, fun i u hu => ?_⟩
  rcases snoc_get hu with ⟨hi, e⟩ | ⟨hi, e⟩
  · obtain ⟨g, h1, h2⟩ := h.2 i u e
    exact ⟨g, by rw [List.getElem?_append_left (by rw [← h.1]; exact hi)]; exact h1, mvAt_upd hD h2⟩
  · subst e
    refine ⟨m, ?_, mvAt_upd hD hv⟩
    rw [List.getElem?_append_right (by rw [hi, h.1]; exact Nat.le_refl _), hi, h.1, Nat.sub_self]
    rfl
section
variable {P : Program} {w : World} {K : PySem.W.Frag} {mg : Str → Option Value} {base : Heap}
/-- moves that are drawn: as a System may have them, their shares of moderate size -/
structure MvsOk (many : Nat) (ms : List Mv) : Prop where
  ok : SysOk many ms
  lt : ∀ m ∈ ms, m.1.1 < 2 ^ 40 ∧ m.1.2 < 2 ^ 40
def spMoves (K : PySem.W.Frag) : Sp := fun vs H Q _ => ∃ (p : Addr) (many most : Nat), vs = [.ref p, .int (many : Int), .int (most : Int)] ∧ 1 ≤ many ∧ many ≤ 12 ∧ 1 ≤ most ∧ most ≤ 24 ∧ HandAt H p ∧
  ∀ (l : Addr) (H' : Hp) (ms : List Mv), Stp p H H' → MvsAt K H' l ms → MvsOk many ms → Q (.ref l) H'
end
end Law
namespace L2
open PySem PySem.Spec PyProof.Rows HT
/-! ### t[::-1] of a tuple; set(xs) and len(set(xs)) of a list of ints -/
theorem places_rev (n : Nat) : Builtin.Slice.slicePlaces ((n : Int) - 1) (-1) (-1) = n := by
  unfold Builtin.Slice.slicePlaces
  have h1 : ¬ ((-1 : Int) > 0) := by decide
  simp only [h1, if_false]
  by_cases h : (n : Int) - 1 > -1
  · simp only [h, if_true]
    rw [show (- -1 : Int) = 1 by decide, Int.ediv_one]
    omega
  · simp only [h, if_false]
    omega
theorem adjust_rev (n : Nat) : Builtin.Slice.sliceAdjust none none (-1) (n : Int) = ((n : Int) - 1, -1) := by
  first
  | rfl
  | simp [Builtin.Slice.sliceAdjust]
theorem fmap_congr {α β : Type} {f g : α → Option β} : ∀ l : List α, (∀ a ∈ l, f a = g a) → l.filterMap f = l.filterMap g
  | [], _ => rfl
  | a :: l, h => by rw [List.filterMap_cons, List.filterMap_cons, h a List.mem_cons_self, fmap_congr l fun b hb => h b (List.mem_cons_of_mem _ hb)]
theorem pick_rev (xs : Array Value) : ((List.range xs.size).filterMap fun (m : Nat) => xs[(((xs.size : Nat) : Int) - 1 + (m : Int) * (-1)).toNat]?).toArray = xs.toList.reverse.toArray := by
  congr 1
  have e : (List.range xs.size).filterMap (fun (m : Nat) => xs[(((xs.size : Nat) : Int) - 1 + (m : Int) * (-1)).toNat]?) = ((List.range xs.size).map fun k => xs.size - 1 - k).filterMap (xs[·]?) := by
    rw [List.filterMap_map]
    refine fmap_congr _ fun m hm => ?_
    have := List.mem_range.mp hm
    show xs[(((xs.size : Nat) : Int) - 1 + (m : Int) * (-1)).toNat]? = xs[xs.size - 1 - m]?
    rw [show (((xs.size : Nat) : Int) - 1 + (m : Int) * (-1)).toNat = xs.size - 1 - m by omega]
  rw [e, PySem.W.krv_range, List.filterMap_reverse, PySem.W.krv_all]
section
variable {prog : Program} {w : World} {A : Around} {E : Value → Shared → Prop} {s : Shared}
theorem applied_rev {sl : Addr} {vs : Value} {n : Nat} {Q : Int × Int × Nat → Shared → Prop} (hs : s.heap.IsSliceOf sl .none .none vs) (ps : IsPart vs (some (-1))) (h : Q ((n : Int) - 1, -1, n) s) :
    wpAny (model prog w) A (Builtin.Slice.sliceApplied (.ref sl) (pure (n : Int))) Q E s := by
  obtain ⟨os, hos, hcs, hds⟩ := id hs
  unfold Builtin.Slice.sliceApplied; unfold Builtin.Slice.sliceFields
  refine wpAny_bind (wpAny_bind (wpAny_field hos hds (x := .none) rfl (wpAny_bind (wpAny_field hos hds (x := .none) rfl (wpAny_bind (wpAny_field hos hds (x := vs) rfl (wpAny_pure ?_)))))))
  refine wpAny_bind (slicePart_ ps ?_)
  show wpAny _ _ (if ((-1 : Int) == 0) = true then _ else _) _ _ s
  rw [if_neg (show ¬ ((-1 : Int) == 0) = true by decide)]
  refine wpAny_bind (slicePart_ .none (wpAny_bind (slicePart_ .none (wpAny_bind (wpAny_pure ?_)))))
  show wpAny _ _ (match Builtin.Slice.sliceAdjust none none (-1) (n : Int) with | (lo, hi) => pure (lo, (-1 : Int), Builtin.Slice.slicePlaces lo hi (-1))) _ _ s
  rw [adjust_rev n]
  show wpAny _ _ (pure ((n : Int) - 1, (-1 : Int), Builtin.Slice.slicePlaces ((n : Int) - 1) (-1) (-1))) _ _ s
  rw [places_rev]
  exact wpAny_pure h
theorem getItem_tuple_rev {t sl : Addr} {items : Array Value} {vs : Value} {Q : Value → Shared → Prop} (ht : IsTup s.heap t items) (hs : s.heap.IsSliceOf sl .none .none vs) (ps : IsPart vs (some (-1)))
    (h : Q (.ref s.heap.objs.size) { s with heap := s.heap.push { cls := .type "tuple", data := .seq items.toList.reverse.toArray } }) (hsz : items.size ≤ sizeLine) : wpAny (model prog w) A (getItem (.ref t) (.ref sl)) Q E s := by
  have hr : sizeOk (.seq items.toList.reverse.toArray) := by
    show items.toList.reverse.toArray.size ≤ sizeLine
    rw [List.size_toArray, List.length_reverse, Array.length_toList]
    exact hsz
  obtain ⟨os, hos, hcs, hds⟩ := id hs
  have hTs : s.TypeIs (.ref sl) "slice" := ⟨os, hos, hcs⟩; unfold getItem
  try with_reducible refine wpAny_holding ?_
  first | (refine wpAny_bind (wpAny_pure ?_)) | (skip)
  refine wpAny_bind (wpAny_sequenceKey ht.typeIs (show _ by decide) ?_)
  refine wpAny_bind (wpAny_callSpecial?_slot (name := Str.ofString "__getitem__") ht.typeIs PyProof.Rows.slot_tuple_getitem (wpAny_call_entry PyProof.Rows.slot_tuple_getitem ht.typeIs entry_tuple_getitem ?_ (args_tuple_getitem _ _)))
  show wpAny _ _ (Builtin.Tuple.tupleItemsOf (Value.ref t) >>= _) _ _ s
  refine wpAny_bind (tupleItemsOf_ ht ?_); refine wpAny_bind (wpAny_typeOf hTs ?_)
  rw [if_pos (show _ by decide)]
  refine wpAny_bind (applied_rev (n := items.size) hs ps ?_)
  have hno : ¬ (((((items.size : Nat) : Int) - 1) == 0 && (-1 : Int) == 1 && items.size == items.size) = true) := by
    rw [show ((-1 : Int) == 1) = false by decide, Bool.and_false, Bool.false_and]
    exact Bool.false_ne_true
  show wpAny _ _ (if ((((items.size : Nat) : Int) - 1) == 0 && (-1 : Int) == 1 && items.size == items.size) = true then _ else _) _ _ s
  rw [if_neg hno, pick_rev]
  first
    | exact wpAny_bind (m := Builtin.Tuple.tupleExact _) (wpAny_newObj_type (wpAny_pure ⟨_, rfl, wpAny_pure h⟩) hr)
    | exact wpAny_bind (m := Builtin.Tuple.tupleExact _) (wpAny_newObj_type (wpAny_bind (wpAny_pure (wpAny_pure ⟨_, rfl, wpAny_pure h⟩))) hr)
    | exact wpAny_bind (wpAny_bind (m := Builtin.Tuple.tupleExact _) (wpAny_newObj_type (wpAny_pure (wpAny_pure ⟨_, rfl, wpAny_pure h⟩)) hr))
    | exact wpAny_bind (wpAny_bind (m := Builtin.Tuple.tupleExact _) (wpAny_newObj_type (wpAny_pure ⟨_, rfl, wpAny_pure h⟩) hr))
end
def tRevT (K : PySem.W.Frag) (te : TE) : TE := fun σ H Q => te σ H fun x H1 => ∃ a xs, x = .ref a ∧ SqT K H1 a xs ∧ ∀ p, H1 p = none → Q (.ref p) (upd H1 p (.tup xs.reverse))
theorem pe_revT {X : Cx} {e : Expr} {te : TE} {k : Nat} {p1 p2 p3 pos : Pos} (he : PE X e te) : PE X (.Subscript e (.Slice none none (some (.UnaryOp .USub (.Constant (.int 1) k p1) p2)) p3) pos) (tRevT X.K te) := by
  refine ⟨fun pins s σ H Q I h => Subscript_ (thn (he.run pins s σ H _ I h) fun v s1 ⟨x, H1, I1, r1, q1⟩ => ?_)⟩
  obtain ⟨a, xs, rfl, hx, q⟩ := q1
  cases r1
  have hst : PO X (some (.UnaryOp .USub (.Constant (.int 1) k p1) p2)) (tPart (tUn (rU fun i => .int (-i)) (tC (.int 1)))) := po_some (pe_un un_neg pe_int)
  refine wpAny_Slice (thn (po_none.run pins s1 σ H1 (fun o H2 => o = none ∧ H2 = H1) I1 ⟨rfl, rfl⟩) fun vl s2 ⟨l, H2, I2, pl, el, e2⟩ => ?_)
  subst el; subst e2
  refine thn (po_none.run pins s2 σ H2 (fun o H3 => o = none ∧ H3 = H2) I2 ⟨rfl, rfl⟩) fun vu s3 ⟨u, H3, I3, pu, eu, e3⟩ => ?_
  subst eu; subst e3
  refine thn (hst.run pins s3 σ H3 (fun o H4 => o = some (-1) ∧ H4 = H3) I3 ⟨1, rfl, -1, rfl, rfl, rfl⟩) fun vs s4 ⟨o, H4, I4, ps, eo, e4⟩ => ?_
  subst eo; subst e4
  cases pl
  cases pu
  have I5 : Inv X pins σ H4 { s4 with heap := s4.heap.push { cls := .type "slice", data := .fields #[.none, .none, vs] } } := I4.kept (t' := s4.toks) fun b ob q => Heap.get?_push_of_some _ q
  obtain ⟨its, r, ht, hz⟩ := I5.tuple hx
  have hlen := r.length
  show wpAny (model X.prog X.w) X.A (subscriptTail e (.Slice none none (some (.UnaryOp .USub (.Constant (.int 1) k p1) p2)) p3) (.ref a) (.ref s4.heap.objs.size)) (EP X pins σ Q) X.xe { s4 with heap := s4.heap.push { cls := .type "slice", data := .fields #[.none, .none, vs] } }
  refine tail_any (ops := [.ref a, .ref s4.heap.objs.size]) ht.typeIs (PyProof.Rows.slot_tuple_getitem.lookup) ?_ (by with_unfolding_all rfl)
  refine getItem_tuple_rev ht (Heap.IsSliceOf.new _ .none .none vs) ps ?_ (by rw [List.size_toArray]; omega)
  refine ⟨.ref _, _, I5.laid (t' := s4.toks) (o := .tup xs.reverse) (fun b ob q => Heap.get?_push_of_some _ q) (Nat.le_refl _) ?_, rfl, q _ (I5.hok.fresh (Nat.le_refl _))⟩
  refine ⟨by rw [List.length_reverse]; exact hz, its.reverse, ?_, IsTup.new _ _⟩
  exact r.reverse
end L2
namespace L2
open PySem PySem.Spec PyProof.Rows
def freshSet (w : World) : Obj := { cls := .type "set", dict := none, data := .set #[] 0 (.fresh 0 0 (!w.params.followText "set-order")) }
section
variable {P : Program} {w : World} {A : Around} {E : Value → Shared → Prop} {s : Shared}
set_option maxRecDepth 100000 in
set_option maxHeartbeats 3200000 in
/-- set(xs), xs a list of ints -/
theorem call_setLst {l : Addr} {items : Array Value} (ns : List Int) {Q : Value → Shared → Prop} (hh : A.handled = none) (hl : s.heap.IsList l items) (hit : IntsAre items.toList ns) (hb : ns.length + 1 < scanBound)
    (h : ∀ (h' : Heap) (tk c : Nat), SetR w h' s.heap.objs.size (fun j => decide (j ∈ ns)) c → c ≤ ns.length → (∀ b o, s.heap.get? b = some o → h'.get? b = some o) → Q (.ref s.heap.objs.size) { s with heap := h', toks := tk }) :
    wpAny (model P w) A (call (.type "set") [Value.ref l]) Q E s := by
  have hisz : items.size = ns.length := by
    have q := IntsAre.length hit; rw [Array.length_toList] at q; exact q
  obtain ⟨c, tl, hmro⟩ := F.called_set.mro; have hmade := F.called_set.made; have hsub := F.called_set.sub
  refine wpAny_call (codeAny_of_tree ?_)
  show wpAny _ _ (callAny (.type "set") _) _ _ _
  refine wpAny_pure ⟨Code.quiet_builtin _ (show _ by decide +kernel), codeAny_builtin F.entry_type_call ?_⟩
  rw [Around.under_plain (weight_type_call_type "set" [Value.ref l] []) rfl]
  have h1 := F.called_set.notType; have h2 := F.called_set.canCreate; have hct := F.typeCall_set_1 (.ref l)
  repeat (any_goals (first | (assumption) | (wp_step)))
  refine codeAny_mono (code_set_led1 (.ref l) (E := E) (Q₁ := fun obj s₁ => obj = .ref s.heap.objs.size ∧ s₁ = { s with heap := s.heap.push (freshSet w) }) ⟨rfl, rfl⟩) fun r s₁ hr => ?_
  rcases r with e | fl
  · exact hr
  · cases fl with
    | ret obj =>
      obtain ⟨rfl, rfl⟩ := hr
      have hS : (s.heap.push (freshSet w)).get? s.heap.objs.size = some (freshSet w) := Heap.get?_push_size _ rfl
      have hT : Shared.TypeIs { s with heap := s.heap.push (freshSet w) } (.ref s.heap.objs.size) "set" := ⟨_, hS, rfl⟩
      have hli := F.called_set.init.lookup; have hbi := F.called_set.init.bind (.ref s.heap.objs.size)
      repeat (any_goals (first | (assumption) | (wp_step)))
      refine codeAny_mono (codeAny_call_builtin (R := wants (fun r s₂ => r = .none ∧ ∃ h' tk c, s₂ = { s with heap := h', toks := tk } ∧ SetR w h' s.heap.objs.size (fun j => decide (j ∈ ns)) c ∧ c ≤ ns.length ∧ (∀ b o, s.heap.get? b = some o → h'.get? b = some o)) E)
        F.called_set.init.plain F.entry_set_init (check_set_init_1 hT ?_)) fun r₂ s₂ hr₂ => ?_
      · obtain ⟨⟨ocls, odict, odata, oslots⟩, hol, hcl, nl, hdl⟩ := hl
        simp only at hcl hdl
        subst hcl hdl
        have hol' : (s.heap.push (freshSet w)).get? l = some { cls := .type "list", dict := odict, data := .seq items nl, slots := oslots } := Heap.get?_push_of_some _ hol
        have hsls := F.sub_list_set; have hslf := F.sub_list_frozenset
        have hne : (Value.type "list" == Value.type "dict") = false := show _ by decide
        have hl1 : (s.heap.push (freshSet w)).IsList l items := ⟨_, hol', rfl, nl, rfl⟩
        unfold Builtin.«set.__init__»; unfold noKeywords; unfold Builtin.Frozenset.updateFrom
        generalize hPI : pyIter = PI
        wp_walk; subst hPI
        refine wpAny_pyIter_list hl1 ?_; refine wpAny_bind (wpAny_runValue ?_)
        have hlS : l < s.heap.objs.size := Heap.lt_size hol
        have hh3 : A.in1.in1.in1.handled = none := by simp [hh]
        have hneI : l ≠ (s.heap.push (freshSet w)).objs.size := by
          rw [Heap.size_push]; exact (Nat.ne_of_lt (Nat.lt_succ_of_lt hlS))
        have hSf : s.heap.objs.size ∉ [(s.heap.push (freshSet w)).objs.size, l] := by
          rw [Heap.size_push]; simp only [List.mem_cons, List.mem_singleton, List.not_mem_nil, or_false, not_or]; exact ⟨Nat.ne_of_lt (Nat.lt_succ_self _), Nat.ne_of_gt hlS⟩
        have hval : ∀ (i : Nat) (v : Value), items[i]? = some v → ∃ k t, ns[i]? = some k ∧ v = .int k t := fun i v hv => by
          have hi : i < ns.length := hisz ▸ (Array.getElem?_eq_some_iff.mp hv).1
          obtain ⟨t, e⟩ := PyProof.Rows.IntsAre.int_at hit i v (by rw [Array.getElem?_toList] <;> exact hv)
          exact ⟨ns[i], t, List.getElem?_eq_getElem hi, by rw [e, List.getD_eq_getElem?_getD, List.getElem?_eq_getElem hi] <;> rfl⟩
        refine set_update_ints ((Walks.list hh3 _ l hneI items).toS) s.heap.objs.size hSf ns hisz hb hval (items.size - 0) 0 _ (by omega) (Nat.zero_le _) ⟨⟨_, Heap.get?_push_size _ rfl, rfl, rfl⟩, (hl1.push _)⟩ ?hS0 ?hR
        case hS0 =>
          have hget : ((s.heap.push (freshSet w)).push { cls := .type "list_iterator", data := .fields #[.ref l, .int 0 0] }).get? s.heap.objs.size = some (freshSet w) := Heap.get?_push_of_some _ hS
          exact ⟨0, (Nat.le_refl 0), setR_new_at hget⟩
        case hR =>
          intro s' c' hm hc' hS'
          obtain ⟨h', g2, d', tk', os'⟩ := s'
          have eg : g2 = s.gens := hm.gens; have ed : d' = s.drawn := hm.drawn; have eo : os' = s.os := hm.os
          subst eg ed eo
          show wpAny _ _ _ _ _ _; refine wpAny_pure ?_
          show wpAny _ _ (ret Value.none) _ _ _; rw [hisz] at hc'
          refine wpAny_pure ⟨rfl, h', tk', c', rfl, hS', hc', fun b o e => hm.heap b o ?_ (Heap.get?_push_of_some _ (Heap.get?_push_of_some _ e))⟩
          have hb0 : b < s.heap.objs.size := Heap.lt_size e
          simp only [List.mem_cons, List.mem_singleton, List.not_mem_nil, or_false, not_or, Heap.size_push]
          exact ⟨Nat.ne_of_lt hb0, Nat.ne_of_lt (Nat.lt_succ_of_lt hb0)⟩
      · rcases r₂ with e | fl₂
        · exact hr₂
        · cases fl₂ with
          | ret r =>
            obtain ⟨rfl, h', tk, c', rfl, hS', hc', hk'⟩ := hr₂
            repeat (any_goals (first | (assumption) | (wp_step)))
            exact (h _ _ _ hS' hc' hk')
          | _ => exact (hr₂.elim)
    | _ => exact (hr.elim)
end
def rSetLst (K : PySem.W.Frag) (w : World) : List V → Hp → VK → Prop := fun vs H Q => ∃ (a : Addr) (ns : List Int), vs = [V.ref a] ∧ SqL K H a (ns.map V.int) ∧ ns.length ≤ 1000 ∧
  ∀ (p : Addr) (c : Nat), H p = none → c ≤ ns.length → Q (.ref p) (upd H p (SetO w p (fun j => decide (j ∈ ns)) c))
theorem cr_setL {X : Cx} (hc : X.calm = true) : CallR X (.type "set") (rSetLst X.K X.w) := by
  intro pins s σ H xs us Q I r h
  obtain ⟨a, ns, rfl, hq, hl, q⟩ := h
  rw [Vals.ref1 r]
  obtain ⟨its, rv, pt, hz⟩ := I.list hq
  have hi : IntsAre its.toArray.toList ns := ints_of_vals rv
  refine call_setLst ns (I.ok.hd hc) pt.isList hi (by unfold scanBound; omega) fun h' tk c R1 hcn k => ?_
  exact ⟨.ref _, upd H s.heap.objs.size (SetO X.w s.heap.objs.size (fun j => decide (j ∈ ns)) c), I.laid (t' := tk) k (Nat.le_refl _) (setO_new R1), rfl, q _ c (I.hok.fresh (Nat.le_refl _)) hcn⟩
/-- len(s) of a set of ints: so many unlike members -/
def rLenSet (w : World) : List V → Hp → VK → Prop := fun vs H Q => ∃ (a : Addr) (S : Int → Bool) (n : Nat), vs = [V.ref a] ∧ H a = some (SetO w a S n) ∧ ((∃ ms : List Int, ms.Nodup ∧ ms.length = n ∧ ∀ k, S k = true ↔ k ∈ ms) → Q (.int (n : Nat)) H)
theorem cr_lenSet {X : Cx} : CallR X (.builtin "len") (rLenSet X.w) := by
  intro pins s σ H vs us Q I r h
  obtain ⟨a, S, n, rfl, ha, q⟩ := h
  obtain ⟨o, es, ep, t, ho, hx, hd, g, nd, hm, hb, hf, hn, _⟩ := setO_get I ha
  rw [Vals.ref1 r]
  refine call_len_set ho hx hd hf (by unfold scanBound at hb; omega) ⟨.int (n : Nat), H, I.tok _, ⟨_, by rw [hn]⟩, q ⟨es.toList.map keyOf, nd, by rw [List.length_map, Array.length_toList]; exact hn, hm⟩⟩
end L2
namespace L2
open PySem
theorem rep_one {α : Type} (z : α) : ∀ m : Nat, (List.replicate m [z]).flatten = List.replicate m z
  | 0 => rfl
  | m + 1 => by rw [List.replicate_succ, List.flatten_cons, rep_one z m, List.replicate_succ] <;> rfl
end L2
namespace Law
open PySem L2
/-! ### tables of ints, and a System's steps over one bottom -/
def frs (ms : List Mv) : List Fr := ms.map (·.1)
def Bm (ms : List Mv) : Nat := lcmAll (frs ms)
def tsM (ms : List Mv) : List Int := topsOf (frs ms) (Bm ms)
/-- a table of many rows, each a list of many ints, no two rows one object -/
structure TabF (H : Hp) (tb : Addr) (ls : List Addr) (many : Nat) (F : Nat → Nat → Int) : Prop where
  len : ls.length = many
  nd : ls.Nodup
  tab : H tb = some (.lst (ls.map V.ref))
  row : ∀ (i : Nat) (l : Addr), ls[i]? = some l → H l = some (.lst (((List.range many).map (F i)).map V.int))
theorem TabF.same {H H' : Hp} {tb : Addr} {ls : List Addr} {many : Nat} {F : Nat → Nat → Int} (h : TabF H tb ls many F) (s : Same H H') : TabF H' tb ls many F := ⟨h.len, h.nd, s _ _ h.tab, fun i l e => s _ _ (h.row i l e)⟩
theorem TabF.cong {H : Hp} {tb : Addr} {ls : List Addr} {many : Nat} {F G : Nat → Nat → Int} (h : TabF H tb ls many F) (e : ∀ i o, i < many → o < many → F i o = G i o) : TabF H tb ls many G := ⟨h.len, h.nd, h.tab, fun i l hi => by
  rw [h.row i l hi]
  have il : i < many := by rw [← h.len]; exact (List.getElem?_eq_some_iff.mp hi).1
  congr 3
  refine List.map_congr_left fun o ho => e i o il (List.mem_range.mp ho)⟩
def bump (F : Nat → Nat → Int) (s o : Nat) (x : Int) : Nat → Nat → Int := fun i q => if i = s ∧ q = o then F s o + x else F i q
theorem TabF.ne {H : Hp} {tb : Addr} {ls : List Addr} {many : Nat} {F : Nat → Nat → Int} (h : TabF H tb ls many F) {i : Nat} {l : Addr} (hi : ls[i]? = some l) : tb ≠ l := fun e => by
  have r := h.row i l hi
  have t := h.tab
  rw [e, r] at t
  have t := Option.some.inj t
  injection t with t
  have il : i < many := by rw [← h.len]; exact (List.getElem?_eq_some_iff.mp hi).1
  have a : (((List.range many).map (F i)).map V.int)[i]? = (ls.map V.ref)[i]? := by rw [t]
  rw [List.getElem?_map, List.getElem?_map, List.getElem?_range il, List.getElem?_map, hi] at a
  cases a
theorem set_range {many : Nat} {f : Nat → Int} {o : Nat} {x : Int} : (((List.range many).map f).map V.int).set o (.int x) = ((List.range many).map fun q => if q = o then x else f q).map V.int := by
  refine List.ext_getElem? fun i => ?_
  rw [List.getElem?_set, List.getElem?_map, List.getElem?_map, List.getElem?_map, List.getElem?_map, List.length_map, List.length_map, List.length_range]
  by_cases il : i < many
  · rw [List.getElem?_range il]
    by_cases e : o = i
    · subst e
      simp [il]
    · simp [e, Ne.symm e]
  · rw [List.getElem?_eq_none (by rw [List.length_range]; omega)]
    by_cases e : o = i
    · subst e
      simp [il]
    · simp [e]
theorem TabF.put {H : Hp} {tb : Addr} {ls : List Addr} {many : Nat} {F : Nat → Nat → Int} (h : TabF H tb ls many F) {s o : Nat} {l : Addr} (hs : ls[s]? = some l) (x : Int) :
    TabF (upd H l (.lst ((((List.range many).map (F s)).map V.int).set o (.int (F s o + x))))) tb ls many (bump F s o x) := ⟨h.len, h.nd, by rw [upd_ne (h.ne hs)]; exact h.tab, fun i m hi => by
  by_cases e : m = l
  · subst e
    have es : i = s := by
      obtain ⟨a1, a2⟩ := List.getElem?_eq_some_iff.mp hi
      obtain ⟨b1, b2⟩ := List.getElem?_eq_some_iff.mp hs
      exact (List.getElem_inj h.nd).mp (a2.trans b2.symm)
    subst es
    rw [upd_same, set_range]
    congr 3
    refine List.map_congr_left fun q _ => ?_
    unfold bump
    by_cases e : q = o
    · rw [if_pos e, if_pos ⟨rfl, e⟩]
    · rw [if_neg e, if_neg fun z => e z.2]
  · have es : i ≠ s := fun z => by
      subst z
      rw [hi] at hs
      exact e (Option.some.inj hs)
    rw [upd_ne e, h.row i m hi]
    congr 3
    refine List.map_congr_left fun q _ => ?_
    unfold bump
    rw [if_neg fun z => es z.1]⟩
/-- from state s to state o by the first moves: the sum of their tops -/
def cellF (ts : List Int) (Ls : List (List Int)) (s o : Nat) : Int := ((ts.zip Ls).map fun p => if p.2[s]? = some ((o : Nat) : Int) then p.1 else 0).sum
theorem cellF_snoc {ts : List Int} {Ls : List (List Int)} {t : Int} {l : List Int} (h : ts.length = Ls.length) (s o : Nat) : cellF (ts ++ [t]) (Ls ++ [l]) s o = cellF ts Ls s o + if l[s]? = some ((o : Nat) : Int) then t else 0 := by
  unfold cellF
  rw [List.zip_append h, List.map_append, List.sum_append]
  show _ + (_ + 0) = _
  rw [Int.add_zero]
section
variable {P : Program} {w : World} {K : PySem.W.Frag} {mg : Str → Option Value} {base : Heap}
def spStepT (K : PySem.W.Frag) (C : Addr) : Sp := fun vs H Q _ => ∃ (sy : Addr) (many : Nat) (ms : List Mv), vs = [.ref sy] ∧ SysAt K C H sy many ms ∧ SysOk many ms ∧
  ∀ t tb ls H', Same H H' → H' t = some (.tup [.int (Bm ms : Nat), .ref tb]) → TabF H' tb ls many (cellF (tsM ms) (ms.map (·.2))) → Q (.ref t) H'
abbrev nStepTops : List Str := ["system", "bottom", "tops", "table", "top", "_", "leads", "state", "other", "share"]
theorem scStepTops : FnScope nStepTops ["system"] (defScope s_step_tops) := ⟨rfl, rfl, rfl, by decide +kernel, rfl, by decide +kernel, by decide +kernel⟩
theorem ok_step_tops {f : Addr} {fd : FuncData} {fcComB : Addr} {fdcComB : FuncData} {fcTops : Addr} {fdcTops : FuncData} {C : Addr} (F : Fun K "step_tops" "step_tops" s_step_tops f fd) (T : NmA mg) (cComB : Cl P w K mg base CX0 1 "common_bottom" fcComB fdcComB ["fractions"] (spComB K)) (cTops : Cl P w K mg base CX0 1 "tops_over" fcTops fdcTops ["fractions", "bottom"] (spTops K)) (S : SysT K mg C) : FnOk P w K mg base CX0 2 f fd ["system"] (spStepT K C) := by
  refine F.ok scStepTops (fun vs H Q E h => ?_) (fun cdv A' outer s H vs Q E hr h => ?_)
  · obtain ⟨sy, many, ms, rfl, _⟩ := h
    rfl
  · obtain ⟨sy, many, ms, rfl, hS, ok, k⟩ := h
    have hu := hu_of hr
    refine ⟨_, pss_cons (ps_set (i := 1) scStepTops.nd rfl (Or.inl rfl) (cComB.call (hr.mono (by decide)) (pa_cons (pe_lc (own := [("_", 5), ("share", 9)]) (g := (gTup K 2 (gCons (gName 9) (gCons (gName 5) gNil)))) (tt := tYes) rfl scStepTops.nd  (pi_tup (pe_fld (pv 0) rfl)) (blkOk_by (own := [("_", 5), ("share", 9)]) (N := nStepTops) (sc := defScope s_step_tops) (by decide +kernel)) (fun _ _ _ _ _ => (pg_tup (by rfl) (pgs_cons (pg_name (i := 9) scStepTops.nd rfl (Or.inl rfl)) (pgs_cons (pg_name (i := 5) scStepTops.nd rfl (Or.inl rfl)) pgs_nil)))) (fun _ _ _ _ _ => pts_nil) (fun _ _ _ _ _ => (pv 9))) pa_nil)))
      (pss_cons (ps_set (i := 2) scStepTops.nd rfl (Or.inl rfl) (cTops.call (hr.mono (by decide)) (pa_cons (pe_lc (own := [("_", 5), ("share", 9)]) (g := (gTup K 2 (gCons (gName 9) (gCons (gName 5) gNil)))) (tt := tYes) rfl scStepTops.nd  (pi_tup (pe_fld (pv 0) rfl)) (blkOk_by (own := [("_", 5), ("share", 9)]) (N := nStepTops) (sc := defScope s_step_tops) (by decide +kernel)) (fun _ _ _ _ _ => (pg_tup (by rfl) (pgs_cons (pg_name (i := 9) scStepTops.nd rfl (Or.inl rfl)) (pgs_cons (pg_name (i := 5) scStepTops.nd rfl (Or.inl rfl)) pgs_nil)))) (fun _ _ _ _ _ => pts_nil) (fun _ _ _ _ _ => (pv 9))) (pa_cons (pv 1) pa_nil))))
      (pss_cons (ps_setLc (i := 3) (own := [("_", 5)]) (g := (gName 5)) (tt := tYes) (by rfl) scStepTops.nd rfl rfl (sw_true rfl rfl rfl (by decide +kernel)) (pi_range1 (by rfl) T.range (pa_cons (pe_fld (pv 0) rfl) pa_nil)) (blkOk_by (own := [("_", 5)]) (N := nStepTops) (sc := defScope s_step_tops) (by decide +kernel)) (fun _ _ _ _ _ => (pg_name (i := 5) scStepTops.nd rfl (Or.inl rfl))) (fun _ _ _ _ _ => pts_nil) (fun _ _ _ _ _ => (pe_op (r := rRep) (show OpR _ (binaryOp .Mult) rRep from op_rep) (pe_lst (pa_cons pe_int pa_nil)) (show PE _ _ (tFld K (tVar 0) "many") from pe_fld (pv 0) rfl))))
      (pss_cons (ps_for PassesOwn.never rfl (pi_zipM (by rfl) T.zip (pa_cons (pv 2) (pa_cons (pe_fld (pv 0) rfl) pa_nil))) (pg_tup (by rfl) (pgs_cons (pg_name (i := 4) scStepTops.nd rfl (Or.inl rfl)) (pgs_cons (pg_tup (by rfl) (pgs_cons (pg_name (i := 5) scStepTops.nd rfl (Or.inl rfl)) (pgs_cons (pg_name (i := 6) scStepTops.nd rfl (Or.inl rfl)) pgs_nil))) pgs_nil)))
        (pss_one (ps_for PassesOwn.never rfl (pi_enumT (by rfl) T.enum (pa_cons (pv 6) pa_nil)) (pg_tup (by rfl) (pgs_cons (pg_name (i := 7) scStepTops.nd rfl (Or.inl rfl)) (pgs_cons (pg_name (i := 8) scStepTops.nd rfl (Or.inl rfl)) pgs_nil)))
          (pss_one (ps_augS (pe_ix ix_list (pv 3) (pv 7) (fun _ _ => rfl)) (pv 8) get_list (pv 4) ip_add set_list)))))
      (pss_one (ps_ret (pe_tup (pa_cons (pv 1) (pa_cons (pv 3) pa_nil)))))))), ?_⟩
    obtain ⟨dx, mv, hp, vs, hV, hM⟩ := id hS
    have l24 := ok.l2
    have fo : ∀ f ∈ frs ms, FrOk f := fun f hf => by
      obtain ⟨m, hm, rfl⟩ := List.mem_map.mp hf
      exact (ok.mv m hm).1
    have fl : (frs ms).length ≤ 24 := by
      unfold frs
      rw [List.length_map]
      exact l24
    have vl := hM.1
    have hm1 := ok.m1
    have hm2 := ok.m2
    have shr : ∀ (H0 : Hp), Same H H0 → ∀ D, H0 D = none → ∀ (i : Nat) (x : V) (H2 : Hp), vs[i]? = some x → (Same H0 H2 ∧ ∃ acc, H2 D = some (.lst acc) ∧ FrsIn K H2 acc ((ms.take i).map (·.1))) →
        ∃ (m : Mv) (a t l : Addr) (acc : List V), x = .ref a ∧ SqT K H2 a [.ref t, .ref l] ∧ H2 D = some (.lst acc) ∧ acc.length < sizeLine ∧ (Same H0 (upd H2 D (.lst (acc ++ [.ref t]))) ∧ ∃ acc', (upd H2 D (.lst (acc ++ [.ref t]))) D = some (.lst acc') ∧ FrsIn K (upd H2 D (.lst (acc ++ [.ref t]))) acc' ((ms.take (i + 1)).map (·.1))) := by
      rintro H0 s0 D hD i x H2 hi ⟨s2, acc, h1, h2⟩
      obtain ⟨m, hm, a, t, l, rfl, hA, hT, hL⟩ := hM.2 i x hi
      have hil : i < ms.length := (List.getElem?_eq_some_iff.mp hm).1
      have s02 := s0.trans s2
      have hz : acc.length = i := by
        have z := h2.1
        rw [List.length_map, List.length_take] at z
        omega
      refine ⟨m, a, t, l, acc, rfl, s02.sqT hA, h1, small1000 (by omega), s2.mut hD, _, upd_same, ?_⟩
      rw [List.take_add_one, hm, List.map_append]
      exact h2.snoc h1 ⟨t, rfl, s02.sqT hT⟩
    refine ⟨_, rfl, sy, C, dx, _, _, rfl, hp, S.cl, S.nM, sysF_moves _ _, mv, rfl, ⟨_, hV⟩, fun D1 hD1 => ?_⟩
    refine lc_tup (K := K) (a := mv) (xs := vs) (fun i H' => Same H H' ∧ ∃ acc, H' D1 = some (.lst acc) ∧ FrsIn K H' acc ((ms.take i).map (·.1))) ⟨Same.new hD1, [], upd_same, rfl, fun i v hv => by simp at hv⟩ (fun i H' _ h => h.1.sqT hV) (fun i x H2 hi g => ?_) fun H1 g => ?_
    · obtain ⟨m, a, t, l, acc, rfl, hA, e1, e2, e3⟩ := shr H (Same.refl H) D1 hD1 i x H2 hi g
      exact ⟨a, _, rfl, hA, rfl, _, _, rfl, _, _, rfl, rfl, rfl, _, rfl, acc, e1, e2, e3⟩
    obtain ⟨s1, acc1, g1, g2⟩ := g
    rw [vl, List.take_length] at g2
    refine ⟨D1, frs ms, rfl, ⟨acc1, SqL.of g1, g2⟩, fl, fo, ?_⟩
    refine ⟨_, rfl, sy, C, dx, _, _, rfl, s1 _ _ hp, S.cl, S.nM, sysF_moves _ _, mv, rfl, ⟨_, s1.sqT hV⟩, fun D2 hD2 => ?_⟩
    refine lc_tup (K := K) (a := mv) (xs := vs) (fun i H' => Same H1 H' ∧ ∃ acc, H' D2 = some (.lst acc) ∧ FrsIn K H' acc ((ms.take i).map (·.1))) ⟨Same.new hD2, [], upd_same, rfl, fun i v hv => by simp at hv⟩ (fun i H' _ h => h.1.sqT (s1.sqT hV)) (fun i x H2 hi g => ?_) fun H2 g => ?_
    · obtain ⟨m, a, t, l, acc, rfl, hA, e1, e2, e3⟩ := shr H1 s1 D2 hD2 i x H2 hi g
      exact ⟨a, _, rfl, hA, rfl, _, _, rfl, _, _, rfl, rfl, rfl, _, rfl, acc, e1, e2, e3⟩
    obtain ⟨s2, acc2, g3, g4⟩ := g
    rw [vl, List.take_length] at g4
    refine ⟨_, rfl, D2, frs ms, _, rfl, ⟨acc2, SqL.of g3, g4⟩, fl, fo, fun tp H3 htp s3 h3 => ?_⟩
    have s13 := (s1.trans s2).trans s3
    have tl : (tsM ms).length = ms.length := by
      unfold tsM topsOf frs
      rw [List.length_map, List.length_map]
    change H3 tp = some (.lst ((tsM ms).map V.int)) at h3
    generalize tsM ms = ts at h3 tl k
    clear shr
    -- the table of zeros
    refine ⟨_, rfl, sy, C, dx, _, _, rfl, s13 _ _ hp, S.cl, S.nK, sysF_many _ _, (many : Int), rfl, by omega, by omega, fun D hD => ?_⟩
    refine lc_range (lo := 0) (n := many) (fun i H' => Same H3 H' ∧ ∃ ls : List Addr, ls.length = i ∧ ls.Nodup ∧ H' D = some (.lst (ls.map V.ref)) ∧ ∀ l ∈ ls, H3 l = none ∧ l ≠ D ∧ H' l = some (.lst (List.replicate many (.int 0))))
      ⟨Same.new hD, [], rfl, List.nodup_nil, upd_same, fun l hl => absurd hl List.not_mem_nil⟩ (fun i H' hi g => ?_) fun H4 g => ?_
    · obtain ⟨t4, ls, l1, l2, l3, l4⟩ := g
      refine ⟨rfl, by show 1 ≤ sizeLine; decide, fun q hq => ⟨_, rfl, sy, C, dx, _, _, rfl, (Same.new hq) _ _ (t4 _ _ (s13 _ _ hp)), S.cl, S.nK, sysF_many _ _, ?_⟩⟩
      refine ⟨q, (many : Int), [.int 0], rfl, rfl, upd_same, by omega, by omega, Nat.le_of_lt (small1000 (show 1 * (many : Int).toNat ≤ 1000 by omega)), fun p hp' => ?_⟩
      have eq : (List.replicate (many : Int).toNat [V.int 0]).flatten = List.replicate many (.int 0) := by
        rw [Int.toNat_natCast]
        exact rep_one _ _
      rw [eq]
      have t5 : Same H' (upd (upd H' q (.lst [.int 0])) p (.lst (List.replicate many (.int 0)))) := (Same.new hq).trans (Same.new hp')
      have gp : (upd (upd H' q (.lst [.int 0])) p (.lst (List.replicate many (.int 0)))) p = some (.lst (List.replicate many (.int 0))) := upd_same
      have fp : H' p = none := by
        by_cases e : p = q
        · rw [e]; exact hq
        · rw [upd_ne e] at hp'; exact hp'
      generalize upd (upd H' q (.lst [.int 0])) p (.lst (List.replicate many (.int 0))) = H5 at t5 gp ⊢
      have t35 := t4.trans t5
      have pD : p ≠ D := fun e => by rw [e, l3] at fp; cases fp
      have f3 : H3 p = none := by
        cases e : H3 p with
        | none => rfl
        | some o => rw [t4 _ _ e] at fp; cases fp
      refine ⟨ls.map V.ref, t5 _ _ l3, by rw [List.length_map]; exact small1000 (by omega), t35.mut hD, ls ++ [p], by rw [List.length_append, l1] <;> rfl, ?_, by rw [upd_same, List.map_append] <;> rfl, fun l hl => ?_⟩
      · refine List.nodup_append.mpr ⟨l2, List.nodup_cons.mpr ⟨List.not_mem_nil, List.nodup_nil⟩, fun x hx y hy e => ?_⟩
        rw [List.mem_singleton.mp hy] at e
        subst e
        rw [(l4 _ hx).2.2] at fp
        cases fp
      · rcases List.mem_append.mp hl with hl | hl
        · obtain ⟨a1, a2, a3⟩ := l4 l hl
          exact ⟨a1, a2, by rw [upd_ne a2]; exact t5 _ _ a3⟩
        · rw [List.mem_singleton.mp hl]
          exact ⟨f3, pD, by rw [upd_ne pD]; exact gp⟩
    obtain ⟨t4, ls, l1, l2, l3, l4⟩ := g
    have T0 : TabF H4 D ls many fun _ _ => 0 := ⟨l1, l2, l3, fun i l hi => by
      rw [(l4 l (List.mem_of_getElem? hi)).2.2]
      congr 2
      refine (List.eq_replicate_iff.mpr ⟨?_, ?_⟩).symm
      · rw [List.length_map, List.length_map, List.length_range]
      · intro b hb
        obtain ⟨z, hz, rfl⟩ := List.mem_map.mp hb
        obtain ⟨_, _, rfl⟩ := List.mem_map.mp hz
        rfl⟩
    have fr : ∀ l ∈ ls, H3 l = none := fun l hl => (l4 l hl).1
    clear l3 l4
    -- the moves
    refine ⟨_, rfl, _, rfl, sy, C, dx, _, _, rfl, t4 _ _ (s13 _ _ hp), S.cl, S.nM, sysF_moves _ _, tp, mv, ts.map V.int, vs, rfl, SqL.of (t4 _ _ h3), t4.sqT (s13.sqT hV), ?_⟩
    refine for_zipM (by rw [List.length_map, tl, vl]) (fun i σ H' => Same H3 H' ∧ TabF H' D ls many (cellF (ts.take i) ((ms.map (·.2)).take i)) ∧ ∃ u4 u5 u6 u7 u8 : Option V, σ = [some (.ref sy), some (.int (Bm ms : Nat)), some (.ref tp), some (.ref D), u4, u5, u6, u7, u8, none])
      ⟨t4, T0.cong fun i o _ _ => rfl, _, _, _, _, _, rfl⟩ (fun i σ H' g => ⟨SqL.of (g.1 _ _ h3), g.1.sqT (s13.sqT hV)⟩) ?_ ?_
    · rintro i x y q σ H5 hx hy ⟨t5, T5, u4, u5, u6, u7, u8, rfl⟩ hq
      obtain ⟨m, hm, a, st, l, rfl, hA, hT, hL⟩ := hM.2 i y hy
      rw [List.getElem?_map] at hx
      obtain ⟨top, htop, rfl⟩ := Option.map_eq_some_iff.mp hx
      obtain ⟨_, _, _, mlen, mlt⟩ := ok.mv m (List.mem_of_getElem? hm)
      have t6 : Same H3 (upd H5 q (.tup [.int top, .ref a])) := t5.trans (Same.new hq)
      have T6 := T5.same (Same.new (o := .tup [.int top, .ref a]) hq)
      have gq : (upd H5 q (.tup [.int top, .ref a])) q = some (.tup [.int top, .ref a]) := upd_same
      generalize upd H5 q (.tup [.int top, .ref a]) = H6 at t6 T6 gq ⊢
      have hA6 := t6.sqT (s13.sqT hA)
      refine ⟨q, _, rfl, SqT.of gq, rfl, _, _, rfl, _, _, rfl, a, _, rfl, hA6, rfl, _, _, rfl, _, _, rfl, rfl, rfl, ?_⟩
      refine ⟨_, rfl, l, _, rfl, t6.sqT (s13.sqT hL), for_it walk_enumT (fun j σ H' => Same H3 H' ∧ TabF H' D ls many (fun s o => cellF (ts.take i) ((ms.map (·.2)).take i) s o + if s < j ∧ m.2[s]? = some ((o : Nat) : Int) then top else 0) ∧ ∃ u7 u8 : Option V, σ = [some (.ref sy), some (.int (Bm ms : Nat)), some (.ref tp), some (.ref D), some (.int top), some (.ref st), some (.ref l), u7, u8, none])
        ⟨t6, T6.cong fun s o _ _ => by rw [if_neg (fun z => absurd z.1 (Nat.not_lt_zero _)), Int.add_zero], _, _, rfl⟩ (fun j σ H' _ g => g.1.sqT (s13.sqT hL)) ?_ ?_⟩
      · rintro j x σ H7 H8 hj ⟨t7, T7, u7, u8, rfl⟩ ⟨t, y, rfl, ht, rfl, hy⟩
        rw [List.getElem?_map] at hy
        obtain ⟨z, hz, rfl⟩ := Option.map_eq_some_iff.mp hy
        obtain ⟨z0, z1⟩ := mlt z (List.mem_of_getElem? hz)
        obtain ⟨o, rfl⟩ := Int.eq_ofNat_of_zero_le z0
        have om : o < many := by omega
        rw [List.length_map, mlen] at hj
        have T8 := T7.same (Same.new (o := .tup [.int (j : Nat), .int (o : Int)]) ht)
        have t8 : Same H3 (upd H7 t (.tup [.int (j : Nat), .int (o : Int)])) := t7.trans (Same.new ht)
        have gt : (upd H7 t (.tup [.int (j : Nat), .int (o : Int)])) t = some (.tup [.int (j : Nat), .int (o : Int)]) := upd_same
        generalize upd H7 t (.tup [.int (j : Nat), .int (o : Int)]) = H8 at T8 t8 gt ⊢
        refine ⟨t, _, rfl, SqT.of gt, rfl, _, _, rfl, _, _, rfl, rfl, ?_⟩
        have jl : j < ls.length := by rw [l1]; exact hj
        have rj : ls[j]? = some ls[j] := List.getElem?_eq_getElem jl
        have row := T8.row j _ rj
        have len : (((List.range many).map fun o => cellF (ts.take i) ((ms.map (·.2)).take i) j o + if j < j ∧ m.2[j]? = some ((o : Nat) : Int) then top else 0).map V.int).length = many := by
          rw [List.length_map, List.length_map, List.length_range]
        refine ⟨_, rfl, _, rfl, D, _, (j : Int), .ref ls[j], rfl, rfl, SqL.of T8.tab, atI_nat (by rw [List.getElem?_map, rj] <;> rfl), ?_⟩
        refine ⟨_, rfl, ls[j], _, o, _, rfl, rfl, SqL.of row, by rw [List.getElem?_map, List.getElem?_map, List.getElem?_range om] <;> rfl, ?_⟩
        refine ⟨_, rfl, _, _, rfl, rfl, ls[j], _, _, o, rfl, rfl, row, Evl.ixN_nat (by rw [len]; exact om), ?_⟩
        refine ⟨t8.mut (fr _ (List.getElem_mem jl)), (T8.put rj top).cong fun s q sm qm => ?_, _, _, rfl⟩
        show bump _ j o top s q = _
        unfold bump
        dsimp only
        by_cases e : s = j ∧ q = o
        · obtain ⟨rfl, rfl⟩ := e
          rw [if_pos ⟨rfl, rfl⟩, if_neg (fun z => Nat.lt_irrefl _ z.1), if_pos ⟨Nat.lt_succ_self _, hz⟩, Int.add_zero]
        · rw [if_neg e]
          by_cases e2 : s = j
          · subst e2
            have qo : q ≠ o := fun z => e ⟨rfl, z⟩
            rw [if_neg (fun z => Nat.lt_irrefl _ z.1), if_neg (fun z => ?_)]
            have z2 := z.2
            rw [hz] at z2
            have z2 := Option.some.inj z2
            omega
          · by_cases e3 : s < j ∧ m.2[s]? = some ((q : Nat) : Int)
            · rw [if_pos e3, if_pos ⟨by omega, e3.2⟩]
            · rw [if_neg e3, if_neg fun z => e3 ⟨by have := z.1; omega, z.2⟩]
      · rintro σ H7 ⟨t7, T7, u7, u8, rfl⟩
        refine ⟨t7, T7.cong fun s o sm om => ?_, _, _, _, _, _, rfl⟩
        have il : i < ts.length := (List.getElem?_eq_some_iff.mp htop).1
        rw [List.take_add_one, htop, List.take_add_one, List.getElem?_map, hm]
        show _ = cellF (ts.take i ++ [top]) ((ms.map (·.2)).take i ++ [m.2]) s o
        rw [cellF_snoc (by rw [List.length_take, List.length_take, List.length_map]; omega)]
        by_cases e : m.2[s]? = some ((o : Nat) : Int)
        · rw [if_pos e, if_pos ⟨by rw [List.length_map, mlen]; exact sm, e⟩]
        · rw [if_neg e, if_neg fun z => e z.2]
    · rintro σ H5 ⟨t5, T5, u4, u5, u6, u7, u8, rfl⟩
      refine ⟨_, rfl, _, rfl, by show 2 ≤ sizeLine; decide, fun t ht => k t D ls _ ((s13.trans t5).trans (Same.new ht)) upd_same ((T5.same (Same.new ht)).cong fun s o _ _ => ?_)⟩
      rw [List.length_map, List.take_of_length_le (Nat.le_refl _), List.take_of_length_le (by rw [List.length_map, tl]; exact Nat.le_refl _)]
end
end Law

namespace Law
open PySem L2
/-! ### tuples of fractions, rows of such -/
theorem bm_pos {many : Nat} {ms : List Mv} (ok : SysOk many ms) : 0 < Bm ms := (lcm_fold (frs ms) 1 (by decide) fun f hf => by
  obtain ⟨m, hm, rfl⟩ := List.mem_map.mp hf
  exact (ok.mv m hm).1).1
theorem ts_nn {many : Nat} {ms : List Mv} (ok : SysOk many ms) : ∀ t ∈ tsM ms, 0 ≤ t := fun t ht => by
  obtain ⟨f, hf, rfl⟩ := List.mem_map.mp ht
  obtain ⟨m, hm, rfl⟩ := List.mem_map.mp hf
  obtain ⟨⟨a1, _⟩, a2, _⟩ := ok.mv m hm
  exact Int.mul_nonneg (Int.le_of_lt a2) (Int.ediv_nonneg (Int.natCast_nonneg _) (Int.le_of_lt a1))
theorem sum_nn : ∀ {xs : List Int}, (∀ x ∈ xs, 0 ≤ x) → 0 ≤ xs.sum
  | [], _ => Int.le_refl _
  | x :: xs, h => by
    rw [List.sum_cons]
    exact Int.add_nonneg (h x List.mem_cons_self) (sum_nn fun y hy => h y (List.mem_cons_of_mem _ hy))
theorem cell_nn {ts : List Int} {Ls : List (List Int)} (h : ∀ t ∈ ts, 0 ≤ t) (s o : Nat) : 0 ≤ cellF ts Ls s o := sum_nn fun x hx => by
  obtain ⟨p, hp, rfl⟩ := List.mem_map.mp hx
  by_cases e : p.2[s]? = some ((o : Nat) : Int)
  · rw [if_pos e]
    exact h _ (List.of_mem_zip hp).1
  · rw [if_neg e]
    exact Int.le_refl _
def FrT (K : PySem.W.Frag) (H : Hp) (v : V) (fs : List Fr) : Prop := ∃ a xs, v = .ref a ∧ SqT K H a xs ∧ FrsIn K H xs fs
def RowsIn (K : PySem.W.Frag) (H : Hp) (vs : List V) (rows : List (List Fr)) : Prop := vs.length = rows.length ∧ ∀ (i : Nat) (v : V), vs[i]? = some v → ∃ fs, rows[i]? = some fs ∧ FrT K H v fs
theorem FrsIn.updL {K : PySem.W.Frag} {H : Hp} {D : Addr} {acc vs : List V} {o : HO} {fs : List Fr} (h : FrsIn K H vs fs) (hD : H D = some (.lst acc)) : FrsIn K (upd H D o) vs fs := ⟨h.1, fun i v hv => by
  obtain ⟨f, h1, s, h2, h3⟩ := h.2 i v hv
  exact ⟨f, h1, s, h2, sqT_upd hD h3⟩⟩
theorem FrT.updL {K : PySem.W.Frag} {H : Hp} {D : Addr} {acc : List V} {v : V} {o : HO} {fs : List Fr} (h : FrT K H v fs) (hD : H D = some (.lst acc)) : FrT K (upd H D o) v fs := by
  obtain ⟨a, xs, h1, h2, h3⟩ := h
  exact ⟨a, xs, h1, sqT_upd hD h2, h3.updL hD⟩
theorem FrT.same {K : PySem.W.Frag} {H H' : Hp} {v : V} {fs : List Fr} (h : FrT K H v fs) (s : Same H H') : FrT K H' v fs := by
  obtain ⟨a, xs, h1, h2, h3⟩ := h
  exact ⟨a, xs, h1, s.sqT h2, h3.same s⟩
theorem RowsIn.same {K : PySem.W.Frag} {H H' : Hp} {vs : List V} {rows : List (List Fr)} (h : RowsIn K H vs rows) (s : Same H H') : RowsIn K H' vs rows := ⟨h.1, fun i v hv => by
  obtain ⟨fs, h1, h2⟩ := h.2 i v hv
  exact ⟨fs, h1, h2.same s⟩⟩
theorem RowsIn.snoc {K : PySem.W.Frag} {H : Hp} {D : Addr} {acc : List V} {rows : List (List Fr)} {v : V} {fs : List Fr} (h : RowsIn K H acc rows) (hD : H D = some (.lst acc)) (hv : FrT K H v fs) : RowsIn K (upd H D (.lst (acc ++ [v]))) (acc ++ [v]) (rows ++ [fs]) := ⟨by rw [List.length_append, List.length_append, h.1] <;> rfl, fun i u hu => by
  rcases snoc_get hu with ⟨il, e⟩ | ⟨il, rfl⟩
  · obtain ⟨gs, h1, h2⟩ := h.2 i u e
    exact ⟨gs, by rw [List.getElem?_append_left (h.1 ▸ il)]; exact h1, h2.updL hD⟩
  · subst il
    exact ⟨fs, by rw [h.1, List.getElem?_append_right (Nat.le_refl _), Nat.sub_self] <;> rfl, hv.updL hD⟩⟩
theorem FrsIn.nil {K : PySem.W.Frag} {H : Hp} : FrsIn K H [] [] := ⟨rfl, fun i v hv => by simp at hv⟩
theorem RowsIn.nil {K : PySem.W.Frag} {H : Hp} : RowsIn K H [] [] := ⟨rfl, fun i v hv => by simp at hv⟩
theorem map_snoc {α : Type} (f : Nat → α) (i : Nat) : (List.range (i + 1)).map f = (List.range i).map f ++ [f i] := by
  rw [List.range_succ, List.map_append] <;> rfl
/-- the fractions of a row of tops over one bottom -/
def rowF (F : Nat → Nat → Int) (B : Nat) (many s : Nat) : List Fr := (List.range many).map fun o => lowP (F s o) B
def stepsF (many : Nat) (ms : List Mv) : List (List Fr) := (List.range many).map (rowF (cellF (tsM ms) (ms.map (·.2))) (Bm ms) many)
section
variable {P : Program} {w : World} {K : PySem.W.Frag} {mg : Str → Option Value} {base : Heap}
def spSteps (K : PySem.W.Frag) (C : Addr) : Sp := fun vs H Q _ => ∃ (sy : Addr) (many : Nat) (ms : List Mv), vs = [.ref sy] ∧ SysAt K C H sy many ms ∧ SysOk many ms ∧
  ∀ t xs H', Same H H' → H' t = some (.tup xs) → RowsIn K H' xs (stepsF many ms) → Q (.ref t) H'
abbrev nSteps : List Str := ["system", "bottom", "table", "row", "top"]
theorem scSteps : FnScope nSteps ["system"] (defScope s_steps) := ⟨rfl, rfl, rfl, by decide +kernel, rfl, by decide +kernel, by decide +kernel⟩
theorem ok_steps {f : Addr} {fd : FuncData} {fcStepT : Addr} {fdcStepT : FuncData} {fcFrc : Addr} {fdcFrc : FuncData} {C : Addr} (F : Fun K "steps" "steps" s_steps f fd) (T : NmA mg) (cStepT : Cl P w K mg base CX0 2 "step_tops" fcStepT fdcStepT ["system"] (spStepT K C)) (cFrc : Cl P w K mg base CX0 34 "fraction" fcFrc fdcFrc ["top", "bottom"] spLow) : FnOk P w K mg base CX0 35 f fd ["system"] (spSteps K C) := by
  refine F.ok scSteps (fun vs H Q E h => ?_) (fun cdv A' outer s H vs Q E hr h => ?_)
  · obtain ⟨sy, many, ms, rfl, _⟩ := h
    rfl
  · obtain ⟨sy, many, ms, rfl, hS, ok, k⟩ := h
    have hu := hu_of hr
    refine ⟨_, pss_cons (ps_asg (cStepT.call (hr.mono (by decide)) (pa_cons (pv 0) pa_nil)) (pg_tup (by rfl) (pgs_cons (pg_name (i := 1) scSteps.nd rfl (Or.inr rfl)) (pgs_cons (pg_name (i := 2) scSteps.nd rfl (Or.inl rfl)) pgs_nil))))
      (pss_one (ps_ret (pe_callTy call_tuple_of (by rfl) T.tuple (by decide +kernel) (pa_cons (pe_lc (own := [("row", 3)]) (g := (gName 3)) (tt := tYes) rfl scSteps.nd  (pi_list (pv 2)) (blkOk_by (own := [("row", 3)]) (N := nSteps) (sc := defScope s_steps) (by decide +kernel)) (fun _ _ _ _ _ => (pg_name (i := 3) scSteps.nd rfl (Or.inl rfl))) (fun _ _ _ _ _ => pts_nil) (fun _ _ _ _ _ => (pe_callTy (r := rTupOf K) (show CallR _ (.type "tuple") (rTupOf K) from call_tuple_of) (by rfl) T.tuple (by decide +kernel) (pa_cons (pe_lc (own := [("top", 4)]) (g := (gName 4)) (tt := tYes) rfl scSteps.nd  (show PI _ _ _ (iList K _) from pi_list (pv 3)) (blkOk_by (own := [("top", 4)]) (N := nSteps) (sc := ({ kind := .function, names := [(".0", .local), ("row", .local), ("tuple", .globalImplicit), ("bottom", .cell)], isGenerator := false, isCoroutine := false } : Scope)) (by decide +kernel)) (fun _ _ _ _ _ => (pg_name (i := 4) scSteps.nd rfl (Or.inl rfl))) (fun _ _ _ _ _ => pts_nil) (fun _ _ _ _ _ => (cFrc.call (hr.mono (by decide)) (pa_cons (pv 4) (pa_cons (pv 1) pa_nil))))) pa_nil)))) pa_nil)))), ?_⟩
    have m12 := ok.m2
    have bp := bm_pos ok
    refine ⟨_, rfl, sy, many, ms, rfl, hS, ok, fun t tb ls H1 s1 h1 T1 => ?_⟩
    have cn : ∀ s o, 0 ≤ cellF (tsM ms) (ms.map (·.2)) s o := cell_nn (ts_nn ok)
    unfold stepsF at k
    generalize cellF (tsM ms) (ms.map (·.2)) = G at T1 k cn
    refine ⟨t, _, rfl, SqT.of h1, rfl, _, _, rfl, _, _, rfl, rfl, ?_⟩
    refine ⟨_, rfl, tb, rfl, ⟨_, SqL.of T1.tab⟩, fun D hD => ?_⟩
    refine lc_list (K := K) (a := tb) (xs := ls.map V.ref) (fun i H' => Same H1 H' ∧ ∃ acc, H' D = some (.lst acc) ∧ RowsIn K H' acc ((List.range i).map (rowF G (Bm ms) many))) ⟨Same.new hD, [], upd_same, RowsIn.nil⟩ (fun i H' _ g => SqL.of (g.1 _ _ T1.tab)) (fun i x H2 hi g => ?_) fun H2 g => ?_
    · obtain ⟨s2, acc, g1, g2⟩ := g
      rw [List.getElem?_map] at hi
      obtain ⟨l, hl, rfl⟩ := Option.map_eq_some_iff.mp hi
      have row := s2 _ _ (T1.row i l hl)
      have il : i < many := by rw [← T1.len]; exact (List.getElem?_eq_some_iff.mp hl).1
      have al : acc.length = i := by rw [g2.1, List.length_map, List.length_range]
      refine ⟨rfl, _, rfl, l, rfl, ⟨_, SqL.of row⟩, fun D2 hD2 => ?_⟩
      refine lc_list (K := K) (a := l) (xs := ((List.range many).map (G i)).map V.int) (fun j H' => Same H2 H' ∧ ∃ acc, H' D2 = some (.lst acc) ∧ FrsIn K H' acc ((List.range j).map fun o => lowP (G i o) (Bm ms))) ⟨Same.new hD2, [], upd_same, FrsIn.nil⟩ (fun j H' _ g => SqL.of (g.1 _ _ row)) (fun j y H3 hj g => ?_) fun H3 g => ?_
      · obtain ⟨s3, acc2, g3, g4⟩ := g
        rw [List.getElem?_map, List.getElem?_map] at hj
        obtain ⟨z, hz, rfl⟩ := Option.map_eq_some_iff.mp hj
        obtain ⟨o, ho, rfl⟩ := Option.map_eq_some_iff.mp hz
        obtain ⟨jl, jo⟩ := List.getElem?_eq_some_iff.mp ho
        rw [List.getElem_range] at jo
        subst jo
        rw [List.length_range] at jl
        have al2 : acc2.length = j := by rw [g4.1, List.length_map, List.length_range]
        refine ⟨rfl, _, rfl, _, rfl, _, _, rfl, cn i j, by omega, fun q hq => ⟨acc2, Same.new hq _ _ g3, small1000 (by omega), (s3.trans (Same.new hq)).mut hD2, _, upd_same, ?_⟩⟩
        rw [map_snoc]
        exact (g4.same (Same.new hq)).snoc (Same.new hq _ _ g3) ⟨q, rfl, SqT.of upd_same⟩
      · obtain ⟨s3, acc2, g3, g4⟩ := g
        rw [List.length_map, List.length_map, List.length_range] at g4
        refine ⟨D2, _, rfl, .inl ⟨SqL.of g3, fun q hq => ⟨acc, Same.new hq _ _ (s3 _ _ g1), small1000 (by omega), ((s2.trans s3).trans (Same.new hq)).mut hD, _, upd_same, ?_⟩⟩⟩
        rw [map_snoc]
        exact (g2.same (s3.trans (Same.new hq))).snoc (Same.new hq _ _ (s3 _ _ g1)) ⟨q, acc2, rfl, SqT.of upd_same, g4.same (Same.new hq)⟩
    · obtain ⟨s2, acc, g1, g2⟩ := g
      rw [List.length_map, T1.len] at g2
      exact ⟨D, _, rfl, .inl ⟨SqL.of g1, fun q hq => k q acc _ ((s1.trans s2).trans (Same.new hq)) upd_same (g2.same (Same.new hq))⟩⟩
end
end Law

namespace L2
open PySem PySem.Spec PyProof.Rows
/-! ### math.lcm of still greater ints -/
theorem lcm_lt2 {a b n : Nat} (ha : a < 2 ^ n) (hb : b < 2 ^ n) : Nat.lcm a b < 2 ^ (n + n) := by
  rcases Nat.eq_zero_or_pos a with rfl | pa
  · rw [Nat.lcm_zero_left]
    exact Nat.two_pow_pos _
  rcases Nat.eq_zero_or_pos b with rfl | pb
  · rw [Nat.lcm_zero_right]
    exact Nat.two_pow_pos _
  rw [Nat.pow_add]
  exact Nat.lt_of_le_of_lt (lcm_le a b pb pa) (Nat.mul_lt_mul_of_lt_of_lt ha hb)
def rLcmG : List V → Hp → VK → Prop := fun vs H Q => ∃ a b : Int, vs = [.int a, .int b] ∧ a.natAbs < 2 ^ 13000 ∧ b.natAbs < 2 ^ 13000 ∧ Q (.int ((Nat.lcm a.natAbs b.natAbs : Nat) : Int)) H
theorem cr_lcmG {X : Cx} : CallR X (.builtin "math.lcm") rLcmG := by
  rintro pins s σ H vs us Q I r ⟨a, b, rfl, ha, hb, q⟩
  obtain ⟨t, u, rfl⟩ := Vals.int2 r
  have lg : ∀ {n : Nat}, n < 2 ^ 13000 → n.log2 < 13000 := fun h => PySem.Flt.log2_lt_of (by decide) h
  have e : ((Nat.lcm 1 a.natAbs).lcm b.natAbs : Nat) = Nat.lcm a.natAbs b.natAbs := by rw [Nat.lcm_one_left]
  have m1 := lg (show max 1 a.natAbs < 2 ^ 13000 from Nat.max_lt.mpr ⟨Nat.one_lt_two_pow (by decide), ha⟩)
  have m2 := lg (show max a.natAbs b.natAbs < 2 ^ 13000 from Nat.max_lt.mpr ⟨ha, hb⟩)
  have hz : ((((Nat.lcm 1 a.natAbs).lcm b.natAbs : Nat) : Int)).natAbs.log2 < bitsLine := by
    rw [e, Int.natAbs_natCast]
    exact Nat.lt_of_lt_of_le (PySem.Flt.log2_lt_of (by decide) (lcm_lt2 ha hb)) (by decide)
  refine call_function_meets PySem.W.MGF.kind_lcm PySem.W.MGF.plain_lcm PySem.W.MGF.entry_lcm (PySem.W.MGF.args_lcm _ _) (PySem.W.mg_run_lcm a t b u (by omega) (by omega) hz).meets ?_
  exact ⟨.int _, H, I.tok _, ⟨_, rfl⟩, by rw [e]; exact q⟩
/-- a context, a comprehension's too, whose uppermost frame is a function's, with room -/
structure HiB (X : Cx) : Prop where
  seer : seerB X.K = true
  tree : X.prog.given.tree = none
  dp : X.A.depth + Builtin.pylongFrames < recursionLimit
  st : ∃ e l, X.stack = e :: l ∧ e.scope.isGenerator = false ∧ e.scope.isCoroutine = false ∧ e.builtins = builtinsNs ∧ e.globals = mainGlobals
theorem op_fdivH {X : Cx} (h : HiB X) : OpR X (binaryOp .FloorDiv) (rI CPos fun i j => .int (i / j)) := by
  rintro pins s σ H x y v u Q I rx ry ⟨i, j, rfl, rfl, hc, q⟩
  obtain ⟨t, rfl⟩ := rx
  obtain ⟨t', rfl⟩ := ry
  have pj : (0 : Int) < j := hc
  obtain ⟨e, l, es, eg, ec, eb, em⟩ := h.st
  have still : s.heap.NoSeer := (seer_of I.ok.mod h.seer).keeps I.bk
  have top : X.A.frames = some (e :: l) := by rw [I.ok.frames, es]
  have seer : PySem.SeerAt (model X.prog X.w) X.A s.heap := PySem.SeerAt.of still h.tree top eg ec eb em
  have told : EP X pins σ Q (.int (i / j) s.toks) { s with toks := s.toks + 1 } := ⟨.int (i / j), H, I.tok _, ⟨_, rfl⟩, q⟩
  exact floordiv_int (by omega) (by rw [Int.fdiv_eq_ediv_of_nonneg i (by omega)]; exact told) (.inr (PySem.PylongRoom.of I.nolimit h.dp seer))
end L2
namespace Law
open PySem L2
/-! ### tuples of great fractions: bottoms that divide one great number -/
def FrTA (K : PySem.W.Frag) (H : Hp) (a : Addr) (fs : List Fr) : Prop := ∃ xs, SqT K H a xs ∧ FrsIn K H xs fs
/-- all bottoms divide L -/
structure Over (fs : List Fr) (L : Nat) : Prop where
  pos : 0 < L
  lt : L < 2 ^ 13000
  fr : ∀ f ∈ fs, 0 < f.2 ∧ f.2.natAbs ∣ L ∧ f.1.natAbs < 2 ^ 20000
  len : fs.length ≤ 24
theorem Over.sub {fs gs : List Fr} {L : Nat} (h : Over fs L) (s : ∀ f ∈ gs, f ∈ fs) (l : gs.length ≤ 24) : Over gs L := ⟨h.pos, h.lt, fun f hf => h.fr f (s f hf), l⟩
theorem lcm_dvd_L {L : Nat} : ∀ (fs : List Fr) (m : Nat), m ∣ L → (∀ f ∈ fs, f.2.natAbs ∣ L) → fs.foldl (fun m f => Nat.lcm m f.2.natAbs) m ∣ L
  | [], m, h, _ => h
  | f :: fs, m, h, g => lcm_dvd_L fs _ (Nat.lcm_dvd h (g f List.mem_cons_self)) fun x hx => g x (List.mem_cons_of_mem _ hx)
theorem Over.dvd {fs : List Fr} {L : Nat} (h : Over fs L) : lcmAll fs ∣ L := lcm_dvd_L fs 1 (Nat.one_dvd _) fun f hf => (h.fr f hf).2.1
theorem Over.llt {fs : List Fr} {L : Nat} (h : Over fs L) : lcmAll fs < 2 ^ 13000 := Nat.lt_of_le_of_lt (Nat.le_of_dvd h.pos h.dvd) h.lt
theorem Over.lpos {fs : List Fr} {L : Nat} (h : Over fs L) : 0 < lcmAll fs := Nat.pos_of_ne_zero fun e => by
  have := h.dvd
  rw [e, Nat.zero_dvd] at this
  have := h.pos
  omega
section
variable {P : Program} {w : World} {K : PySem.W.Frag} {mg : Str → Option Value} {base : Heap}
def spComG (K : PySem.W.Frag) : Sp := fun vs H Q _ => ∃ (a : Addr) (fs : List Fr) (L : Nat), vs = [.ref a] ∧ FrTA K H a fs ∧ Over fs L ∧ Q (.int (lcmAll fs : Nat)) H
abbrev nCommonBottom : List Str := ["fractions", "found", "_", "bottom"]
theorem scCommonBottom : FnScope nCommonBottom ["fractions"] (defScope s_common_bottom) := ⟨rfl, rfl, rfl, by decide +kernel, rfl, by decide +kernel, by decide +kernel⟩
theorem ok_comG {f : Addr} {fd : FuncData} (F : Fun K "common_bottom" "common_bottom" s_common_bottom f fd) (T : NmA mg) : FnOk P w K mg base CX0 1 f fd ["fractions"] (spComG K) := by
  refine F.ok scCommonBottom (fun vs H Q E h => ?_) (fun cdv A' outer s H vs Q E hr h => ?_)
  · obtain ⟨a, fs, L, rfl, _⟩ := h
    rfl
  · obtain ⟨a, fs, L, rfl, hF, ov, k⟩ := h
    have hu := hu_of hr
    refine ⟨_, pss_cons (ps_set (i := 1) scCommonBottom.nd rfl (Or.inl rfl) pe_int)
      (pss_cons (ps_for PassesOwn.never rfl (pi_tup (pv 0)) (pg_tup (by rfl) (pgs_cons (pg_name (i := 2) scCommonBottom.nd rfl (Or.inl rfl)) (pgs_cons (pg_name (i := 3) scCommonBottom.nd rfl (Or.inl rfl)) pgs_nil)))
        (pss_one (ps_set (i := 1) scCommonBottom.nd rfl (Or.inl rfl) (pe_callBfun cr_lcmG (by rfl) T.lcm (pa_cons (pv 1) (pa_cons (pv 3) pa_nil))))))
      (pss_one (ps_ret (pv 1)))), ?_⟩
    obtain ⟨xs, hS, hx⟩ := hF
    refine ⟨_, rfl, a, rfl, ⟨_, hS⟩, for_tup (K := K) (a := a) (xs := xs) (fun i σ H' => H' = H ∧ ∃ u v : Option V, σ = [some (.ref a), some (.int (lcmAll (fs.take i) : Nat)), u, v]) ⟨rfl, none, none, rfl⟩ (fun i σ H' _ h => by rw [h.1]; exact hS) ?_ ?_⟩
    · rintro i x σ H' hi ⟨rfl, u, v, rfl⟩
      obtain ⟨g, hg, t, rfl, hT⟩ := hx.2 i x hi
      have gm : g ∈ fs := List.mem_of_getElem? hg
      obtain ⟨g1, g2, g3⟩ := ov.fr g gm
      have sub : Over (fs.take i) L := ov.sub (fun f hf => List.mem_of_mem_take hf) (by rw [List.length_take]; have := ov.len; omega)
      refine ⟨t, _, rfl, hT, rfl, _, _, rfl, _, _, rfl, rfl, ?_⟩
      refine ⟨_, rfl, _, rfl, _, _, rfl, by rw [Int.natAbs_natCast]; exact sub.llt, Nat.lt_of_le_of_lt (Nat.le_of_dvd ov.pos g2) ov.lt, ?_⟩
      refine ⟨rfl, some (.int g.1), some (.int g.2), ?_⟩
      rw [List.take_add_one, hg]
      show _ = [some (V.ref a), some (V.int ((lcmAll (fs.take i ++ [g]) : Nat) : Int)), some (V.int g.1), some (V.int g.2)]
      rw [lcmAll_snoc]
      rfl
    · rintro σ H' ⟨rfl, u, v, rfl⟩
      refine ⟨_, rfl, ?_⟩
      rw [hx.1, List.take_length]
      exact k
def spTopsG (K : PySem.W.Frag) : Sp := fun vs H Q _ => ∃ (a : Addr) (fs : List Fr) (L : Nat), vs = [.ref a, .int (lcmAll fs : Nat)] ∧ FrTA K H a fs ∧ Over fs L ∧ ∀ p H', H p = none → Same H H' → H' p = some (.lst ((topsOf fs (lcmAll fs : Nat)).map V.int)) → Q (.ref p) H'
abbrev nTopsOver : List Str := ["fractions", "bottom", "top", "part"]
theorem scTopsOver : FnScope nTopsOver ["fractions", "bottom"] (defScope s_tops_over) := ⟨rfl, rfl, rfl, by decide +kernel, rfl, by decide +kernel, by decide +kernel⟩
theorem ok_topsG {f : Addr} {fd : FuncData} (F : Fun K "tops_over" "tops_over" s_tops_over f fd) (T : NmA mg) (G : Lg P K) : FnOk P w K mg base CX0 34 f fd ["fractions", "bottom"] (spTopsG K) := by
  refine F.ok scTopsOver (fun vs H Q E h => ?_) (fun cdv A' outer s H vs Q E hr h => ?_)
  · obtain ⟨a, fs, L, rfl, _⟩ := h
    rfl
  · obtain ⟨a, fs, L, rfl, hF, ov, k⟩ := h
    have hu := hu_of hr
    refine ⟨_, pss_one (ps_ret (pe_lc (own := [("top", 2), ("part", 3)]) (g := (gTup K 2 (gCons (gName 2) (gCons (gName 3) gNil)))) (tt := tYes) rfl scTopsOver.nd  (pi_tup (pv 0)) (blkOk_by (own := [("top", 2), ("part", 3)]) (N := nTopsOver) (sc := defScope s_tops_over) (by decide +kernel)) (fun _ _ _ _ _ => (pg_tup (by rfl) (pgs_cons (pg_name (i := 2) scTopsOver.nd rfl (Or.inl rfl)) (pgs_cons (pg_name (i := 3) scTopsOver.nd rfl (Or.inl rfl)) pgs_nil)))) (fun _ _ _ _ _ => pts_nil) (fun _ _ _ _ _ => (pe_op op_mulW (pv 2) (pe_op (op_fdivH ⟨G.seer, G.tree, hi_dp hr (by decide), _, _, rfl, rfl, rfl, rfl, rfl⟩) (pv 1) (pv 3)))))), ?_⟩
    obtain ⟨xs, hS, hx⟩ := hF
    have l24 := ov.len
    have llt := ov.llt
    generalize lcmAll fs = M at k llt
    refine ⟨_, rfl, a, rfl, ⟨_, hS⟩, fun D hD => ?_⟩
    refine lc_tup (K := K) (a := a) (xs := xs) (fun i H' => Same H H' ∧ H' D = some (.lst ((topsOf (fs.take i) (M : Nat)).map V.int))) ⟨Same.new hD, upd_same⟩ (fun i H' _ h => h.1.sqT hS) ?_ ?_
    · rintro i x H' hi ⟨s1, h1⟩
      obtain ⟨g, hg, t, rfl, hT⟩ := hx.2 i x hi
      obtain ⟨g1, g2, g3⟩ := ov.fr g (List.mem_of_getElem? hg)
      have hil : i < fs.length := (List.getElem?_eq_some_iff.mp hg).1
      refine ⟨t, _, rfl, s1.sqT hT, rfl, _, _, rfl, _, _, rfl, rfl, ?_⟩
      have q1 : (((M : Nat) : Int) / g.2).natAbs < 2 ^ 13000 := by
        refine wide_le (Int.ediv_nonneg (Int.natCast_nonneg _) (Int.le_of_lt g1)) (Int.ediv_le_self _ (Int.natCast_nonneg _)) ?_
        rw [Int.natAbs_natCast]
        exact llt
      refine ⟨rfl, _, rfl, _, rfl, _, rfl, _, _, rfl, rfl, g1, _, _, rfl, rfl, wide_mul g3 q1 (by decide) (by decide) (by decide), _, h1, ?_, s1.mut hD, ?_⟩
      · unfold topsOf
        rw [List.length_map, List.length_map, List.length_take]
        exact small1000 (by omega)
      · unfold topsOf
        rw [upd_same, List.take_add_one, hg, List.map_append, List.map_append] <;> rfl
    · rintro H' ⟨s1, h1⟩
      rw [hx.1, List.take_length] at h1
      exact k D H' hD s1 h1
def oneB (fs : List Fr) : Bool := decide ((topsOf fs (lcmAll fs : Nat)).sum = ((lcmAll fs : Nat) : Int))
def spOneG (K : PySem.W.Frag) : Sp := fun vs H Q _ => ∃ (a : Addr) (fs : List Fr) (L : Nat), vs = [.ref a] ∧ FrTA K H a fs ∧ Over fs L ∧ ∀ H', Same H H' → Q (.bl (oneB fs)) H'
abbrev nAreOneTogether : List Str := ["fractions", "bottom"]
theorem scAreOneTogether : FnScope nAreOneTogether ["fractions"] (defScope s_are_one_together) := ⟨rfl, rfl, rfl, by decide +kernel, rfl, by decide +kernel, by decide +kernel⟩
theorem ok_oneG {f : Addr} {fd : FuncData} {fcComG : Addr} {fdcComG : FuncData} {fcTopsG : Addr} {fdcTopsG : FuncData} (F : Fun K "are_one_together" "are_one_together" s_are_one_together f fd) (T : NmA mg) (cComG : Cl P w K mg base CX0 1 "common_bottom" fcComG fdcComG ["fractions"] (spComG K)) (cTopsG : Cl P w K mg base CX0 34 "tops_over" fcTopsG fdcTopsG ["fractions", "bottom"] (spTopsG K)) : FnOk P w K mg base CX0 35 f fd ["fractions"] (spOneG K) := by
  refine F.ok scAreOneTogether (fun vs H Q E h => ?_) (fun cdv A' outer s H vs Q E hr h => ?_)
  · obtain ⟨a, fs, L, rfl, _⟩ := h
    rfl
  · obtain ⟨a, fs, L, rfl, hF, ov, k⟩ := h
    have hu := hu_of hr
    refine ⟨_, pss_cons (ps_set (i := 1) scAreOneTogether.nd rfl (Or.inl rfl) (cComG.call (hr.mono (by decide)) (pa_cons (pv 0) pa_nil)))
      (pss_one (ps_ret (pe_cmpR op_eq (pe_callB (cr_sum rfl) (by rfl) T.sum (by decide +kernel) (pa_cons (cTopsG.call (hr.mono (by decide)) (pa_cons (pv 0) (pa_cons (pv 1) pa_nil))) pa_nil)) (pv 1) (nomark _)))), ?_⟩
    refine ⟨_, rfl, a, fs, L, rfl, hF, ov, ?_⟩
    refine ⟨_, rfl, _, rfl, a, fs, L, rfl, hF, ov, fun p H' hp s1 h1 => ⟨p, _, rfl, SqL.of h1, _, rfl, rfl, ?_⟩⟩
    rw [dec_int]
    exact k H' s1
end
end Law

namespace L2
open PySem PySem.Spec PyProof.Rows
theorem TyOf.same {K : PySem.W.Frag} {H H' : Hp} {x : V} {t : Value} (s : Same H H') (h : TyOf K H x t) : TyOf K H' x t := by
  cases h with
  | non => exact .non
  | bl x => exact .bl x
  | int i => exact .int i
  | str x => exact .str x
  | flt x => exact .flt x
  | lst e => exact .lst (s _ _ e)
  | frz e => exact .frz (s _ _ e)
  | tup e => exact .tup (s _ _ e)
  | dK e => exact .dK (s _ _ e)
  | dT e => exact .dT (s _ _ e)
  | ins e c1 c2 c3 c4 c5 => exact .ins (s _ _ e) c1 c2 c3 c4 c5
theorem TyX.same {K : PySem.W.Frag} {H H' : Hp} {x : V} {t : Value} (s : Same H H') (h : TyX K H x t) : TyX K H' x t := by
  cases h with
  | base h => exact .base (h.same s)
  | byt b => exact .byt b
  | set e => exact .set (s _ _ e)
  | kList e c => exact .kList e c
  | kTuple e c => exact .kTuple e c
  | kDict e c => exact .kDict e c
  | fTuple e => exact .fTuple (s _ _ e)
  | fDict e => exact .fDict (s _ _ e)
end L2
namespace Law
open PySem L2
/-! ### any thing: is it a fraction, is it a spread -/
def NonTup (K : PySem.W.Frag) (H : Hp) (x : V) : Prop := ∃ t, TyX K H x t ∧ PySem.W.kitOne K t (.type "tuple") = some false
/-- a pair of whole numbers, or something that is none -/
def ItemAt (K : PySem.W.Frag) (H : Hp) (x : V) : Option Fr → Prop
  | some f => ∃ a, x = .ref a ∧ SqT K H a [.int f.1, .int f.2]
  | none => NonTup K H x ∨ (∃ a xs, x = .ref a ∧ SqT K H a xs ∧ xs.length ≠ 2) ∨ ∃ a u v bi bb ci cb, x = .ref a ∧ SqT K H a [u, v] ∧ Ty3 K H u bi bb ∧ Ty3 K H v ci cb ∧ ((bi && !bb) && (ci && !cb)) = false
def goodF : Option Fr → Bool
  | some f => decide (0 < f.2) && (Nat.gcd f.1.natAbs f.2.natAbs == 1)
  | none => false
def goodS : Option Fr → Bool
  | some f => goodF (some f) && decide (0 ≤ f.1)
  | none => false
def ThingAt (K : PySem.W.Frag) (H : Hp) (x : V) : Option (List (Option Fr)) → Prop
  | some rs => ∃ a xs, x = .ref a ∧ SqT K H a xs ∧ xs.length = rs.length ∧ ∀ (i : Nat) (v : V), xs[i]? = some v → ∃ r, rs[i]? = some r ∧ ItemAt K H v r
  | none => NonTup K H x
theorem NonTup.same {K : PySem.W.Frag} {H H' : Hp} {x : V} (s : Same H H') (h : NonTup K H x) : NonTup K H' x := by
  obtain ⟨t, h1, h2⟩ := h
  exact ⟨t, h1.same s, h2⟩
theorem Ty3.same {K : PySem.W.Frag} {H H' : Hp} {x : V} {b c : Bool} (s : Same H H') (h : Ty3 K H x b c) : Ty3 K H' x b c := by
  obtain ⟨t, h1, h2⟩ := h
  exact ⟨t, h1.same s, h2⟩
theorem ItemAt.same {K : PySem.W.Frag} {H H' : Hp} {x : V} {r : Option Fr} (s : Same H H') (h : ItemAt K H x r) : ItemAt K H' x r := by
  cases r with
  | some f =>
    obtain ⟨a, h1, h2⟩ := h
    exact ⟨a, h1, s.sqT h2⟩
  | none =>
    rcases h with h | ⟨a, xs, h1, h2, h3⟩ | ⟨a, u, v, bi, bb, ci, cb, h1, h2, h3, h4, h5⟩
    · exact .inl (h.same s)
    · exact .inr (.inl ⟨a, xs, h1, s.sqT h2, h3⟩)
    · exact .inr (.inr ⟨a, u, v, bi, bb, ci, cb, h1, s.sqT h2, h3.same s, h4.same s, h5⟩)
theorem ThingAt.same {K : PySem.W.Frag} {H H' : Hp} {x : V} {o : Option (List (Option Fr))} (s : Same H H') (h : ThingAt K H x o) : ThingAt K H' x o := by
  cases o with
  | some rs =>
    obtain ⟨a, xs, h1, h2, h3, h4⟩ := h
    refine ⟨a, xs, h1, s.sqT h2, h3, fun i v hv => ?_⟩
    obtain ⟨r, g1, g2⟩ := h4 i v hv
    exact ⟨r, g1, g2.same s⟩
  | none => exact NonTup.same s h
/-- the sums of a spread -/
def spreadB (many : Nat) : Option (List (Option Fr)) → Bool
  | some rs => decide (rs.length = many) && (rs.all goodS && oneB (rs.filterMap id))
  | none => false
def Fits (o : Option (List (Option Fr))) : Prop := ∀ rs, o = some rs → rs.all goodS = true → ∃ L, Over (rs.filterMap id) L
theorem all_some : ∀ {rs : List (Option Fr)}, rs.all goodS = true → rs = (rs.filterMap id).map some
  | [], _ => rfl
  | none :: rs, h => by
    rw [List.all_cons] at h
    cases h
  | some f :: rs, h => by
    rw [List.all_cons, Bool.and_eq_true] at h
    have ih := all_some h.2
    show some f :: rs = some f :: ((rs.filterMap id).map some)
    rw [← ih]
section
variable {P : Program} {w : World} {K : PySem.W.Frag} {mg : Str → Option Value} {base : Heap}
def spFracA (K : PySem.W.Frag) : Sp := fun vs H Q _ => ∃ (x : V) (r : Option Fr), vs = [x] ∧ ItemAt K H x r ∧ Q (.bl (goodF r)) H
abbrev nIsFraction : List Str := ["thing", "top", "bottom"]
theorem scIsFraction : FnScope nIsFraction ["thing"] (defScope s_is_fraction) := ⟨rfl, rfl, rfl, by decide +kernel, rfl, by decide +kernel, by decide +kernel⟩
theorem ok_fracA {f : Addr} {fd : FuncData} {fcIsInt : Addr} {fdcIsInt : FuncData} (F : Fun K "is_fraction" "is_fraction" s_is_fraction f fd) (T : NmA mg) (cIsInt : Cl P w K mg base CX0 1 "is_integer" fcIsInt fdcIsInt ["thing"] (spIsInt K)) : FnOk P w K mg base CX0 2 f fd ["thing"] (spFracA K) := by
  refine F.ok scIsFraction (fun vs H Q E h => ?_) (fun cdv A' outer s H vs Q E hr h => ?_)
  · obtain ⟨x, r, rfl, _⟩ := h
    rfl
  · obtain ⟨x, r, rfl, hI, k⟩ := h
    refine ⟨_, pss_cons (ps_if (PW.pt (pw_or (pt_not (pt_val (pe_callB call_isi (by rfl) T.isi (by decide +kernel) (pa_cons (pv 0) (pa_cons (pe_bltn (v := .ty "tuple") (u := .type "tuple") (by rfl) T.tuple (by decide +kernel) rfl) pa_nil))))) (pw_or1 (pt_cmpR op_ne (pe_callB call_len_seq (by rfl) T.len PySem.boot_len (pa_cons (pv 0) pa_nil)) pe_int (nomark _)))))
        (pss_one (ps_ret pe_bl)) pss_nil)
      (pss_cons (ps_asg (pv 0) (pg_tup (by rfl) (pgs_cons (pg_name (i := 1) scIsFraction.nd rfl (Or.inl rfl)) (pgs_cons (pg_name (i := 2) scIsFraction.nd rfl (Or.inl rfl)) pgs_nil))))
      (pss_one (ps_ret (pe_and (cIsInt.call (hr.mono (by decide)) (pa_cons (pv 1) pa_nil)) (pe_and (cIsInt.call (hr.mono (by decide)) (pa_cons (pv 2) pa_nil)) (pe_and (pe_cmpR op_gt (pv 2) pe_int (nomark _)) (pe_one (pe_cmpR op_eq (pe_callBfun cr_gcd (by rfl) T.gcd (pa_cons (pv 1) (pa_cons (pv 2) pa_nil))) pe_int (nomark _))))))))), ?_⟩
    cases r with
    | some f =>
      obtain ⟨a, rfl, hS⟩ := hI
      refine ⟨_, rfl, _, _, _, _, _, rfl, .ty "tuple", tyx_tup hS, kit_tt, _, rfl, ?_⟩
      refine iteF ⟨_, rfl, a, _, rfl, .inr hS, rfl, _, rfl, iteF ?_⟩
      refine ⟨_, rfl, a, _, rfl, hS, rfl, _, _, rfl, _, _, rfl, rfl, ?_⟩
      refine ⟨_, rfl, _, true, false, rfl, ty3_int f.1, _, rfl, iteT ⟨_, rfl, _, true, false, rfl, ty3_int f.2, _, rfl, iteT ⟨_, rfl, _, _, rfl, rfl, _, rfl, ?_⟩⟩⟩
      change Q (.bl (decide (0 < f.2) && (Nat.gcd f.1.natAbs f.2.natAbs == 1))) H at k
      refine ite2 (fun h1 => ?_) (fun h1 => ?_)
      · refine ⟨_, rfl, _, rfl, f.1, f.2, rfl, rfl, ?_⟩
        rw [dec_one]
        rw [h1, Bool.true_and] at k
        exact k
      · rw [Bool.not_eq_true] at h1
        rw [h1, Bool.false_and] at k
        exact k
    | none =>
      rcases hI with ⟨t, h1, h2⟩ | ⟨a, xs, rfl, hS, hn⟩ | ⟨a, u, v, bi, bb, ci, cb, rfl, hS, tu, tv, hf⟩
      · exact ⟨_, rfl, _, _, _, _, _, rfl, .ty "tuple", h1, h2, _, rfl, iteT k⟩
      · refine ⟨_, rfl, _, _, _, _, _, rfl, .ty "tuple", tyx_tup hS, kit_tt, _, rfl, ?_⟩
        refine iteF ⟨_, rfl, a, _, rfl, .inr hS, rfl, _, rfl, ?_⟩
        rw [decide_eq_false (show ¬ V.int ((xs.length : Nat) : Int) = V.int 2 from fun z => hn (by injection z with z; omega))]
        exact iteT k
      · refine ⟨_, rfl, _, _, _, _, _, rfl, .ty "tuple", tyx_tup hS, kit_tt, _, rfl, ?_⟩
        refine iteF ⟨_, rfl, a, _, rfl, .inr hS, rfl, _, rfl, iteF ?_⟩
        refine ⟨_, rfl, a, _, rfl, hS, rfl, _, _, rfl, _, _, rfl, rfl, ?_⟩
        refine ⟨_, rfl, _, bi, bb, rfl, tu, _, rfl, ?_⟩
        cases h : (bi && !bb) with
        | false => exact iteF k
        | true =>
          rw [h, Bool.true_and] at hf
          refine iteT ⟨_, rfl, _, ci, cb, rfl, tv, _, rfl, ?_⟩
          rw [hf]
          exact iteF k
def spSpread (K : PySem.W.Frag) : Sp := fun vs H Q _ => ∃ (many : Nat) (x : V) (o : Option (List (Option Fr))), vs = [.int (many : Int), x] ∧ ThingAt K H x o ∧ (∀ rs, o = some rs → rs.length ≤ 1000) ∧ Fits o ∧ ∀ H', Same H H' → Q (.bl (spreadB many o)) H'
abbrev nIsSpread : List Str := ["many", "thing", "share"]
theorem scIsSpread : FnScope nIsSpread ["many", "thing"] (defScope s_is_spread) := ⟨rfl, rfl, rfl, by decide +kernel, rfl, by decide +kernel, by decide +kernel⟩
theorem ok_is_spread {f : Addr} {fd : FuncData} {fcFracA : Addr} {fdcFracA : FuncData} {fcOneG : Addr} {fdcOneG : FuncData} (F : Fun K "is_spread" "is_spread" s_is_spread f fd) (T : NmA mg) (cFracA : Cl P w K mg base CX0 2 "is_fraction" fcFracA fdcFracA ["thing"] (spFracA K)) (cOneG : Cl P w K mg base CX0 35 "are_one_together" fcOneG fdcOneG ["fractions"] (spOneG K)) : FnOk P w K mg base CX0 36 f fd ["many", "thing"] (spSpread K) := by
  refine F.ok scIsSpread (fun vs H Q E h => ?_) (fun cdv A' outer s H vs Q E hr h => ?_)
  · obtain ⟨many, x, o, rfl, _⟩ := h
    rfl
  · obtain ⟨many, x, o, rfl, hT, h1000, fit, k⟩ := h
    have hu := hu_of hr
    refine ⟨_, pss_cons (ps_if (PW.pt (pw_or (pt_not (pt_val (pe_callB call_isi (by rfl) T.isi (by decide +kernel) (pa_cons (pv 1) (pa_cons (pe_bltn (v := .ty "tuple") (u := .type "tuple") (by rfl) T.tuple (by decide +kernel) rfl) pa_nil))))) (pw_or1 (pt_cmpR op_ne (pe_callB call_len_seq (by rfl) T.len PySem.boot_len (pa_cons (pv 1) pa_nil)) (pv 0) (nomark _)))))
        (pss_one (ps_ret pe_bl)) pss_nil)
      (pss_cons (ps_if (pt_not (pt_val (pe_callB (cr_all rfl) (by rfl) T.all (by decide +kernel) (pa_cons (pe_lc (own := [("share", 2)]) (g := (gName 2)) (tt := tYes) rfl scIsSpread.nd  (pi_tup (pv 1)) (blkOk_by (own := [("share", 2)]) (N := nIsSpread) (sc := defScope s_is_spread) (by decide +kernel)) (fun _ _ _ _ _ => (pg_name (i := 2) scIsSpread.nd rfl (Or.inl rfl))) (fun _ _ _ _ _ => pts_nil) (fun _ _ _ _ _ => (pe_and (cFracA.call (hr.mono (by decide)) (pa_cons (pv 2) pa_nil)) (pe_one (pe_cmpR op_ge (pe_ix (r := rIxT K) (show IxR _ (rIxT K) from ix_tup) (pv 2) pe_int (fun _ _ => rfl)) pe_int (nomark _)))))) pa_nil))))
        (pss_one (ps_ret pe_bl)) pss_nil)
      (pss_one (ps_ret (cOneG.call (hr.mono (by decide)) (pa_cons (pv 1) pa_nil))))), ?_⟩
    cases o with
    | none =>
      obtain ⟨t, h1, h2⟩ := hT
      exact ⟨_, rfl, _, _, _, _, _, rfl, .ty "tuple", h1, h2, _, rfl, iteT (k H (Same.refl H))⟩
    | some rs =>
      obtain ⟨a, xs, rfl, hS, hl, hx⟩ := hT
      have hk := h1000 rs rfl
      change ∀ H', Same H H' → Q (.bl (decide (rs.length = many) && (rs.all goodS && oneB (rs.filterMap id)))) H' at k
      refine ⟨_, rfl, _, _, _, _, _, rfl, .ty "tuple", tyx_tup hS, kit_tt, _, rfl, ?_⟩
      refine iteF ⟨_, rfl, a, _, rfl, .inr hS, _, rfl, rfl, _, rfl, ?_⟩
      by_cases hm : rs.length = many
      · rw [decide_eq_true hm] at k
        rw [decide_eq_true (show V.int ((xs.length : Nat) : Int) = V.int (many : Int) by rw [hl, hm])]
        refine iteF ?_
        refine ⟨_, rfl, a, rfl, ⟨_, hS⟩, fun D hD => ?_⟩
        refine lc_tup (K := K) (a := a) (xs := xs) (fun i H' => Same H H' ∧ H' D = some (.lst (((rs.take i).map goodS).map V.bl))) ⟨Same.new hD, upd_same⟩ (fun i H' _ h => h.1.sqT hS) ?_ ?_
        · rintro i x H' hi ⟨s1, h1⟩
          obtain ⟨r, hr', hI⟩ := hx i x hi
          have hI := hI.same s1
          have il : i < rs.length := (List.getElem?_eq_some_iff.mp hr').1
          have fin : ∃ acc, H' D = some (.lst acc) ∧ acc.length < sizeLine ∧ (Same H (upd H' D (.lst (acc ++ [.bl (goodS r)]))) ∧ (upd H' D (.lst (acc ++ [.bl (goodS r)]))) D = some (.lst (((rs.take (i + 1)).map goodS).map V.bl))) := by
            refine ⟨_, h1, ?_, s1.mut hD, ?_⟩
            · rw [List.length_map, List.length_map, List.length_take]
              exact small1000 (by omega)
            · rw [upd_same, List.take_add_one, hr', List.map_append, List.map_append] <;> rfl
          refine ⟨rfl, _, rfl, x, r, rfl, hI, _, rfl, ?_⟩
          cases r with
          | none => exact iteF fin
          | some f =>
            change ∃ acc, H' D = some (.lst acc) ∧ acc.length < sizeLine ∧ (Same H (upd H' D (.lst (acc ++ [.bl (goodF (some f) && decide (0 ≤ f.1))]))) ∧ (upd H' D (.lst (acc ++ [.bl (goodF (some f) && decide (0 ≤ f.1))]))) D = some (.lst (((rs.take (i + 1)).map goodS).map V.bl))) at fin
            cases hg : goodF (some f) with
            | false =>
              rw [hg, Bool.false_and] at fin
              exact iteF fin
            | true =>
              rw [hg, Bool.true_and] at fin
              obtain ⟨b, rfl, hb⟩ := hI
              exact iteT ⟨_, rfl, b, _, _, _, rfl, rfl, hb, ats0 _ _, _, _, rfl, rfl, fin⟩
        · rintro H' ⟨s1, h1⟩
          rw [hl, List.take_length] at h1
          refine ⟨D, _, rfl, SqL.of h1, ?_⟩
          rw [all_take]
          cases hg : rs.all goodS with
          | false =>
            rw [hg] at k
            exact ⟨_, rfl, iteT (k H' s1)⟩
          | true =>
            obtain ⟨L, ov⟩ := fit rs rfl hg
            have es := all_some hg
            rw [hg] at k
            refine ⟨_, rfl, iteF ⟨_, rfl, a, rs.filterMap id, L, rfl, ⟨xs, s1.sqT hS, ?_, fun i v hv => ?_⟩, ov, fun H2 s2 => k H2 (s1.trans s2)⟩⟩
            · rw [hl, es, List.length_map, ← es]
            · obtain ⟨r, g1, g2⟩ := hx i v hv
              rw [es, List.getElem?_map] at g1
              obtain ⟨f, g3, rfl⟩ := Option.map_eq_some_iff.mp g1
              obtain ⟨b, rfl, hb⟩ := g2
              exact ⟨f, g3, b, rfl, s1.sqT hb⟩
      · rw [decide_eq_false hm] at k
        rw [decide_eq_false (show ¬ V.int ((xs.length : Nat) : Int) = V.int (many : Int) from fun z => hm (by injection z with z; omega))]
        exact iteT (k H (Same.refl H))
end
end Law

namespace Law
open PySem L2
/-! ### sums over states -/
theorem sum_addF (f g : Nat → Int) : ∀ n : Nat, ((List.range n).map fun i => f i + g i).sum = ((List.range n).map f).sum + ((List.range n).map g).sum
  | 0 => rfl
  | n + 1 => by
    rw [map_snoc, map_snoc, map_snoc, List.sum_append, List.sum_append, List.sum_append, sum_addF f g n]
    show _ + (_ + 0) = _ + (_ + 0) + (_ + (_ + 0))
    omega
theorem sum_zeroF : ∀ n : Nat, ((List.range n).map fun _ => (0 : Int)).sum = 0
  | 0 => rfl
  | n + 1 => by
    rw [map_snoc, List.sum_append, sum_zeroF n] <;> rfl
theorem sum_mulF (c : Int) (f : Nat → Int) : ∀ n : Nat, ((List.range n).map fun i => c * f i).sum = c * ((List.range n).map f).sum
  | 0 => by rw [show ((List.range 0).map f).sum = 0 from rfl, Int.mul_zero] <;> rfl
  | n + 1 => by
    rw [map_snoc, map_snoc, List.sum_append, List.sum_append, sum_mulF c f n, Int.mul_add]
    show _ + (_ + 0) = _ + c * (_ + 0)
    rw [Int.add_zero, Int.add_zero]
theorem sum_mulR (c : Int) (f : Nat → Int) (n : Nat) : ((List.range n).map fun i => f i * c).sum = ((List.range n).map f).sum * c := by
  rw [Int.mul_comm, ← sum_mulF]
  congr 2
  funext i
  exact Int.mul_comm _ _
theorem sum_swapF (f : Nat → Nat → Int) (n : Nat) : ∀ m : Nat, ((List.range m).map fun i => ((List.range n).map fun j => f i j).sum).sum = ((List.range n).map fun j => ((List.range m).map fun i => f i j).sum).sum
  | 0 => (sum_zeroF n).symm
  | m + 1 => by
    rw [map_snoc, List.sum_append, sum_swapF f n m]
    show _ + (_ + 0) = _
    rw [Int.add_zero, ← sum_addF]
    congr 2
    funext j
    rw [map_snoc, List.sum_append]
    show _ = _ + (_ + 0)
    rw [Int.add_zero]
theorem sum_congF {f g : Nat → Int} {n : Nat} (h : ∀ i, i < n → f i = g i) : ((List.range n).map f).sum = ((List.range n).map g).sum := by
  congr 1
  exact List.map_congr_left fun i hi => h i (List.mem_range.mp hi)
theorem sum_nnF {f : Nat → Int} {n : Nat} (h : ∀ i, i < n → 0 ≤ f i) : 0 ≤ ((List.range n).map f).sum := sum_nn fun x hx => by
  obtain ⟨i, hi, rfl⟩ := List.mem_map.mp hx
  exact h i (List.mem_range.mp hi)
theorem le_sum : ∀ {xs : List Int}, (∀ x ∈ xs, 0 ≤ x) → ∀ x ∈ xs, x ≤ xs.sum
  | x :: xs, h, y, hy => by
    rw [List.sum_cons]
    have a := h x List.mem_cons_self
    have b := sum_nn fun z hz => h z (List.mem_cons_of_mem x hz)
    rcases List.mem_cons.mp hy with rfl | hy
    · omega
    · have := le_sum (fun z hz => h z (List.mem_cons_of_mem x hz)) y hy
      omega
theorem le_sumF {f : Nat → Int} {n i : Nat} (h : ∀ i, i < n → 0 ≤ f i) (hi : i < n) : f i ≤ ((List.range n).map f).sum := le_sum (fun x hx => by
  obtain ⟨j, hj, rfl⟩ := List.mem_map.mp hx
  exact h j (List.mem_range.mp hj)) _ (List.mem_map.mpr ⟨i, List.mem_range.mpr hi, rfl⟩)
theorem sum_point (t : Int) (o : Nat) : ∀ n : Nat, ((List.range n).map fun q => if some ((o : Nat) : Int) = some ((q : Nat) : Int) then t else 0).sum = if o < n then t else 0
  | 0 => by rw [if_neg (Nat.not_lt_zero _)] <;> rfl
  | n + 1 => by
    rw [map_snoc, List.sum_append, sum_point t o n]
    show _ + (_ + 0) = _
    rw [Int.add_zero]
    by_cases e : o = n
    · subst e
      rw [if_neg (Nat.lt_irrefl _), if_pos rfl, if_pos (Nat.lt_succ_self _), Int.zero_add]
    · rw [if_neg (show ¬ some ((o : Nat) : Int) = some ((n : Nat) : Int) from fun z => e (by have := Option.some.inj z; omega)), Int.add_zero]
      by_cases l : o < n
      · rw [if_pos l, if_pos (by omega)]
      · rw [if_neg l, if_neg (by omega)]
theorem row_sum {many s : Nat} (hs : s < many) : ∀ (ts : List Int) (Ls : List (List Int)), ts.length = Ls.length → (∀ l ∈ Ls, l.length = many ∧ ∀ x ∈ l, 0 ≤ x ∧ x < (many : Int)) → ((List.range many).map (cellF ts Ls s)).sum = ts.sum
  | [], [], _, _ => sum_zeroF many
  | t :: ts, l :: Ls, e, h => by
    obtain ⟨h1, h2⟩ := h l List.mem_cons_self
    have ih := row_sum hs ts Ls (by injection e) fun l' hl => h l' (List.mem_cons_of_mem _ hl)
    have g : l[s]? = some (l[s]'(by omega)) := List.getElem?_eq_getElem (by omega)
    obtain ⟨a, b⟩ := h2 _ (List.getElem_mem (show s < l.length by omega))
    obtain ⟨o, ho⟩ := Int.eq_ofNat_of_zero_le a
    rw [ho] at b g
    have c : ∀ q, cellF (t :: ts) (l :: Ls) s q = (if some ((o : Nat) : Int) = some ((q : Nat) : Int) then t else 0) + cellF ts Ls s q := fun q => by
      show (if l[s]? = some ((q : Nat) : Int) then t else 0) + cellF ts Ls s q = _
      rw [g]
    rw [show cellF (t :: ts) (l :: Ls) s = fun q => (if some ((o : Nat) : Int) = some ((q : Nat) : Int) then t else 0) + cellF ts Ls s q from funext c, sum_addF, sum_point, if_pos (by omega), ih, List.sum_cons]
/-- what is at each state behind so many moves, over the tops' bottom -/
def itT (G : Nat → Nat → Int) (many : Nat) (T : Nat → Int) : Nat → Nat → Int
  | 0 => T
  | n + 1 => fun o => ((List.range many).map fun s => itT G many T n s * G s o).sum
theorem itT_nn {G : Nat → Nat → Int} {many : Nat} {T : Nat → Int} (hG : ∀ s o, 0 ≤ G s o) (hT : ∀ s, 0 ≤ T s) : ∀ n s, 0 ≤ itT G many T n s
  | 0, s => hT s
  | n + 1, s => sum_nnF fun i _ => Int.mul_nonneg (itT_nn hG hT n i) (hG i s)
theorem itT_sum {G : Nat → Nat → Int} {many : Nat} {T : Nat → Int} {B : Int} (hG : ∀ s, s < many → ((List.range many).map (G s)).sum = B) : ∀ n, ((List.range many).map (itT G many T n)).sum = ((List.range many).map T).sum * B ^ n
  | 0 => by rw [Int.pow_zero, Int.mul_one] <;> rfl
  | n + 1 => by
    show ((List.range many).map fun o => ((List.range many).map fun s => itT G many T n s * G s o).sum).sum = _
    rw [sum_swapF (fun o s => itT G many T n s * G s o)]
    rw [sum_congF (g := fun s => itT G many T n s * B) fun s hs => by rw [sum_mulF, hG s hs], sum_mulR, itT_sum hG n, Int.pow_succ, Int.mul_assoc]
/-- a spread, as the document says -/
structure SprOk (many : Nat) (fs : List Fr) : Prop where
  len : fs.length = many
  fr : ∀ f ∈ fs, 0 < f.2 ∧ 0 ≤ f.1 ∧ Nat.gcd f.1.natAbs f.2.natAbs = 1
  one : oneB fs = true
theorem fold_pos : ∀ (fs : List Fr) (m : Nat), 0 < m → (∀ f ∈ fs, 0 < f.2) → 0 < fs.foldl (fun m f => Nat.lcm m f.2.natAbs) m
  | [], m, h, _ => h
  | f :: fs, m, h, g => fold_pos fs _ (Nat.lcm_pos h (by have := g f List.mem_cons_self; omega)) fun x hx => g x (List.mem_cons_of_mem _ hx)
theorem SprOk.lpos {many : Nat} {fs : List Fr} (h : SprOk many fs) : 0 < lcmAll fs := fold_pos fs 1 (by decide) fun f hf => (h.fr f hf).1
def topF (fs : List Fr) (s : Nat) : Int := (topsOf fs (lcmAll fs : Nat)).getD s 0
theorem SprOk.tnn {many : Nat} {fs : List Fr} (h : SprOk many fs) : ∀ t ∈ topsOf fs (lcmAll fs : Nat), 0 ≤ t := fun t ht => by
  obtain ⟨f, hf, rfl⟩ := List.mem_map.mp ht
  obtain ⟨a, b, _⟩ := h.fr f hf
  exact Int.mul_nonneg b (Int.ediv_nonneg (Int.natCast_nonneg _) (Int.le_of_lt a))
theorem SprOk.sum {many : Nat} {fs : List Fr} (h : SprOk many fs) : (topsOf fs (lcmAll fs : Nat)).sum = ((lcmAll fs : Nat) : Int) := of_decide_eq_true h.one
theorem SprOk.list {many : Nat} {fs : List Fr} (h : SprOk many fs) : topsOf fs (lcmAll fs : Nat) = (List.range many).map (topF fs) := by
  refine List.ext_getElem? fun i => ?_
  have l : (topsOf fs (lcmAll fs : Nat)).length = many := by
    unfold topsOf
    rw [List.length_map, h.len]
  rw [List.getElem?_map]
  by_cases il : i < many
  · rw [List.getElem?_range il, List.getElem?_eq_getElem (by omega)]
    show _ = some (topF fs i)
    unfold topF
    rw [List.getD_eq_getElem?_getD, List.getElem?_eq_getElem (by omega)] <;> rfl
  · rw [List.getElem?_eq_none (by omega), List.getElem?_eq_none (by rw [List.length_range]; omega)] <;> rfl
theorem SprOk.nn {many : Nat} {fs : List Fr} (h : SprOk many fs) (s : Nat) : 0 ≤ topF fs s := by
  unfold topF
  rw [List.getD_eq_getElem?_getD]
  cases e : (topsOf fs (lcmAll fs : Nat))[s]? with
  | none => exact Int.le_refl _
  | some t => exact h.tnn t (List.mem_of_getElem? e)
theorem SprOk.over {many : Nat} {fs : List Fr} (h : SprOk many fs) (l : lcmAll fs < 2 ^ 13000) (m : many ≤ 24) : Over fs (lcmAll fs) := ⟨h.lpos, l, fun f hf => by
  obtain ⟨a, b, _⟩ := h.fr f hf
  refine ⟨a, dvd_lcmAll hf, ?_⟩
  have t1 : f.1 * (((lcmAll fs : Nat) : Int) / f.2) ≤ ((lcmAll fs : Nat) : Int) := by
    have e := le_sum h.tnn _ (List.mem_map.mpr ⟨f, hf, rfl⟩)
    rw [h.sum] at e
    exact e
  obtain ⟨c, hc⟩ := dvd_lcmAll hf
  have p := h.lpos
  have fa : ((f.2.natAbs : Nat) : Int) = f.2 := Int.natAbs_of_nonneg (Int.le_of_lt a)
  have q : ((lcmAll fs : Nat) : Int) / f.2 = (c : Int) := by
    rw [hc, Int.natCast_mul, fa]
    exact Int.mul_ediv_cancel_left _ (by omega)
  have c0 : 0 < c := Nat.pos_of_ne_zero fun e => by
    rw [e, Nat.mul_zero] at hc
    omega
  rw [q] at t1
  have : f.1 * 1 ≤ f.1 * (c : Int) := Int.mul_le_mul_of_nonneg_left (by omega) b
  have : f.1 ≤ ((lcmAll fs : Nat) : Int) := by omega
  have : f.1.natAbs ≤ lcmAll fs := by omega
  exact Nat.lt_of_le_of_lt this (pow_mono l (by decide)), by rw [h.len]; exact m⟩
theorem filter_some (fs : List Fr) : (fs.map some).filterMap id = fs := by
  induction fs with
  | nil => rfl
  | cons f fs ih => exact congrArg (f :: ·) ih
theorem SprOk.all {many : Nat} {fs : List Fr} (h : SprOk many fs) : (fs.map some).all goodS = true := by
  rw [List.all_eq_true]
  intro r hr
  obtain ⟨f, hf, rfl⟩ := List.mem_map.mp hr
  obtain ⟨a, b, c⟩ := h.fr f hf
  show ((decide (0 < f.2) && (Nat.gcd f.1.natAbs f.2.natAbs == 1)) && decide (0 ≤ f.1)) = true
  rw [decide_eq_true a, decide_eq_true b, c] <;> rfl
theorem SprOk.yes {many : Nat} {fs : List Fr} (h : SprOk many fs) : spreadB many (some (fs.map some)) = true := by
  show (decide ((fs.map some).length = many) && ((fs.map some).all goodS && oneB ((fs.map some).filterMap id))) = true
  rw [decide_eq_true (by rw [List.length_map]; exact h.len), h.all, filter_some, h.one] <;> rfl
theorem FrTA.thing {K : PySem.W.Frag} {H : Hp} {a : Addr} {fs : List Fr} (h : FrTA K H a fs) : ThingAt K H (.ref a) (some (fs.map some)) := by
  obtain ⟨xs, h1, h2, h3⟩ := h
  refine ⟨a, xs, rfl, h1, by rw [List.length_map]; exact h2, fun i v hv => ?_⟩
  obtain ⟨f, g1, s, g2, g3⟩ := h3 i v hv
  exact ⟨some f, by rw [List.getElem?_map, g1] <;> rfl, s, g2, g3⟩
theorem FrTA.same {K : PySem.W.Frag} {H H' : Hp} {a : Addr} {fs : List Fr} (s : Same H H') (h : FrTA K H a fs) : FrTA K H' a fs := by
  obtain ⟨xs, h1, h2⟩ := h
  exact ⟨xs, s.sqT h1, h2.same s⟩
def behT (many : Nat) (ms : List Mv) (fs : List Fr) : Nat → Nat → Int := itT (cellF (tsM ms) (ms.map (·.2))) many (topF fs)
/-- the spread behind so many moves -/
def behF (many : Nat) (ms : List Mv) (fs : List Fr) (n : Nat) : List Fr := (List.range many).map fun o => lowP (behT many ms fs n o) (((lcmAll fs * Bm ms ^ n : Nat) : Nat) : Int)
theorem beh_nn {many : Nat} {ms : List Mv} {fs : List Fr} (ok : SysOk many ms) (h : SprOk many fs) (n s : Nat) : 0 ≤ behT many ms fs n s := itT_nn (cell_nn (ts_nn ok)) h.nn n s
theorem ts_row {many : Nat} {ms : List Mv} (ok : SysOk many ms) {s : Nat} (hs : s < many) : ((List.range many).map (cellF (tsM ms) (ms.map (·.2)) s)).sum = ((Bm ms : Nat) : Int) := by
  rw [row_sum hs _ _ (by unfold tsM topsOf frs; rw [List.length_map, List.length_map, List.length_map]) fun l hl => ?_]
  · exact ok.one
  · obtain ⟨m, hm, rfl⟩ := List.mem_map.mp hl
    obtain ⟨_, _, _, a, b⟩ := ok.mv m hm
    exact ⟨a, b⟩
theorem beh_sum {many : Nat} {ms : List Mv} {fs : List Fr} (ok : SysOk many ms) (h : SprOk many fs) (n : Nat) : ((List.range many).map (behT many ms fs n)).sum = ((lcmAll fs * Bm ms ^ n : Nat) : Int) := by
  unfold behT
  rw [itT_sum (fun s hs => ts_row ok hs) n, ← h.list, h.sum, Int.natCast_mul, Int.natCast_pow]
theorem beh_le {many : Nat} {ms : List Mv} {fs : List Fr} (ok : SysOk many ms) (h : SprOk many fs) {n s : Nat} (hs : s < many) : behT many ms fs n s ≤ ((lcmAll fs * Bm ms ^ n : Nat) : Int) := by
  rw [← beh_sum ok h n]
  exact le_sumF (fun i _ => beh_nn ok h n i) hs
theorem cell_le {many : Nat} {ms : List Mv} (ok : SysOk many ms) {s o : Nat} (hs : s < many) (ho : o < many) : cellF (tsM ms) (ms.map (·.2)) s o ≤ ((Bm ms : Nat) : Int) := by
  rw [← ts_row ok hs]
  exact le_sumF (fun i _ => cell_nn (ts_nn ok) s i) ho
section
variable {P : Program} {w : World} {K : PySem.W.Frag} {mg : Str → Option Value} {base : Heap}
def spBehS (K : PySem.W.Frag) (C : Addr) : Sp := fun vs H Q _ => ∃ (sy a : Addr) (n many : Nat) (ms : List Mv) (fs : List Fr), vs = [.ref sy, .ref a, .int (n : Int)] ∧ SysAt K C H sy many ms ∧ SysOk many ms ∧ FrTA K H a fs ∧ SprOk many fs ∧ n ≤ 60 ∧ lcmAll fs * Bm ms ^ n < 2 ^ 13000 ∧
  ∀ t xs H', Same H H' → H' t = some (.tup xs) → FrsIn K H' xs (behF many ms fs n) → Q (.ref t) H'
abbrev nSpreadBehind : List Str := ["system", "spread", "depth", "factor", "table", "bottom", "tops", "_", "state", "top", "row"]
theorem scSpreadBehind : FnScope nSpreadBehind ["system", "spread", "depth"] (defScope s_spread_behind) := ⟨rfl, rfl, rfl, by decide +kernel, rfl, by decide +kernel, by decide +kernel⟩
theorem ok_spread_behind {f : Addr} {fd : FuncData} {fcSpread : Addr} {fdcSpread : FuncData} {fcWithin : Addr} {fdcWithin : FuncData} {fcStepT : Addr} {fdcStepT : FuncData} {fcComG : Addr} {fdcComG : FuncData} {fcTopsG : Addr} {fdcTopsG : FuncData} {fcFrc : Addr} {fdcFrc : FuncData} {C : Addr} (F : Fun K "spread_behind" "spread_behind" s_spread_behind f fd) (T : NmA mg) (cSpread : Cl P w K mg base CX0 36 "is_spread" fcSpread fdcSpread ["many", "thing"] (spSpread K)) (cWithin : Cl P w K mg base CX0 2 "is_within" fcWithin fdcWithin ["low", "high", "thing"] (spWithin K)) (cStepT : Cl P w K mg base CX0 2 "step_tops" fcStepT fdcStepT ["system"] (spStepT K C)) (cComG : Cl P w K mg base CX0 1 "common_bottom" fcComG fdcComG ["fractions"] (spComG K)) (cTopsG : Cl P w K mg base CX0 34 "tops_over" fcTopsG fdcTopsG ["fractions", "bottom"] (spTopsG K)) (cFrc : Cl P w K mg base CX0 34 "fraction" fcFrc fdcFrc ["top", "bottom"] spLow) (S : SysT K mg C) : FnOk P w K mg base CX0 37 f fd ["system", "spread", "depth"] (spBehS K C) := by
  refine F.ok scSpreadBehind (fun vs H Q E h => ?_) (fun cdv A' outer s H vs Q E hr h => ?_)
  · obtain ⟨sy, a, n, many, ms, fs, rfl, _⟩ := h
    rfl
  · obtain ⟨sy, a, n, many, ms, fs, rfl, hS, ok, hF, spr, n60, big, k⟩ := h
    have hu := hu_of hr
    refine ⟨_, pss_cons (ps_if (pt_not (pt_val (cSpread.call (hr.mono (by decide)) (pa_cons (pe_fld (pv 0) rfl) (pa_cons (pv 1) pa_nil)))))
        pss_never pss_nil)
      (pss_cons (ps_if (pt_not (pt_truth (cWithin.call (hr.mono (by decide)) (pa_cons pe_int (pa_cons pe_int (pa_cons (pv 2) pa_nil)))) (by intro _; rfl)))
        pss_never pss_nil)
      (pss_cons (ps_asg (cStepT.call (hr.mono (by decide)) (pa_cons (pv 0) pa_nil)) (pg_tup (by rfl) (pgs_cons (pg_name (i := 3) scSpreadBehind.nd rfl (Or.inl rfl)) (pgs_cons (pg_name (i := 4) scSpreadBehind.nd rfl (Or.inr rfl)) pgs_nil))))
      (pss_cons (ps_set (i := 5) scSpreadBehind.nd rfl (Or.inr rfl) (cComG.call (hr.mono (by decide)) (pa_cons (pv 1) pa_nil)))
      (pss_cons (ps_set (i := 6) scSpreadBehind.nd rfl (Or.inr rfl) (cTopsG.call (hr.mono (by decide)) (pa_cons (pv 1) (pa_cons (pv 5) pa_nil))))
      (pss_cons (ps_for PassesOwn.never rfl (pi_range1 (by rfl) T.range (pa_cons (pv 2) pa_nil)) (pg_name (i := 7) scSpreadBehind.nd rfl (Or.inl rfl))
        (pss_cons (ps_set (i := 6) scSpreadBehind.nd rfl (Or.inr rfl) (pe_lc (own := [("state", 8)]) (g := (gName 8)) (tt := tYes) rfl scSpreadBehind.nd  (pi_range1 (by rfl) T.range (pa_cons (pe_fld (pv 0) rfl) pa_nil)) (blkOk_by (own := [("state", 8)]) (N := nSpreadBehind) (sc := defScope s_spread_behind) (by decide +kernel)) (fun _ _ _ _ _ => (pg_name (i := 8) scSpreadBehind.nd rfl (Or.inr rfl))) (fun _ _ _ _ _ => pts_nil) (fun _ _ _ _ _ => (pe_callB (r := rSum K) (show CallR _ (.builtin "sum") (rSum K) from cr_sum rfl) (by rfl) T.sum (by decide +kernel) (pa_cons (pe_lc (own := [("top", 9), ("row", 10)]) (g := (gTup K 2 (gCons (gName 9) (gCons (gName 10) gNil)))) (tt := tYes) rfl scSpreadBehind.nd  (show PI _ _ _ (iZip K _) from pi_zip (by rfl) T.zip (pa_cons (pv 6) (pa_cons (pv 4) pa_nil))) (blkOk_by (own := [("top", 9), ("row", 10)]) (N := nSpreadBehind) (sc := ({ kind := .function, names := [(".0", .local), ("state", .cell), ("sum", .globalImplicit), ("zip", .globalImplicit), ("table", .cell), ("tops", .cell)], isGenerator := false, isCoroutine := false } : Scope)) (by decide +kernel)) (fun _ _ _ _ _ => (pg_tup (by rfl) (pgs_cons (pg_name (i := 9) scSpreadBehind.nd rfl (Or.inl rfl)) (pgs_cons (pg_name (i := 10) scSpreadBehind.nd rfl (Or.inl rfl)) pgs_nil)))) (fun _ _ _ _ _ => pts_nil) (fun _ _ _ _ _ => (pe_op op_mulW (pv 9) (pe_ix (r := rIxL K) (show IxR _ (rIxL K) from ix_list) (pv 10) (pv 8) (fun _ _ => rfl))))) pa_nil)))))
        (pss_one (ps_set (i := 5) scSpreadBehind.nd rfl (Or.inr rfl) (pe_op op_mulW (pv 5) (pv 3))))))
      (pss_one (ps_ret (pe_callTy call_tuple_of (by rfl) T.tuple (by decide +kernel) (pa_cons (pe_lc (own := [("top", 9)]) (g := (gName 9)) (tt := tYes) rfl scSpreadBehind.nd  (pi_list (pv 6)) (blkOk_by (own := [("top", 9)]) (N := nSpreadBehind) (sc := defScope s_spread_behind) (by decide +kernel)) (fun _ _ _ _ _ => (pg_name (i := 9) scSpreadBehind.nd rfl (Or.inl rfl))) (fun _ _ _ _ _ => pts_nil) (fun _ _ _ _ _ => (cFrc.call (hr.mono (by decide)) (pa_cons (pv 9) (pa_cons (pv 5) pa_nil))))) pa_nil))))))))), ?_⟩
    obtain ⟨dx, mv, hp, vs, hV, hM⟩ := id hS
    have m12 := ok.m2
    have bp := bm_pos ok
    have lp := spr.lpos
    have lb : lcmAll fs < 2 ^ 13000 := Nat.lt_of_le_of_lt (Nat.le_mul_of_pos_right _ (Nat.pow_pos bp)) big
    have ov := spr.over lb (by omega)
    refine ⟨_, rfl, sy, C, dx, _, _, rfl, hp, S.cl, S.nK, sysF_many _ _, _, rfl, many, .ref a, some (fs.map some), rfl, hF.thing, fun rs e => by rw [← Option.some.inj e, List.length_map, spr.len]; omega, fun rs e _ => ⟨lcmAll fs, by rw [← Option.some.inj e, filter_some]; exact ov⟩, fun H1 s1 => ?_⟩
    rw [spr.yes]
    refine ⟨_, rfl, iteF ⟨_, rfl, 0, 60, _, rfl, .inl ⟨(n : Int), rfl, _, rfl, ?_⟩⟩⟩
    rw [decide_eq_true (show (0 : Int) ≤ (n : Int) by omega), decide_eq_true (show (n : Int) ≤ 60 by omega)]
    refine iteF ⟨_, rfl, sy, many, ms, rfl, hS.same s1, ok, fun t tb ls H2 s2 h2 T2 => ?_⟩
    refine ⟨t, _, rfl, SqT.of h2, rfl, _, _, rfl, _, _, rfl, rfl, ?_⟩
    have s12 := s1.trans s2
    refine ⟨_, rfl, a, fs, lcmAll fs, rfl, hF.same s12, ov, ?_⟩
    refine ⟨_, rfl, _, rfl, a, fs, lcmAll fs, rfl, hF.same s12, ov, fun tp H3 htp s3 h3 => ?_⟩
    rw [spr.list] at h3
    have s13 := s12.trans s3
    have T3 := T2.same s3
    have G0 : ∀ s o, 0 ≤ cellF (tsM ms) (ms.map (·.2)) s o := cell_nn (ts_nn ok)
    have pb : ∀ i, i ≤ n → lcmAll fs * Bm ms ^ i < 2 ^ 13000 := fun i hi => Nat.lt_of_le_of_lt (Nat.mul_le_mul_left _ (Nat.pow_le_pow_right bp hi)) big
    have b13 : Bm ms < 2 ^ 13000 := pow_mono (lcmAll_lt (fs := frs ms) (fun f hf => by
      obtain ⟨m, hm, rfl⟩ := List.mem_map.mp hf
      exact (ok.mv m hm).1) (by unfold frs; rw [List.length_map]; exact ok.l2)) (by decide)
    refine ⟨_, rfl, (n : Int), rfl, by omega, by omega, ?_⟩
    rw [Int.toNat_natCast]
    refine for_range (lo := 0) (n := n) (fun i σ H' => Same H3 H' ∧ ∃ (l : Addr) (u : Option V), H' l = some (.lst (((List.range many).map (behT many ms fs i)).map V.int)) ∧ σ = [some (.ref sy), some (.ref a), some (.int (n : Int)), some (.int (Bm ms : Nat)), some (.ref tb), some (.int ((lcmAll fs * Bm ms ^ i : Nat) : Int)), some (.ref l), u, none, none, none]) ⟨Same.refl _, tp, none, h3, by rw [Nat.pow_zero, Nat.mul_one] <;> rfl⟩ ?_ ?_
    · rintro i σ H4 hi ⟨s4, l, u, h4, rfl⟩
      have T4 := T3.same s4
      refine ⟨_, rfl, sy, C, dx, _, _, rfl, s4 _ _ (s13 _ _ hp), S.cl, S.nK, sysF_many _ _, (many : Int), rfl, by omega, by omega, fun D hD => ?_⟩
      refine lc_range (lo := 0) (n := many) (fun o H' => Same H4 H' ∧ H' D = some (.lst (((List.range o).map (behT many ms fs (i + 1))).map V.int))) ⟨Same.new hD, upd_same⟩ (fun o H' ho g => ?_) fun H5 g => ?_
      · obtain ⟨s5, h5⟩ := g
        have T5 := T4.same s5
        refine ⟨rfl, _, rfl, _, rfl, l, tb, _, _, rfl, SqL.of (s5 _ _ h4), SqL.of T5.tab, fun D2 hD2 => ?_⟩
        refine lc_it (walk_zip (n := many) (by rw [List.length_map, List.length_map, List.length_range, List.length_map, T5.len, Nat.min_self])) (fun s H2 => Same H' H2 ∧ H2 D2 = some (.lst (((List.range s).map fun s => behT many ms fs i s * cellF (tsM ms) (ms.map (·.2)) s o).map V.int))) ⟨Same.new hD2, upd_same⟩ (fun s H2 _ g => ⟨SqL.of (g.1 _ _ (s5 _ _ h4)), SqL.of (T5.same g.1).tab⟩) (fun s x H2 H3' hs g hy => ?_) fun H2 g => ?_
        · obtain ⟨s6, h6⟩ := g
          obtain ⟨q, x, y, rfl, hq, rfl, ex, ey⟩ := hy
          change (((List.range many).map (behT many ms fs i)).map V.int)[s]? = some x at ex
          change (ls.map V.ref)[s]? = some y at ey
          rw [List.getElem?_map, List.getElem?_map, List.getElem?_range hs] at ex
          have ex : V.int (behT many ms fs i s) = x := Option.some.inj ex
          subst ex
          rw [List.getElem?_map] at ey
          obtain ⟨r, hr', rfl⟩ := Option.map_eq_some_iff.mp ey
          have s7 : Same H' (upd H2 q (.tup [.int (behT many ms fs i s), .ref r])) := s6.trans (Same.new hq)
          have row := (T5.same s7).row s r hr'
          have w1 : (behT many ms fs i s).natAbs < 2 ^ 13000 := wide_le (beh_nn ok spr i s) (beh_le ok spr hs) (by rw [Int.natAbs_natCast]; exact pb i (by omega))
          have w2 : (cellF (tsM ms) (ms.map (·.2)) s o).natAbs < 2 ^ 13000 := wide_le (G0 s o) (cell_le ok hs ho) (by rw [Int.natAbs_natCast]; exact b13)
          refine ⟨q, _, rfl, SqT.of upd_same, rfl, _, _, rfl, _, _, rfl, rfl, rfl, _, rfl, _, rfl, _, rfl, r, _, _, .int (cellF (tsM ms) (ms.map (·.2)) s o), rfl, rfl, SqL.of row, ?_, _, _, rfl, rfl, wide_mul w1 w2 (by decide) (by decide) (by decide), _, Same.new hq _ _ h6, ?_, s7.mut hD2, ?_⟩
          · rw [Int.zero_add]
            exact atI_nat (by rw [List.getElem?_map, List.getElem?_map, List.getElem?_range ho] <;> rfl)
          · rw [List.length_map, List.length_map, List.length_range]
            exact small1000 (by omega)
          · rw [upd_same, map_snoc, List.map_append] <;> rfl
        · obtain ⟨s6, h6⟩ := g
          refine ⟨D2, _, rfl, SqL.of h6, _, s6 _ _ h5, ?_, (s5.trans s6).mut hD, ?_⟩
          · rw [List.length_map, List.length_map, List.length_range]
            exact small1000 (by omega)
          · rw [upd_same, map_snoc, List.map_append] <;> rfl
      · obtain ⟨s5, h5⟩ := g
        have w1 : (((lcmAll fs * Bm ms ^ i : Nat) : Nat) : Int).natAbs < 2 ^ 13000 := by rw [Int.natAbs_natCast]; exact pb i (by omega)
        have w2 : (((Bm ms : Nat) : Nat) : Int).natAbs < 2 ^ 13000 := by rw [Int.natAbs_natCast]; exact b13
        refine ⟨_, rfl, _, rfl, _, _, rfl, rfl, wide_mul w1 w2 (by decide) (by decide) (by decide), s4.trans s5, D, some (.int (0 + (i : Int))), h5, ?_⟩
        rw [Nat.pow_succ, ← Nat.mul_assoc, Int.natCast_mul (lcmAll fs * Bm ms ^ i)] <;> rfl
    · rintro σ H4 ⟨s4, l, u, h4, rfl⟩
      have den : (0 : Int) < ((lcmAll fs * Bm ms ^ n : Nat) : Int) := by
        have := Nat.mul_pos lp (Nat.pow_pos (n := n) bp)
        omega
      refine ⟨_, rfl, l, rfl, ⟨_, SqL.of h4⟩, fun D hD => ?_⟩
      refine lc_list (K := K) (a := l) (xs := ((List.range many).map (behT many ms fs n)).map V.int) (fun j H' => Same H4 H' ∧ ∃ acc, H' D = some (.lst acc) ∧ FrsIn K H' acc ((List.range j).map fun o => lowP (behT many ms fs n o) (((lcmAll fs * Bm ms ^ n : Nat) : Nat) : Int))) ⟨Same.new hD, [], upd_same, FrsIn.nil⟩ (fun j H' _ g => SqL.of (g.1 _ _ h4)) (fun j y H5 hj g => ?_) fun H5 g => ?_
      · obtain ⟨s5, acc, g1, g2⟩ := g
        rw [List.getElem?_map, List.getElem?_map] at hj
        obtain ⟨z, hz, rfl⟩ := Option.map_eq_some_iff.mp hj
        obtain ⟨o, ho, rfl⟩ := Option.map_eq_some_iff.mp hz
        obtain ⟨jl, jo⟩ := List.getElem?_eq_some_iff.mp ho
        rw [List.getElem_range] at jo
        subst jo
        rw [List.length_range] at jl
        have al : acc.length = j := by rw [g2.1, List.length_map, List.length_range]
        refine ⟨rfl, _, rfl, _, rfl, _, _, rfl, beh_nn ok spr n j, den, fun q hq => ⟨acc, Same.new hq _ _ g1, small1000 (by omega), (s5.trans (Same.new hq)).mut hD, _, upd_same, ?_⟩⟩
        rw [map_snoc]
        exact (g2.same (Same.new hq)).snoc (Same.new hq _ _ g1) ⟨q, rfl, SqT.of upd_same⟩
      · obtain ⟨s5, acc, g1, g2⟩ := g
        rw [List.length_map, List.length_map, List.length_range] at g2
        exact ⟨D, _, rfl, .inl ⟨SqL.of g1, fun q hq => k q acc _ (((s13.trans s4).trans s5).trans (Same.new hq)) upd_same (g2.same (Same.new hq))⟩⟩
end
end Law

namespace Law
open PySem L2
/-! ### fractions in lowest terms over any bottom -/
theorem lowP_scale {k t b : Int} (hk : 0 < k) (hb : 0 < b) : lowP (k * t) (k * b) = lowP t b := by
  have g : gI (k * t) (k * b) = k * gI t b := by
    unfold gI
    rw [Int.natAbs_mul, Int.natAbs_mul, Nat.gcd_mul_left, Int.natCast_mul, Int.natAbs_of_nonneg (Int.le_of_lt hk)]
  unfold lowP
  rw [g, Int.mul_ediv_mul_of_pos _ _ hk, Int.mul_ediv_mul_of_pos _ _ hk]
theorem lowP_eq {t b u d : Int} (hb : 0 < b) (hd : 0 < d) (h : t * d = u * b) : lowP t b = lowP u d := by
  rw [← lowP_scale hd hb, ← lowP_scale (t := u) hb hd, Int.mul_comm d t, h, Int.mul_comm u b, Int.mul_comm d b]
theorem lowP_pos2 {t b : Int} (hb : 0 < b) : 0 < (lowP t b).2 := by
  have g := gI_pos (t := t) hb
  refine Int.ediv_pos_of_pos_of_dvd hb (Int.le_of_lt g) ?_
  unfold gI
  exact Int.ofNat_dvd_left.mpr (Nat.gcd_dvd_right _ _)
theorem lowP_nn {t b : Int} (ht : 0 ≤ t) (hb : 0 < b) : 0 ≤ (lowP t b).1 := Int.ediv_nonneg ht (Int.le_of_lt (gI_pos hb))
theorem mul4 (a b c d : Int) : a * b * (c * d) = a * c * (b * d) := by
  rw [Int.mul_assoc, Int.mul_left_comm b c d, ← Int.mul_assoc]
def plusF (f g : Fr) : Fr := lowP (f.1 * g.2 + g.1 * f.2) (f.2 * g.2)
def timesF (f g : Fr) : Fr := lowP (f.1 * g.1) (f.2 * g.2)
theorem plus_low {t u b : Int} (hb : 0 < b) : plusF (lowP t b) (lowP u b) = lowP (t + u) b := by
  have c1 := lowP_cross (t := t) hb
  have c2 := lowP_cross (t := u) hb
  refine lowP_eq (Int.mul_pos (lowP_pos2 hb) (lowP_pos2 hb)) hb ?_
  generalize lowP t b = f at c1 ⊢
  generalize lowP u b = g at c2 ⊢
  have e1 : f.1 * g.2 * b = t * (f.2 * g.2) := by rw [Int.mul_right_comm, Int.mul_comm f.1 b, c1, Int.mul_assoc]
  have e2 : g.1 * f.2 * b = u * (f.2 * g.2) := by rw [Int.mul_right_comm, Int.mul_comm g.1 b, c2, Int.mul_assoc, Int.mul_comm g.2]
  rw [Int.add_mul, e1, e2, Int.add_mul]
theorem times_low {t u b c : Int} (hb : 0 < b) (hc : 0 < c) : timesF (lowP t b) (lowP u c) = lowP (t * u) (b * c) := by
  have c1 := lowP_cross (t := t) hb
  have c2 := lowP_cross (t := u) hc
  refine lowP_eq (Int.mul_pos (lowP_pos2 hb) (lowP_pos2 hc)) (Int.mul_pos hb hc) ?_
  generalize lowP t b = f at c1 ⊢
  generalize lowP u c = g at c2 ⊢
  rw [mul4, Int.mul_comm f.1, Int.mul_comm g.1, c1, c2, mul4]
theorem low_zero {b : Int} (hb : 0 < b) : lowP 0 b = (0, 1) := by
  have g : gI 0 b = b := by
    unfold gI
    rw [show (0 : Int).natAbs = 0 from rfl, Nat.gcd_zero_left]
    omega
  unfold lowP
  rw [g, Int.zero_ediv, Int.ediv_self (by omega)]
/-- sizes that all rules reach -/
structure Sz (f : Fr) : Prop where
  t0 : 0 ≤ f.1
  b0 : 0 < f.2
  tl : f.1.natAbs < 2 ^ 26000
  bl : f.2.natAbs < 2 ^ 26000
theorem sz_low {t b : Int} (ht : 0 ≤ t) (hb : 0 < b) (h1 : t.natAbs < 2 ^ 26000) (h2 : b.natAbs < 2 ^ 26000) : Sz (lowP t b) := by
  obtain ⟨a, c⟩ := lowP_le ht hb
  have p := lowP_pos2 (t := t) hb
  have n := lowP_nn ht hb
  exact ⟨n, p, wide_le n a h1, wide_le (Int.le_of_lt p) c h2⟩
section
variable {P : Program} {w : World} {K : PySem.W.Frag} {mg : Str → Option Value} {base : Heap}
def spPlus (K : PySem.W.Frag) : Sp := fun vs H Q _ => ∃ (a c : Addr) (f g : Fr), vs = [.ref a, .ref c] ∧ SqT K H a [.int f.1, .int f.2] ∧ SqT K H c [.int g.1, .int g.2] ∧ Sz f ∧ Sz g ∧
  ∀ p, H p = none → Q (.ref p) (upd H p (.tup [.int (plusF f g).1, .int (plusF f g).2]))
abbrev nLawPlus : List Str := ["_law_one", "_law_other"]
theorem scLawPlus : FnScope nLawPlus ["_law_one", "_law_other"] (defScope s_law_plus) := ⟨rfl, rfl, rfl, by decide +kernel, rfl, by decide +kernel, by decide +kernel⟩
theorem ok_plus {f : Addr} {fd : FuncData} {fcLow : Addr} {fdcLow : FuncData} (F : Fun K "_law_plus" "_law_plus" s_law_plus f fd) (T : NmA mg) (cLow : Cl P w K mg base CX0 34 "_law_low" fcLow fdcLow ["_law_top", "_law_bottom"] spLow) : FnOk P w K mg base CX0 35 f fd ["_law_one", "_law_other"] (spPlus K) := by
  refine F.ok scLawPlus (fun vs H Q E h => ?_) (fun cdv A' outer s H vs Q E hr h => ?_)
  · obtain ⟨a, c, f, g, rfl, _⟩ := h
    rfl
  · obtain ⟨a, c, f, g, rfl, ha, hc, sf, sg, k⟩ := h
    have hu := hu_of hr
    refine ⟨_, pss_one (ps_ret (cLow.call (hr.mono (by decide)) (pa_cons (pe_op op_add (pe_op op_mulW (pe_ix ix_tup (pv 0) pe_int (fun _ _ => rfl)) (pe_ix ix_tup (pv 1) pe_int (fun _ _ => rfl))) (pe_op op_mulW (pe_ix ix_tup (pv 1) pe_int (fun _ _ => rfl)) (pe_ix ix_tup (pv 0) pe_int (fun _ _ => rfl)))) (pa_cons (pe_op op_mulW (pe_ix ix_tup (pv 0) pe_int (fun _ _ => rfl)) (pe_ix ix_tup (pv 1) pe_int (fun _ _ => rfl))) pa_nil)))), ?_⟩
    have w1 : (f.1 * g.2).natAbs < 2 ^ 52000 := wide_lt sf.tl sg.bl
    have w2 : (g.1 * f.2).natAbs < 2 ^ 52000 := wide_lt sg.tl sf.bl
    refine ⟨_, rfl, a, _, _, _, rfl, rfl, ha, ats0 _ _, _, rfl, c, _, _, _, rfl, rfl, hc, ats1 _ _, _, _, rfl, rfl, wide_mul sf.tl sg.bl (by decide) (by decide) (by decide), ?_⟩
    refine ⟨_, rfl, c, _, _, _, rfl, rfl, hc, ats0 _ _, _, rfl, a, _, _, _, rfl, rfl, ha, ats1 _ _, _, _, rfl, rfl, wide_mul sg.tl sf.bl (by decide) (by decide) (by decide), _, _, rfl, rfl, ?_⟩
    refine ⟨_, rfl, a, _, _, _, rfl, rfl, ha, ats1 _ _, _, rfl, c, _, _, _, rfl, rfl, hc, ats1 _ _, _, _, rfl, rfl, wide_mul sf.bl sg.bl (by decide) (by decide) (by decide), ?_⟩
    exact ⟨_, _, rfl, Int.add_nonneg (Int.mul_nonneg sf.t0 (Int.le_of_lt sg.b0)) (Int.mul_nonneg sg.t0 (Int.le_of_lt sf.b0)), Int.mul_pos sf.b0 sg.b0, k⟩
/-- the sum of fractions over one bottom -/
def spSumL (K : PySem.W.Frag) : Sp := fun vs H Q _ => ∃ (a : Addr) (us : List V) (ts : List Int) (b : Int), vs = [.ref a] ∧ H a = some (.lst us) ∧ FrsIn K H us (ts.map fun t => lowP t b) ∧ 0 < b ∧ (∀ t ∈ ts, 0 ≤ t) ∧ b.natAbs < 2 ^ 26000 ∧ ts.sum.natAbs < 2 ^ 26000 ∧
  ∀ p H', H p = none → Same H H' → H' p = some (.tup [.int (lowP ts.sum b).1, .int (lowP ts.sum b).2]) → Q (.ref p) H'
abbrev nLawSum : List Str := ["_law_some", "_law_found", "_law_one"]
theorem scLawSum : FnScope nLawSum ["_law_some"] (defScope s_law_sum) := ⟨rfl, rfl, rfl, by decide +kernel, rfl, by decide +kernel, by decide +kernel⟩
theorem ok_sumL {f : Addr} {fd : FuncData} {fcPlus : Addr} {fdcPlus : FuncData} (F : Fun K "_law_sum" "_law_sum" s_law_sum f fd) (T : NmA mg) (cPlus : Cl P w K mg base CX0 35 "_law_plus" fcPlus fdcPlus ["_law_one", "_law_other"] (spPlus K)) : FnOk P w K mg base CX0 36 f fd ["_law_some"] (spSumL K) := by
  refine F.ok scLawSum (fun vs H Q E h => ?_) (fun cdv A' outer s H vs Q E hr h => ?_)
  · obtain ⟨a, us, ts, b, rfl, _⟩ := h
    rfl
  · obtain ⟨a, us, ts, b, rfl, hA, hF, b0, t0, b1, s1, k⟩ := h
    have hu := hu_of hr
    refine ⟨_, pss_cons (ps_set (i := 1) scLawSum.nd rfl (Or.inl rfl) (pe_tup (pa_cons pe_int (pa_cons pe_int pa_nil))))
      (pss_cons (ps_for PassesOwn.never rfl (pi_list (pv 0)) (pg_name (i := 2) scLawSum.nd rfl (Or.inl rfl))
        (pss_one (ps_set (i := 1) scLawSum.nd rfl (Or.inl rfl) (cPlus.call (hr.mono (by decide)) (pa_cons (pv 1) (pa_cons (pv 2) pa_nil))))))
      (pss_one (ps_ret (pv 1)))), ?_⟩
    have tb : ∀ i, (ts.take i).sum.natAbs < 2 ^ 26000 ∧ 0 ≤ (ts.take i).sum := fun i => by
      have n1 := sum_nn fun x hx => t0 x (List.mem_of_mem_take (i := i) hx)
      have n2 := sum_nn fun x hx => t0 x (List.mem_of_mem_drop (i := i) hx)
      have e : (ts.take i).sum + (ts.drop i).sum = ts.sum := by rw [← List.sum_append, List.take_append_drop]
      exact ⟨wide_le n1 (by omega) s1, n1⟩
    refine ⟨by show 2 ≤ sizeLine; decide, fun q hq => ?_⟩
    have l0 := hF.1
    rw [List.length_map] at l0
    refine ⟨_, rfl, a, rfl, ⟨_, SqL.of ((Same.new hq) _ _ hA)⟩, for_list (K := K) (a := a) (xs := us) (fun i σ H' => Same H H' ∧ ∃ (q : Addr) (u : Option V), H q = none ∧ H' q = some (.tup [.int (lowP (ts.take i).sum b).1, .int (lowP (ts.take i).sum b).2]) ∧ σ = [some (.ref a), some (.ref q), u]) ⟨Same.new hq, q, none, hq, ?_, rfl⟩ (fun i σ H' _ h => SqL.of (h.1 _ _ hA)) ?_ ?_⟩
    · show _ = some (HO.tup [.int (lowP 0 b).1, .int (lowP 0 b).2])
      rw [low_zero b0]
      exact upd_same
    · rintro i x σ H' hi ⟨s2, q, u, hn, h2, rfl⟩
      obtain ⟨f, hf, t, rfl, hT⟩ := hF.2 i x hi
      rw [List.getElem?_map] at hf
      obtain ⟨y, hy, rfl⟩ := Option.map_eq_some_iff.mp hf
      have ym := List.mem_of_getElem? hy
      refine ⟨_, rfl, _, rfl, q, t, lowP (ts.take i).sum b, lowP y b, rfl, SqT.of h2, s2.sqT hT, sz_low (tb i).2 b0 (tb i).1 b1, sz_low (t0 y ym) b0 (wide_le (t0 y ym) (le_sum t0 y ym) s1) b1, fun p hp => ⟨s2.trans (Same.new hp), p, some (.ref t), s2.free hp, ?_, rfl⟩⟩
      rw [plus_low b0, upd_same, List.take_add_one, hy, List.sum_append]
      show _ = some (HO.tup [.int (lowP (_ + (y + 0)) b).1, .int (lowP (_ + (y + 0)) b).2])
      rw [Int.add_zero]
    · rintro σ H' ⟨s2, q', u, hn, h2, rfl⟩
      rw [l0, List.take_length] at h2
      exact ⟨_, rfl, k q' H' hn s2 h2⟩
end
end Law

namespace Law
open PySem L2
/-! ### the law's own steps, and its own next spread -/
def RowsL (K : PySem.W.Frag) (H : Hp) (vs : List V) (rows : List (List Fr)) : Prop := vs.length = rows.length ∧ ∀ (i : Nat) (v : V), vs[i]? = some v → ∃ fs, rows[i]? = some fs ∧ ∃ l xs, v = .ref l ∧ H l = some (.lst xs) ∧ FrsIn K H xs fs
theorem RowsL.same {K : PySem.W.Frag} {H H' : Hp} {vs : List V} {rows : List (List Fr)} (h : RowsL K H vs rows) (s : Same H H') : RowsL K H' vs rows := ⟨h.1, fun i v hv => by
  obtain ⟨fs, h1, l, xs, h2, h3, h4⟩ := h.2 i v hv
  exact ⟨fs, h1, l, xs, h2, s _ _ h3, h4.same s⟩⟩
theorem set_mapR {α : Type} {n o : Nat} {f : Nat → α} {x : α} : ((List.range n).map f).set o x = (List.range n).map fun q => if q = o then x else f q := by
  refine List.ext_getElem? fun i => ?_
  rw [List.getElem?_set, List.getElem?_map, List.getElem?_map, List.length_map, List.length_range]
  by_cases il : i < n
  · rw [List.getElem?_range il]
    by_cases e : o = i
    · subst e
      simp [il]
    · simp [e, Ne.symm e]
  · rw [List.getElem?_eq_none (by rw [List.length_range]; omega)]
    by_cases e : o = i
    · subst e
      simp [il]
    · simp [e]
theorem FrsIn.set {K : PySem.W.Frag} {H : Hp} {l : Addr} {acc vs : List V} {fs : List Fr} {k : Nat} {v : V} {f : Fr} {o : HO} (h : FrsIn K H vs fs) (hl : H l = some (.lst acc)) (hv : FrAt K H v f) : FrsIn K (upd H l o) (vs.set k v) (fs.set k f) := ⟨by rw [List.length_set, List.length_set, h.1], fun i u hu => by
  rw [List.getElem?_set] at hu
  by_cases e : k = i
  · subst e
    rw [if_pos rfl] at hu
    by_cases kl : k < vs.length
    · rw [if_pos kl] at hu
      have hu := Option.some.inj hu
      subst hu
      obtain ⟨s, h2, h3⟩ := hv
      exact ⟨f, by rw [List.getElem?_set, if_pos rfl, if_pos (h.1 ▸ kl)], s, h2, sqT_upd hl h3⟩
    · rw [if_neg kl] at hu
      cases hu
  · rw [if_neg e] at hu
    obtain ⟨g, h1, s, h2, h3⟩ := h.2 i u hu
    exact ⟨g, by rw [List.getElem?_set, if_neg e]; exact h1, s, h2, sqT_upd hl h3⟩⟩
theorem share_low {many : Nat} {ms : List Mv} (ok : SysOk many ms) {m : Mv} (hm : m ∈ ms) : m.1 = lowP (m.1.1 * (((Bm ms : Nat) : Int) / m.1.2)) (Bm ms : Nat) := by
  obtain ⟨⟨a1, _⟩, a2, a3, _⟩ := ok.mv m hm
  have bp := bm_pos ok
  obtain ⟨c, hc⟩ := dvd_lcmAll (fs := frs ms) (List.mem_map.mpr ⟨m, hm, rfl⟩)
  have fa : ((m.1.2.natAbs : Nat) : Int) = m.1.2 := Int.natAbs_of_nonneg (Int.le_of_lt a1)
  have e : ((Bm ms : Nat) : Int) = m.1.2 * (c : Int) := by
    show ((lcmAll (frs ms) : Nat) : Int) = _
    rw [hc, Int.natCast_mul, fa]
  have q : ((Bm ms : Nat) : Int) / m.1.2 = (c : Int) := by
    rw [e]
    exact Int.mul_ediv_cancel_left _ (by omega)
  have c0 : (0 : Int) < (c : Int) := by
    rcases Nat.eq_zero_or_pos c with z | z
    · rw [z] at e
      rw [show m.1.2 * ((0 : Nat) : Int) = 0 from Int.mul_zero _] at e
      omega
    · omega
  rw [q, e, Int.mul_comm m.1.1, Int.mul_comm m.1.2, lowP_scale c0 a1]
  unfold lowP gI
  rw [a3]
  exact Prod.ext (Int.ediv_one _).symm (Int.ediv_one _).symm
theorem cell_sum : ∀ {ts : List Int} {Ls : List (List Int)}, (∀ t ∈ ts, 0 ≤ t) → ∀ s o, cellF ts Ls s o ≤ ts.sum
  | [], _, _, _, _ => Int.le_refl _
  | t :: ts, [], h, _, _ => sum_nn h
  | t :: ts, l :: Ls, h, s, o => by
    have ih := cell_sum (Ls := Ls) (fun x hx => h x (List.mem_cons_of_mem t hx)) s o
    have t0 := h t List.mem_cons_self
    show (if l[s]? = some ((o : Nat) : Int) then t else 0) + cellF ts Ls s o ≤ _
    rw [List.sum_cons]
    by_cases e : l[s]? = some ((o : Nat) : Int)
    · rw [if_pos e]
      omega
    · rw [if_neg e]
      omega
section
variable {P : Program} {w : World} {K : PySem.W.Frag} {mg : Str → Option Value} {base : Heap}
def spStepsL (K : PySem.W.Frag) : Sp := fun vs H Q _ => ∃ (mv : Addr) (many : Nat) (ms : List Mv), vs = [.int (many : Int), .ref mv] ∧ MvsAt K H mv ms ∧ SysOk many ms ∧
  ∀ D us H', Same H H' → H' D = some (.lst us) → RowsL K H' us (stepsF many ms) → Q (.ref D) H'
abbrev nLawSteps : List Str := ["_law_many", "_law_moves_here", "_law_rows", "_law_state", "_law_row", "_law_share", "_law_leads_here"]
theorem scLawSteps : FnScope nLawSteps ["_law_many", "_law_moves_here"] (defScope s_law_steps) := ⟨rfl, rfl, rfl, by decide +kernel, rfl, by decide +kernel, by decide +kernel⟩
theorem ok_stepsL {f : Addr} {fd : FuncData} {fcPlus : Addr} {fdcPlus : FuncData} (F : Fun K "_law_steps" "_law_steps" s_law_steps f fd) (T : NmA mg) (cPlus : Cl P w K mg base CX0 35 "_law_plus" fcPlus fdcPlus ["_law_one", "_law_other"] (spPlus K)) : FnOk P w K mg base CX0 36 f fd ["_law_many", "_law_moves_here"] (spStepsL K) := by
  refine F.ok scLawSteps (fun vs H Q E h => ?_) (fun cdv A' outer s H vs Q E hr h => ?_)
  · obtain ⟨mv, many, ms, rfl, _⟩ := h
    rfl
  · obtain ⟨mv, many, ms, rfl, hM, ok, k⟩ := h
    have hu := hu_of hr
    refine ⟨_, pss_cons (ps_set (i := 2) scLawSteps.nd rfl (Or.inl rfl) (pe_lst pa_nil))
      (pss_cons (ps_for PassesOwn.never rfl (pi_range1 (by rfl) T.range (pa_cons (pv 0) pa_nil)) (pg_name (i := 3) scLawSteps.nd rfl (Or.inl rfl))
        (pss_cons (ps_set (i := 4) scLawSteps.nd rfl (Or.inl rfl) (pe_op op_rep (pe_lst (pa_cons (pe_tup (pa_cons pe_int (pa_cons pe_int pa_nil))) pa_nil)) (pv 0)))
        (pss_cons (ps_for PassesOwn.never rfl (pi_tup (pv 1)) (pg_tup (by rfl) (pgs_cons (pg_name (i := 5) scLawSteps.nd rfl (Or.inl rfl)) (pgs_cons (pg_name (i := 6) scLawSteps.nd rfl (Or.inl rfl)) pgs_nil)))
          (pss_one (ps_asg (cPlus.call (hr.mono (by decide)) (pa_cons (pe_ix ix_list (pv 4) (pe_ix ix_tup (pv 6) (pv 3) (fun _ _ => rfl)) (fun _ _ => rfl)) (pa_cons (pv 5) pa_nil))) (pg_sub (pv 4) (pe_ix ix_tup (pv 6) (pv 3) (fun _ _ => rfl)) set_list))))
        (pss_one (ps_expr (pe_bm PySem.F.plainAttrs_list PySem.F.slot_list_append PySem.F.type_list_append mt_append (pv 2) (pa_cons (pv 4) pa_nil)))))))
      (pss_one (ps_ret (pv 2)))), ?_⟩
    obtain ⟨vs, hV, hMv⟩ := id hM
    have vl := hMv.1
    have m12 := ok.m2
    have m1 := ok.m1
    have bp := bm_pos ok
    have B0 : (0 : Int) < ((Bm ms : Nat) : Int) := by omega
    have Bl : (((Bm ms : Nat) : Nat) : Int).natAbs < 2 ^ 26000 := by
      rw [Int.natAbs_natCast]
      exact pow_mono (lcmAll_lt (fs := frs ms) (fun f hf => by
        obtain ⟨m, hm, rfl⟩ := List.mem_map.mp hf
        exact (ok.mv m hm).1) (by unfold frs; rw [List.length_map]; exact ok.l2)) (by decide)
    have tl : (tsM ms).length = ms.length := by
      unfold tsM topsOf frs
      rw [List.length_map, List.length_map]
    have cb : ∀ i s o, 0 ≤ cellF ((tsM ms).take i) ((ms.map (·.2)).take i) s o ∧ (cellF ((tsM ms).take i) ((ms.map (·.2)).take i) s o).natAbs < 2 ^ 26000 := fun i s o => by
      have nn : ∀ t ∈ (tsM ms).take i, 0 ≤ t := fun t ht => ts_nn ok t (List.mem_of_mem_take ht)
      have c0 := cell_nn (Ls := (ms.map (·.2)).take i) nn s o
      refine ⟨c0, wide_le c0 (Int.le_trans (cell_sum nn s o) ?_) Bl⟩
      have n2 := sum_nn fun x hx => ts_nn ok x (List.mem_of_mem_drop (i := i) hx)
      have e : ((tsM ms).take i).sum + ((tsM ms).drop i).sum = (tsM ms).sum := by rw [← List.sum_append, List.take_append_drop]
      have o1 : (tsM ms).sum = ((Bm ms : Nat) : Int) := ok.one
      omega
    refine ⟨by show 0 ≤ sizeLine; decide, fun W hW => ?_⟩
    refine ⟨_, rfl, (many : Int), rfl, by omega, by omega, ?_⟩
    rw [Int.toNat_natCast]
    refine for_range (lo := 0) (n := many) (fun s σ H' => Same H H' ∧ ∃ (us : List V) (u3 u4 u5 u6 : Option V), H' W = some (.lst us) ∧ RowsL K H' us ((List.range s).map (rowF (cellF (tsM ms) (ms.map (·.2))) (Bm ms) many)) ∧ (∀ l, V.ref l ∈ us → l ≠ W) ∧ σ = [some (.int (many : Int)), some (.ref mv), some (.ref W), u3, u4, u5, u6])
      ⟨Same.new hW, [], none, none, none, none, upd_same, ⟨rfl, fun i v hv => by simp at hv⟩, fun l hl => absurd hl List.not_mem_nil, rfl⟩ ?_ ?_
    · rintro s σ H' hs ⟨s1, us, u3, u4, u5, u6, hW1, hR, nW, rfl⟩
      refine ⟨by show 2 ≤ sizeLine; decide, fun q hq => ⟨by show 1 ≤ sizeLine; decide, fun q1 hq1 => ⟨_, rfl, q1, (many : Int), [.ref q], rfl, rfl, upd_same, by omega, by omega, Nat.le_of_lt (small1000 (show 1 * (many : Int).toNat ≤ 1000 by omega)), fun l hl => ?_⟩⟩⟩
      have eq : (List.replicate (many : Int).toNat [V.ref q]).flatten = List.replicate many (.ref q) := by
        rw [Int.toNat_natCast]
        exact rep_one _ _
      rw [eq]
      have t2 : Same H' (upd (upd H' q (.tup [.int 0, .int 1])) q1 (.lst [.ref q])) := (Same.new hq).trans (Same.new hq1)
      have fl : H' l = none := t2.free hl
      have gq := (Same.new (o := .lst [.ref q]) hq1) q _ (upd_same (H := H') (o := .tup [.int 0, .int 1]))
      have t5 := t2.trans (Same.new (o := .lst (List.replicate many (.ref q))) hl)
      have gq5 := (Same.new (o := .lst (List.replicate many (.ref q))) hl) q _ gq
      have gl : (upd (upd (upd H' q (.tup [.int 0, .int 1])) q1 (.lst [.ref q])) l (.lst (List.replicate many (.ref q)))) l = some (.lst (List.replicate many (.ref q))) := upd_same
      clear gq t2 hl hq1
      generalize upd (upd (upd H' q (.tup [.int 0, .int 1])) q1 (.lst [.ref q])) l (.lst (List.replicate many (.ref q))) = H5 at t5 gq5 gl ⊢
      have F0 : FrsIn K H5 (List.replicate many (.ref q)) ((List.range many).map fun o => lowP (cellF ((tsM ms).take 0) ((ms.map (·.2)).take 0) s o) (Bm ms : Nat)) := ⟨by rw [List.length_replicate, List.length_map, List.length_range], fun i v hv => by
        have il : i < many := by have := (List.getElem?_eq_some_iff.mp hv).1; rw [List.length_replicate] at this; exact this
        have ev := List.eq_of_mem_replicate (List.mem_of_getElem? hv)
        subst ev
        refine ⟨(0, 1), ?_, q, rfl, SqT.of gq5⟩
        rw [List.getElem?_map, List.getElem?_range il]
        show some (lowP 0 (Bm ms : Nat)) = _
        rw [low_zero B0]⟩
      refine ⟨_, rfl, mv, rfl, ⟨_, (s1.trans t5).sqT hV⟩, ?_⟩
      refine for_tup (K := K) (a := mv) (xs := vs) (fun i σ H2 => Same H' H2 ∧ ∃ (xs : List V) (u5 u6 : Option V), H2 l = some (.lst xs) ∧ FrsIn K H2 xs ((List.range many).map fun o => lowP (cellF ((tsM ms).take i) ((ms.map (·.2)).take i) s o) (Bm ms : Nat)) ∧ σ = [some (.int (many : Int)), some (.ref mv), some (.ref W), some (.int (0 + (s : Int))), some (.ref l), u5, u6])
        ⟨t5, _, u5, u6, gl, F0, rfl⟩ (fun i σ H2 _ g => (s1.trans g.1).sqT hV) ?_ ?_
      · rintro i x σ H2 hi ⟨t6, xs, v5, v6, hl6, F6, rfl⟩
        obtain ⟨m, hm, a, st, ld, rfl, hA, hT, hL⟩ := hMv.2 i x hi
        have mm := List.mem_of_getElem? hm
        obtain ⟨fo, fp, fg, mlen, mlt⟩ := ok.mv m mm
        have s6 := s1.trans t6
        have gz : m.2[s]? = some (m.2[s]'(by omega)) := List.getElem?_eq_getElem (by omega)
        obtain ⟨z0, z1⟩ := mlt _ (List.getElem_mem (show s < m.2.length by omega))
        obtain ⟨o, ho⟩ := Int.eq_ofNat_of_zero_le z0
        rw [ho] at z1 gz
        have om : o < many := by omega
        have top : (tsM ms)[i]? = some (m.1.1 * (((Bm ms : Nat) : Int) / m.1.2)) := by
          unfold tsM topsOf frs
          rw [List.getElem?_map, List.getElem?_map, hm] <;> rfl
        have xl : o < xs.length := by rw [F6.1, List.length_map, List.length_range]; exact om
        obtain ⟨f, hf, w0, hw, hT0⟩ := F6.2 o xs[o] (List.getElem?_eq_getElem xl)
        rw [List.getElem?_map, List.getElem?_range om] at hf
        have hf : lowP (cellF ((tsM ms).take i) ((ms.map (·.2)).take i) s o) (Bm ms : Nat) = f := Option.some.inj hf
        subst hf
        have lm : (m.2.map V.int)[s]? = some (.int (o : Int)) := by rw [List.getElem?_map, gz] <;> rfl
        refine ⟨a, _, rfl, s6.sqT hA, rfl, _, _, rfl, _, _, rfl, rfl, ?_⟩
        refine ⟨_, rfl, _, rfl, _, rfl, ld, _, _, .int (o : Int), rfl, rfl, s6.sqT hL, by rw [Int.zero_add]; exact atI_nat lm, l, _, _, .ref w0, rfl, rfl, SqL.of hl6, atI_nat (by rw [List.getElem?_eq_getElem xl, hw]), ?_⟩
        refine ⟨_, rfl, w0, st, _, m.1, rfl, hT0, s6.sqT hT, sz_low (cb i s o).1 B0 (cb i s o).2 Bl, ⟨Int.le_of_lt fp, fo.1, pow_mono fo.2.2 (by decide), pow_mono fo.2.1 (by decide)⟩, fun p hp => ?_⟩
        have t7 : Same H' (upd H2 p (.tup [.int (plusF (lowP (cellF ((tsM ms).take i) ((ms.map (·.2)).take i) s o) (Bm ms : Nat)) m.1).1, .int (plusF (lowP (cellF ((tsM ms).take i) ((ms.map (·.2)).take i) s o) (Bm ms : Nat)) m.1).2])) := t6.trans (Same.new hp)
        have hl7 := (Same.new (o := .tup [.int (plusF (lowP (cellF ((tsM ms).take i) ((ms.map (·.2)).take i) s o) (Bm ms : Nat)) m.1).1, .int (plusF (lowP (cellF ((tsM ms).take i) ((ms.map (·.2)).take i) s o) (Bm ms : Nat)) m.1).2]) hp) _ _ hl6
        have F7 := F6.same (Same.new (o := .tup [.int (plusF (lowP (cellF ((tsM ms).take i) ((ms.map (·.2)).take i) s o) (Bm ms : Nat)) m.1).1, .int (plusF (lowP (cellF ((tsM ms).take i) ((ms.map (·.2)).take i) s o) (Bm ms : Nat)) m.1).2]) hp)
        have hp7 : (upd H2 p (.tup [.int (plusF (lowP (cellF ((tsM ms).take i) ((ms.map (·.2)).take i) s o) (Bm ms : Nat)) m.1).1, .int (plusF (lowP (cellF ((tsM ms).take i) ((ms.map (·.2)).take i) s o) (Bm ms : Nat)) m.1).2])) p = some _ := upd_same
        generalize upd H2 p (.tup [.int (plusF (lowP (cellF ((tsM ms).take i) ((ms.map (·.2)).take i) s o) (Bm ms : Nat)) m.1).1, .int (plusF (lowP (cellF ((tsM ms).take i) ((ms.map (·.2)).take i) s o) (Bm ms : Nat)) m.1).2]) = H7 at t7 hl7 F7 hp7 ⊢
        refine ⟨_, rfl, _, rfl, _, rfl, ld, _, _, .int (o : Int), rfl, rfl, (s1.trans t7).sqT hL, by rw [Int.zero_add]; exact atI_nat lm, l, _, _, o, rfl, rfl, hl7, Evl.ixN_nat xl, ?_⟩
        refine ⟨t7.mut fl, _, _, _, upd_same, ?_, rfl⟩
        have F8 := F7.set (o := .lst (xs.set o (.ref p))) hl7 (k := o) (v := .ref p) (f := plusF (lowP (cellF ((tsM ms).take i) ((ms.map (·.2)).take i) s o) (Bm ms : Nat)) m.1) ⟨p, rfl, SqT.of hp7⟩
        rw [set_mapR] at F8
        refine (congrArg (fun z => FrsIn K _ _ z) (List.map_congr_left fun q' hq' => ?_)).mp F8
        have hc : cellF ((tsM ms).take (i + 1)) ((ms.map (·.2)).take (i + 1)) s q' = cellF ((tsM ms).take i) ((ms.map (·.2)).take i) s q' + if m.2[s]? = some ((q' : Nat) : Int) then m.1.1 * (((Bm ms : Nat) : Int) / m.1.2) else 0 := by
          rw [List.take_add_one, top, List.take_add_one, List.getElem?_map, hm]
          exact cellF_snoc (by have := (List.getElem?_eq_some_iff.mp hm).1; rw [List.length_take, List.length_take, List.length_map]; omega) s q'
        rw [hc, gz]
        by_cases e : q' = o
        · subst e
          rw [if_pos rfl, if_pos rfl]
          conv => lhs; rw [share_low ok mm]
          exact plus_low B0
        · rw [if_neg e, if_neg (fun z => e (by have := Option.some.inj z; omega)), Int.add_zero]
      · rintro σ H2 ⟨t6, xs, v5, v6, hl6, F6, rfl⟩
        have hW6 := t6 _ _ hW1
        rw [vl, List.take_of_length_le (by omega), List.take_of_length_le (by rw [List.length_map]; exact Nat.le_refl _)] at F6
        have ul : us.length = s := by rw [hR.1, List.length_map, List.length_range]
        have lW : l ≠ W := fun e => by rw [e] at fl; rw [fl] at hW1; cases hW1
        have nW2 : ∀ l2, V.ref l2 ∈ us ++ [V.ref l] → l2 ≠ W := fun l2 hl2 => by
          rcases List.mem_append.mp hl2 with h | h
          · exact nW l2 h
          · have h := List.mem_singleton.mp h
            injection h with h
            rw [h]
            exact lW
        refine ⟨_, rfl, .inl ⟨rfl, _, SqL.of hW6⟩, _, rfl, W, _, _, rfl, rfl, hW6, small1000 (by omega), (s1.trans t6).mut hW, _, _, _, _, _, upd_same, ?_, nW2, rfl⟩
        rw [map_snoc]
        refine ⟨by rw [List.length_append, List.length_append, hR.1] <;> rfl, fun i v hv => ?_⟩
        rcases snoc_get hv with ⟨il, e⟩ | ⟨il, rfl⟩
        · obtain ⟨fs, h1, l', xs', h2, h3, h4⟩ := hR.2 i v e
          have l'W : l' ≠ W := nW l' (h2 ▸ List.mem_of_getElem? e)
          exact ⟨fs, by rw [List.getElem?_append_left (by rw [← hR.1]; exact il)]; exact h1, l', xs', h2, by rw [upd_ne l'W]; exact t6 _ _ h3, (h4.same t6).updL hW6⟩
        · subst il
          exact ⟨_, by rw [hR.1, List.getElem?_append_right (Nat.le_refl _), Nat.sub_self] <;> rfl, l, xs, rfl, by rw [upd_ne lW]; exact hl6, F6.updL hW6⟩
    · rintro σ H' ⟨s1, us, u3, u4, u5, u6, hW1, hR, nW, rfl⟩
      exact ⟨_, rfl, k W us H' s1 hW1 hR⟩
end
end Law

namespace Law
open PySem L2
section
variable {P : Program} {w : World} {K : PySem.W.Frag} {mg : Str → Option Value} {base : Heap}
def spNext (K : PySem.W.Frag) : Sp := fun vs H Q _ => ∃ (D a : Addr) (us xs : List V) (many : Nat) (U : Nat → Int) (G : Nat → Nat → Int) (M B : Nat), vs = [.ref D, .ref a] ∧ H D = some (.lst us) ∧ RowsL K H us ((List.range many).map fun s => (List.range many).map fun o => lowP (G s o) (B : Nat)) ∧
  SqT K H a xs ∧ FrsIn K H xs ((List.range many).map fun s => lowP (U s) (M : Nat)) ∧ many ≤ 12 ∧ 0 < M ∧ 0 < B ∧ M < 2 ^ 13000 ∧ B < 2 ^ 13000 ∧ (∀ s, s < many → 0 ≤ U s ∧ U s ≤ (M : Int)) ∧ (∀ s o, s < many → o < many → 0 ≤ G s o ∧ G s o ≤ (B : Int)) ∧
  (∀ o, o < many → ((List.range many).map fun s => U s * G s o).sum.natAbs < 2 ^ 26000) ∧
  ∀ t xs' H', Same H H' → H' t = some (.tup xs') → FrsIn K H' xs' ((List.range many).map fun o => lowP ((List.range many).map fun s => U s * G s o).sum ((M * B : Nat) : Int)) → Q (.ref t) H'
abbrev nLawNext : List Str := ["_law_rows", "_law_here_now", "_law_found", "_law_state", "_law_other"]
theorem scLawNext : FnScope nLawNext ["_law_rows", "_law_here_now"] (defScope s_law_next) := ⟨rfl, rfl, rfl, by decide +kernel, rfl, by decide +kernel, by decide +kernel⟩
theorem ok_next {f : Addr} {fd : FuncData} {fcSumL : Addr} {fdcSumL : FuncData} {fcTimes : Addr} {fdcTimes : FuncData} (F : Fun K "_law_next" "_law_next" s_law_next f fd) (T : NmA mg) (cSumL : Cl P w K mg base CX0 36 "_law_sum" fcSumL fdcSumL ["_law_some"] (spSumL K)) (cTimes : Cl P w K mg base CX0 35 "_law_times" fcTimes fdcTimes ["_law_one", "_law_other"] (spTimes K)) : FnOk P w K mg base CX0 37 f fd ["_law_rows", "_law_here_now"] (spNext K) := by
  refine F.ok scLawNext (fun vs H Q E h => ?_) (fun cdv A' outer s H vs Q E hr h => ?_)
  · obtain ⟨D, a, us, xs, many, U, G, M, B, rfl, _⟩ := h
    rfl
  · obtain ⟨D, a, us, xs, many, U, G, M, B, rfl, hD, hR, ha, hF, m12, M0, B0, Ml, Bl, hU, hG, hs, k⟩ := h
    have hu := hu_of hr
    refine ⟨_, pss_cons (ps_set (i := 2) scLawNext.nd rfl (Or.inl rfl) (pe_lst pa_nil))
      (pss_cons (ps_for PassesOwn.never rfl (pi_range1 (by rfl) T.range (pa_cons (pe_callB call_len_seq (by rfl) T.len PySem.boot_len (pa_cons (pv 0) pa_nil)) pa_nil)) (pg_name (i := 3) scLawNext.nd rfl (Or.inr rfl))
        (pss_one (ps_expr (pe_bm PySem.F.plainAttrs_list PySem.F.slot_list_append PySem.F.type_list_append mt_append (pv 2) (pa_cons (cSumL.call (hr.mono (by decide)) (pa_cons (pe_lc (own := [("_law_other", 4)]) (g := (gName 4)) (tt := tYes) rfl scLawNext.nd  (pi_range1 (by rfl) T.range (pa_cons (pe_callB call_len_seq (by rfl) T.len PySem.boot_len (pa_cons (pv 0) pa_nil)) pa_nil)) (blkOk_by (own := [("_law_other", 4)]) (N := nLawNext) (sc := defScope s_law_next) (by decide +kernel)) (fun _ _ _ _ _ => (pg_name (i := 4) scLawNext.nd rfl (Or.inl rfl))) (fun _ _ _ _ _ => pts_nil) (fun _ _ _ _ _ => (cTimes.call (hr.mono (by decide)) (pa_cons (pe_ix (r := rIxT K) (show IxR _ (rIxT K) from ix_tup) (pv 1) (pv 4) (fun _ _ => rfl)) (pa_cons (pe_ix (r := rIxL K) (show IxR _ (rIxL K) from ix_list) (pe_ix (r := rIxL K) (show IxR _ (rIxL K) from ix_list) (pv 0) (pv 4) (fun _ _ => rfl)) (pv 3) (fun _ _ => rfl)) pa_nil))))) pa_nil)) pa_nil)))))
      (pss_one (ps_ret (pe_callTy call_tuple_of (by rfl) T.tuple (by decide +kernel) (pa_cons (pv 2) pa_nil))))), ?_⟩
    have ul : us.length = many := by rw [hR.1, List.length_map, List.length_range]
    have MB : (0 : Int) < ((M * B : Nat) : Int) := by
      have := Nat.mul_pos M0 B0
      omega
    have MBl : (((M * B : Nat) : Nat) : Int).natAbs < 2 ^ 26000 := by
      rw [Int.natAbs_natCast, show (26000 : Nat) = 13000 + 13000 from rfl, Nat.pow_add]
      exact Nat.mul_lt_mul_of_lt_of_lt Ml Bl
    have M1 : (0 : Int) < ((M : Nat) : Int) := by omega
    have B1 : (0 : Int) < ((B : Nat) : Int) := by omega
    have Ml2 : (((M : Nat) : Nat) : Int).natAbs < 2 ^ 100000 := by rw [Int.natAbs_natCast]; exact pow_mono Ml (by decide)
    have Bl2 : (((B : Nat) : Nat) : Int).natAbs < 2 ^ 100000 := by rw [Int.natAbs_natCast]; exact pow_mono Bl (by decide)
    refine ⟨by show 0 ≤ sizeLine; decide, fun W hW => ?_⟩
    have W0 := Same.new (o := .lst []) hW
    refine ⟨_, rfl, D, _, rfl, .inl (SqL.of (W0 _ _ hD)), ((us.length : Nat) : Int), rfl, by omega, by omega, ?_⟩
    rw [Int.toNat_natCast]
    refine for_range (lo := 0) (n := us.length) (fun o σ H' => Same H H' ∧ ∃ (acc : List V) (u : Option V), H' W = some (.lst acc) ∧ FrsIn K H' acc ((List.range o).map fun o => lowP ((List.range many).map fun s => U s * G s o).sum ((M * B : Nat) : Int)) ∧ σ = [some (.ref D), some (.ref a), some (.ref W), u, none]) ⟨W0, [], none, upd_same, FrsIn.nil, rfl⟩ ?_ ?_
    · rintro o σ H' ho ⟨s1, acc, u, hW1, hF1, rfl⟩
      have om : o < many := by omega
      refine ⟨_, rfl, .inl ⟨rfl, _, SqL.of hW1⟩, _, rfl, D, _, rfl, .inl (SqL.of (s1 _ _ hD)), ((us.length : Nat) : Int), rfl, by omega, by omega, fun D2 hD2 => ?_⟩
      refine lc_range (lo := 0) (n := us.length) (fun s H2 => Same H' H2 ∧ ∃ acc2, H2 D2 = some (.lst acc2) ∧ FrsIn K H2 acc2 (((List.range s).map fun s => U s * G s o).map fun t => lowP t ((M * B : Nat) : Int))) ⟨Same.new hD2, [], upd_same, FrsIn.nil⟩ (fun s H2 hs g => ?_) fun H2 g => ?_
      · obtain ⟨s2, acc2, g1, g2⟩ := g
        have sm : s < many := by omega
        have s12 := s1.trans s2
        have us1 : us[s]? = some (us[s]'hs) := List.getElem?_eq_getElem hs
        obtain ⟨fs, e1, l, ys, e2, e3, e4⟩ := hR.2 s us[s] us1
        rw [List.getElem?_map, List.getElem?_range sm] at e1
        have e1 := Option.some.inj e1
        subst e1
        rw [e2] at us1
        have xl : s < xs.length := by rw [hF.1, List.length_map, List.length_range]; exact sm
        obtain ⟨f1, e5, t1, e6, e7⟩ := hF.2 s xs[s] (List.getElem?_eq_getElem xl)
        rw [List.getElem?_map, List.getElem?_range sm] at e5
        have e5 := Option.some.inj e5
        subst e5
        have yl : o < ys.length := by rw [e4.1, List.length_map, List.length_range]; exact om
        obtain ⟨f2, e8, t2, e9, e10⟩ := e4.2 o ys[o] (List.getElem?_eq_getElem yl)
        rw [List.getElem?_map, List.getElem?_range om] at e8
        have e8 := Option.some.inj e8
        subst e8
        obtain ⟨u0, u1⟩ := hU s sm
        obtain ⟨c0, c1⟩ := hG s o sm om
        obtain ⟨p1, p2⟩ := lowP_le u0 M1
        obtain ⟨p3, p4⟩ := lowP_le c0 B1
        have q1 := lowP_nn u0 M1
        have q2 := lowP_pos2 (t := U s) M1
        have q3 := lowP_nn c0 B1
        have q4 := lowP_pos2 (t := G s o) B1
        have al : acc2.length = s := by rw [g2.1, List.length_map, List.length_map, List.length_range]
        refine ⟨rfl, _, rfl, _, rfl, a, xs, _, .ref t1, rfl, rfl, s12.sqT ha, by rw [Int.zero_add]; exact atI_nat (by rw [List.getElem?_eq_getElem xl, e6]), ?_⟩
        refine ⟨_, rfl, _, rfl, D, us, _, .ref l, rfl, rfl, SqL.of (s12 _ _ hD), by rw [Int.zero_add]; exact atI_nat us1, _, rfl, l, ys, _, .ref t2, rfl, rfl, SqL.of (s12 _ _ e3), by rw [Int.zero_add]; exact atI_nat (by rw [List.getElem?_eq_getElem yl, e9]), ?_⟩
        refine ⟨t1, t2, _, _, rfl, s12.sqT e7, s12.sqT e10, q1, q3, q2, q4, wide_le q1 (Int.le_trans p1 u1) Ml2, wide_le (Int.le_of_lt q2) p2 Ml2, wide_le q3 (Int.le_trans p3 c1) Bl2, wide_le (Int.le_of_lt q4) p4 Bl2, fun p hp => ⟨acc2, Same.new hp _ _ g1, small1000 (by omega), (s2.trans (Same.new hp)).mut hD2, _, upd_same, ?_⟩⟩
        rw [map_snoc, List.map_append]
        refine (g2.same (Same.new hp)).snoc (Same.new hp _ _ g1) ⟨p, rfl, ?_⟩
        have tm : timesF (lowP (U s) (M : Nat)) (lowP (G s o) (B : Nat)) = lowP (U s * G s o) ((M * B : Nat) : Int) := by
          rw [times_low M1 B1, Int.natCast_mul]
        show SqT K (upd H2 p (.tup [.int (timesF (lowP (U s) (M : Nat)) (lowP (G s o) (B : Nat))).1, .int (timesF (lowP (U s) (M : Nat)) (lowP (G s o) (B : Nat))).2])) p [.int (lowP (U s * G s o) ((M * B : Nat) : Int)).1, .int (lowP (U s * G s o) ((M * B : Nat) : Int)).2]
        rw [tm]
        exact SqT.of upd_same
      · obtain ⟨s2, acc2, g1, g2⟩ := g
        rw [ul] at g2
        refine ⟨D2, acc2, _, _, rfl, g1, g2, MB, fun t ht => ?_, MBl, hs o om, fun p H3 hp s3 h3 => ?_⟩
        · obtain ⟨s, hs', rfl⟩ := List.mem_map.mp ht
          have sm := List.mem_range.mp hs'
          exact Int.mul_nonneg (hU s sm).1 (hG s o sm om).1
        · have s23 := s2.trans s3
          have al : acc.length = o := by rw [hF1.1, List.length_map, List.length_range]
          refine ⟨W, acc, .ref p, rfl, rfl, s23 _ _ hW1, small1000 (by omega), (s1.trans s23).mut hW, _, _, upd_same, ?_, rfl⟩
          rw [map_snoc]
          exact (hF1.same s23).snoc (s23 _ _ hW1) ⟨p, rfl, SqT.of h3⟩
    · rintro σ H' ⟨s1, acc, u, hW1, hF1, rfl⟩
      rw [ul] at hF1
      exact ⟨_, rfl, W, _, rfl, .inl ⟨SqL.of hW1, fun q hq => k q acc _ (s1.trans (Same.new hq)) upd_same (hF1.same (Same.new hq))⟩⟩
end
end Law

namespace Law
open PySem L2
section
variable {P : Program} {w : World} {K : PySem.W.Frag} {mg : Str → Option Value} {base : Heap}
def spMovesN (K : PySem.W.Frag) : Sp := fun vs H Q _ => ∃ (p : Addr) (many most : Nat), vs = [.ref p, .int (many : Int), .int (most : Int)] ∧ 1 ≤ many ∧ many ≤ 12 ∧ 1 ≤ most ∧ most ≤ 24 ∧ HandAt H p ∧
  ∀ (l : Addr) (H' : Hp) (ms : List Mv), Stp p H H' → MvsAt K H' l ms → MvsOk many ms → ms.length ≤ most → Q (.ref l) H'
abbrev nMoves : List Str := ["_law_hand_here", "_law_many", "_law_most", "_law_count", "_law_one", "_law_found", "_law_share", "_law_leads_here", "_law_k"]
theorem scMoves : FnScope nMoves ["_law_hand_here", "_law_many", "_law_most"] (defScope s_law_moves) := ⟨rfl, rfl, rfl, by decide +kernel, rfl, by decide +kernel, by decide +kernel⟩
theorem ok_moves {f fD fS fL : Addr} {fd fdD fdS fdL : FuncData} (F : Fun K "_law_moves" "_law_moves" s_law_moves f fd) (T : NmA mg) (D : Cl P w K mg base CX0 1 "_law_draw" fD fdD ["_law_hand_here", "_law_many"] spDraw)
    (S : Cl P w K mg base CX0 35 "_law_shares" fS fdS ["_law_hand_here", "_law_many"] (spShares K)) (L : Cl P w K mg base CX0 3 "_law_leads" fL fdL ["_law_hand_here", "_law_many"] (spLeads K)) :
    FnOk P w K mg base CX0 36 f fd ["_law_hand_here", "_law_many", "_law_most"] (spMovesN K) := by
  refine F.ok scMoves (fun vs H Q E h => ?_) (fun cdv A' outer s H vs Q E hr h => ?_)
  · obtain ⟨p, many, most, rfl, _⟩ := h
    rfl
  · obtain ⟨p, many, most, rfl, m1, m12, c1, c24, hH, k⟩ := h
    have hr1 := hr.mono (show 1 ≤ 35 by decide)
    refine ⟨_, pss_cons (ps_set (i := 3) scMoves.nd rfl (Or.inl rfl) (pe_op op_add pe_int (D.call hr1 (pa_cons (pv 0) (pa_cons (pv 2) pa_nil)))))
      (pss_cons (ps_set (i := 4) scMoves.nd rfl (Or.inl rfl) (D.call hr1 (pa_cons (pv 0) (pa_cons pe_int pa_nil))))
      (pss_cons (ps_set (i := 5) scMoves.nd rfl (Or.inl rfl) (pe_lst pa_nil))
      (pss_cons (ps_for PassesOwn.never rfl (pi_list (S.call hr (pa_cons (pv 0) (pa_cons (pv 3) pa_nil)))) (pg_name (i := 6) scMoves.nd rfl (Or.inl rfl))
        (pss_cons (ps_set (i := 7) scMoves.nd rfl (Or.inr rfl) (L.call (hr.mono (by decide)) (pa_cons (pv 0) (pa_cons (pv 1) pa_nil))))
        (pss_cons (ps_if (PW.pt (pw_and (pt_cmpR op_eq (pv 4) pe_int (nomark _)) (pw_and1 (pt_cmpR op_gt (pe_callB call_len_seq (by rfl) T.len PySem.boot_len (pa_cons (pv 5) pa_nil)) pe_int (nomark _)))))
          (pss_one (ps_set (i := 7) scMoves.nd rfl (Or.inr rfl) (pe_callTy call_tuple_of (by rfl) T.tuple (by decide +kernel) (pa_cons (pe_lc (own := [("_law_k", 8)]) (g := gName 8) (tt := tYes) rfl scMoves.nd (pi_tup (pe_ix ix_tup (pe_ix ix_list (pv 5) pe_int (fun _ _ => rfl)) pe_int (fun _ _ => rfl)))
            (blkOk_by (own := [("_law_k", 8)]) (N := nMoves) (sc := defScope s_law_moves) (by decide +kernel)) (fun _ _ _ _ _ => pg_name (i := 8) scMoves.nd rfl (Or.inl rfl)) (fun _ _ _ _ _ => pts_nil)
            (fun _ _ _ _ _ => pe_op op_mod (pe_callTy (r := fun xs H Q => (∃ i, xs = [.int i] ∧ Q (.int i) H) ∨ ∃ k, xs = [.bl k] ∧ Q (.int (if k then 1 else 0)) H) call_int1 (by rfl) T.int (by decide +kernel)
              (pa_cons (pe_op op_add (pv 8) (pe_ix (r := rIxT K) (show IxR _ (rIxT K) from ix_tup) (pv 7) pe_int (fun _ _ => rfl))) pa_nil)) (pv 1))) pa_nil)))) pss_nil)
        (pss_one (ps_expr (pe_bm PySem.F.plainAttrs_list PySem.F.slot_list_append PySem.F.type_list_append mt_append (pv 5) (pa_cons (pe_tup (pa_cons (pv 6) (pa_cons (pv 7) pa_nil))) pa_nil)))))))
      (pss_one (ps_ret (pe_callTy call_tuple_of (by rfl) T.tuple (by decide +kernel) (pa_cons (pv 5) pa_nil))))))), ?_⟩
    refine ⟨_, rfl, _, rfl, p, (most : Int), rfl, by omega, by omega, hH, fun d H1 d0 d1 S1 => ⟨_, _, rfl, rfl, ?_⟩⟩
    obtain ⟨c, rfl⟩ := Int.eq_ofNat_of_zero_le d0
    refine ⟨_, rfl, p, 5, rfl, by decide, by decide, S1.hand, fun e H2 e0 e1 S2 => ?_⟩
    refine ⟨by show 0 ≤ sizeLine; decide, fun W hW => ?_⟩
    have S12 := S1.trans S2
    have hWH : H W = none := S12.free hW
    have S3 : Stp p H (upd H2 W (.lst [])) := S12.post (Same.new hW)
    have g3 : (upd H2 W (.lst [])) W = some (.lst []) := upd_same
    generalize upd H2 W (.lst []) = H3 at S3 g3 ⊢
    refine ⟨_, rfl, _, rfl, p, 1 + c, rfl, by omega, by omega, S3.hand, fun D H4 us fs hD3 S4 hD hF hn hg one => ?_⟩
    have WD : W ≠ D := ne_of_none g3 hD3
    have nW : W ≠ p := ne_of g3 S3.hand.dk.choose_spec (by intro z; cases z)
    have hus : us.length = fs.length := hF.1
    refine ⟨D, rfl, ⟨_, SqL.of hD⟩, for_list (K := K) (a := D) (xs := us) (fun i σ H' => Stp p H H' ∧ H' D = some (.lst us) ∧ FrsIn K H' us fs ∧ ∃ (acc : List V) (ms : List Mv) (u v : Option V), H' W = some (.lst acc) ∧ MvsIn K H' acc ms ∧ ms.map (·.1) = fs.take i ∧ (∀ m ∈ ms, MvOk many m ∧ m.1.1 < 2 ^ 40 ∧ m.1.2 < 2 ^ 40) ∧
      σ = [some (.ref p), some (.int (many : Int)), some (.int (most : Int)), some (.int (1 + (c : Int))), some (.int e), some (.ref W), u, v, none]) ?_ (fun i σ H' _ h => SqL.of h.2.1) ?_ ?_⟩
    · refine ⟨S3.trans S4, hD, hF, [], [], none, none, S4.keep _ _ nW g3, ⟨rfl, fun i v hv => by simp at hv⟩, rfl, fun m hm => absurd hm List.not_mem_nil, rfl⟩
    · rintro i x σ H' hi ⟨S5, h1, h2, acc, ms, u, v, h3, h4, h5, h6, rfl⟩
      obtain ⟨g, hg1, t, rfl, hT⟩ := h2.2 i x hi
      have gm := List.mem_of_getElem? hg1
      have hil : i < fs.length := (List.getElem?_eq_some_iff.mp hg1).1
      have hml : ms.length = i := by
        have z := congrArg List.length h5
        rw [List.length_map, List.length_take] at z
        omega
      have nD : D ≠ p := ne_of h1 S5.hand.dk.choose_spec (by intro z; cases z)
      have nW' : W ≠ p := nW
      refine ⟨_, rfl, _, rfl, p, many, rfl, m1, m12, S5.hand, fun l H6 xs S6 hl hxl hxb => ?_⟩
      have fin : ∀ (l' : Addr) (H7 : Hp) (ys : List Int), Stp p H' H7 → H7 l' = some (.tup (ys.map V.int)) → ys.length = many → (∀ x ∈ ys, 0 ≤ x ∧ x < (many : Int)) →
          ∀ q, H7 q = none → ∃ l xs y, V.ref W = .ref l ∧ [V.ref q] = [y] ∧ (upd H7 q (.tup [.ref t, .ref l'])) l = some (.lst xs) ∧ xs.length < sizeLine ∧
            (Stp p H (upd (upd H7 q (.tup [.ref t, .ref l'])) l (.lst (xs ++ [y]))) ∧ (upd (upd H7 q (.tup [.ref t, .ref l'])) l (.lst (xs ++ [y]))) D = some (.lst us) ∧ FrsIn K (upd (upd H7 q (.tup [.ref t, .ref l'])) l (.lst (xs ++ [y]))) us fs ∧
              ∃ (acc : List V) (ms : List Mv) (u v : Option V), (upd (upd H7 q (.tup [.ref t, .ref l'])) l (.lst (xs ++ [y]))) W = some (.lst acc) ∧ MvsIn K (upd (upd H7 q (.tup [.ref t, .ref l'])) l (.lst (xs ++ [y]))) acc ms ∧ ms.map (·.1) = fs.take (i + 1) ∧ (∀ m ∈ ms, MvOk many m ∧ m.1.1 < 2 ^ 40 ∧ m.1.2 < 2 ^ 40) ∧
              [some (V.ref p), some (.int (many : Int)), some (.int (most : Int)), some (.int (1 + (c : Int))), some (.int e), some (.ref W), some (.ref t), some (.ref l'), none] = [some (.ref p), some (.int (many : Int)), some (.int (most : Int)), some (.int (1 + (c : Int))), some (.int e), some (.ref W), u, v, none]) := by
        intro l' H7 ys S7 hl' hyl hyb q hq
        have s8 : Same H7 (upd H7 q (.tup [.ref t, .ref l'])) := Same.new hq
        have g8 : (upd H7 q (.tup [.ref t, .ref l'])) q = some (.tup [.ref t, .ref l']) := upd_same
        generalize upd H7 q (.tup [.ref t, .ref l']) = H8 at s8 g8 ⊢
        have S8 : Stp p H' H8 := S7.post s8
        have w8 := S8.keep _ _ nW h3
        have F8 : FrsIn K H8 us fs := S8.fr S5.hand h2
        refine ⟨W, acc, _, rfl, rfl, w8, small1000 (by have := h4.1; omega), (S5.trans S8).mut hH hWH, ?_, ⟨F8.1, fun j v hj => ?_⟩, acc ++ [.ref q], ms ++ [(g, ys)], _, _, upd_same, (S8.mv S5.hand h4).snoc w8 ⟨q, t, l', rfl, SqT.of g8, S8.sqT S5.hand hT, SqT.of (s8 _ _ hl')⟩, ?_, ?_, rfl⟩
        · rw [upd_ne (Ne.symm WD)]
          exact S8.keep _ _ nD h1
        · obtain ⟨f, y1, y2, y3, y4⟩ := F8.2 j v hj
          exact ⟨f, y1, y2, y3, sqT_upd w8 y4⟩
        · rw [List.map_append, h5, List.take_add_one, hg1] <;> rfl
        · intro m hm
          rcases List.mem_append.mp hm with hm | hm
          · exact h6 m hm
          · rw [List.mem_singleton.mp hm]
            obtain ⟨⟨g1, g2, g3⟩, g4, g5⟩ := hg g gm
            exact ⟨⟨g1, g2, g3, hyl, hyb⟩, g4, g5⟩
      have fin1 : ∀ q, H6 q = none → _ := fin l H6 xs S6 hl hxl hxb
      have w6 := S6.keep _ _ nW h3
      refine ⟨_, rfl, rfl, _, rfl, ite2 (fun _ => ?_) (fun _ => ?_)⟩
      · refine ⟨_, rfl, W, _, rfl, .inl (SqL.of w6), _, _, rfl, rfl, _, rfl, ite2 (fun hlen => ?_) (fun _ => ?_)⟩
        · have hlen := of_decide_eq_true hlen
          have ha : 0 < acc.length := by omega
          obtain ⟨v0, hv0, hv0m, hv0a⟩ := at_len ha
          obtain ⟨m0, hm0, a0, s0, l0, rfl, hA0, hT0, hL0⟩ := (S6.mv S5.hand h4).2 0 v0 hv0
          obtain ⟨k0, _⟩ := h6 m0 (List.mem_of_getElem? hm0)
          refine ⟨_, rfl, W, _, _, _, rfl, rfl, SqL.of w6, hv0a, a0, _, _, _, rfl, rfl, hA0, ats1 _ _, l0, rfl, ⟨_, hL0⟩, fun E hE => ?_⟩
          refine lc_tup (K := K) (a := l0) (xs := m0.2.map V.int) (Grow p E H6 many) (Grow.zero S6.hand hE) (fun j H7 _ z => z.1.sqT S6.hand hL0) (fun j x H7 hj z => ?_) (fun H7 z => ?_)
          · rw [List.getElem?_map] at hj
            obtain ⟨y, hy, rfl⟩ := Option.map_eq_some_iff.mp hj
            have hjl := (List.getElem?_eq_some_iff.mp hy).1
            have mp : (0 : Int) < many := by omega
            have nl : l ≠ p := ne_of hl S6.hand.dk.choose_spec (by intro z; cases z)
            have hx0 : 0 < (xs.map V.int).length := by
              rw [List.length_map]
              omega
            obtain ⟨x0, hx1, hx2, hx3⟩ := at_len hx0
            rw [List.getElem?_map] at hx1
            obtain ⟨x00, _, rfl⟩ := Option.map_eq_some_iff.mp hx1
            refine ⟨rfl, _, rfl, _, rfl, l, _, _, _, rfl, rfl, SqT.of (z.1.keep _ _ nl hl), hx3, _, _, rfl, rfl, .inl ⟨_, rfl, _, rfl, _, _, rfl, rfl, mp, ?_⟩⟩
            exact z.put S6.hand hE (Stp.refl z.1.hand) (by have := k0.2.2.2.1; omega) (Int.emod_nonneg _ (by omega)) (Int.emod_lt_of_pos _ mp)
          · obtain ⟨S7, ws, z1, z2, z3⟩ := z
            rw [List.length_map, k0.2.2.2.1] at z2
            refine ⟨E, _, rfl, .inl ⟨SqL.of z1, fun l2 hl2 => ?_⟩⟩
            have s9 : Same H7 (upd H7 l2 (.tup (ws.map V.int))) := Same.new hl2
            have S9 : Stp p H' (upd H7 l2 (.tup (ws.map V.int))) := (S6.trans S7).post s9
            exact ⟨_, rfl, .inl ⟨rfl, _, SqL.of (S9.keep _ _ nW h3)⟩, _, rfl, _, rfl, (by show 2 ≤ sizeLine; decide), fin l2 _ ws S9 upd_same z2 z3⟩
        · exact ⟨_, rfl, .inl ⟨rfl, _, SqL.of w6⟩, _, rfl, _, rfl, (by show 2 ≤ sizeLine; decide), fin1⟩
      · exact ⟨_, rfl, .inl ⟨rfl, _, SqL.of w6⟩, _, rfl, _, rfl, (by show 2 ≤ sizeLine; decide), fin1⟩
    · rintro σ H' ⟨S5, h1, h2, acc, ms, u, v, h3, h4, h5, h6, rfl⟩
      rw [hus, List.take_length] at h5
      have hml : ms.length = 1 + c := by
        have z := congrArg List.length h5
        rw [List.length_map] at z
        omega
      refine ⟨_, rfl, W, _, rfl, .inl ⟨SqL.of h3, fun l hl => ?_⟩⟩
      have s6 : Same H' (upd H' l (.tup acc)) := Same.new hl
      exact k l _ ms (S5.post s6) ⟨acc, SqT.of upd_same, h4.same s6⟩ ⟨⟨m1, m12, by omega, by omega, fun m hm => (h6 m hm).1, by rw [h5]; exact one⟩, fun m hm => (h6 m hm).2⟩ (by omega)
end
end Law

namespace Law
open PySem L2
theorem lcm_of {ws : List Int} (h0 : ∀ x ∈ ws, 0 ≤ x) (hs : 0 < ws.sum) : lcmAll (ws.map fun x => lowP x ws.sum) ∣ ws.sum.natAbs := lcm_dvd_L _ 1 (Nat.one_dvd _) fun f hf => by
  obtain ⟨x, hx, rfl⟩ := List.mem_map.mp hf
  have d : gI x ws.sum ∣ ws.sum := by
    unfold gI
    exact Int.ofNat_dvd_left.mpr (Nat.gcd_dvd_right _ _)
  obtain ⟨c, hc⟩ := d
  show (ws.sum / gI x ws.sum).natAbs ∣ ws.sum.natAbs
  have gp := gI_pos (t := x) hs
  have e : ws.sum / gI x ws.sum = c := Int.ediv_eq_of_eq_mul_right (by omega) hc
  rw [e]
  conv => rhs; rw [hc]
  rw [Int.natAbs_mul]
  exact Nat.dvd_mul_left _ _
theorem spr_of {many : Nat} {ws : List Int} (hl : ws.length = many) (h0 : ∀ x ∈ ws, 0 ≤ x) (hs : 0 < ws.sum) : SprOk many (ws.map fun x => lowP x ws.sum) := ⟨by rw [List.length_map]; exact hl, fun f hf => by
  obtain ⟨x, hx, rfl⟩ := List.mem_map.mp hf
  exact ⟨lowP_pos2 hs, lowP_nn (h0 x hx) hs, lowP_cop (h0 x hx) hs⟩, decide_eq_true (by
  unfold topsOf
  rw [List.map_map]
  have q := sum_scale ws.sum ((fun f : Fr => f.1 * (((lcmAll (ws.map fun x => lowP x ws.sum) : Nat) : Int) / f.2)) ∘ fun x => lowP x ws.sum) ((lcmAll (ws.map fun x => lowP x ws.sum) : Nat) : Int) ws fun x hx => by
    have d : (lowP x ws.sum).2 ∣ ((lcmAll (ws.map fun x => lowP x ws.sum) : Nat) : Int) := Int.ofNat_dvd_right.mpr (dvd_lcmAll (List.mem_map.mpr ⟨x, hx, rfl⟩))
    show ws.sum * ((lowP x ws.sum).1 * (_ / (lowP x ws.sum).2)) = _
    rw [← Int.mul_assoc, lowP_cross hs, Int.mul_assoc, Int.mul_ediv_cancel' d]
  exact Int.eq_of_mul_eq_mul_left (by omega) q)⟩
theorem sum_pt (g : Nat) (n : Nat) (h : g < n) : ((List.range n).map fun q => if q = g then (1 : Int) else 0).sum = 1 := by
  have e := sum_point 1 g n
  rw [if_pos h] at e
  refine (sum_congF fun i _ => ?_).trans e
  by_cases z : i = g
  · rw [if_pos z, if_pos (by rw [z])]
  · rw [if_neg z, if_neg fun y => z (by have := Option.some.inj y; omega)]
theorem sum_rep : ∀ n : Nat, (List.replicate n (1 : Int)).sum = (n : Int)
  | 0 => rfl
  | n + 1 => by rw [List.replicate_succ, List.sum_cons, sum_rep n, Int.natCast_add, Int.add_comm] <;> rfl
section
variable {P : Program} {w : World} {K : PySem.W.Frag} {mg : Str → Option Value} {base : Heap}
def spSome (K : PySem.W.Frag) : Sp := fun vs H Q _ => ∃ (p : Addr) (many : Nat), vs = [.ref p, .int (many : Int)] ∧ HandAt H p ∧ 1 ≤ many ∧ many ≤ 12 ∧
  ∀ (a : Addr) (H' : Hp) (fs : List Fr), Stp p H H' → FrTA K H' a fs → SprOk many fs → lcmAll fs ≤ 72 → Q (.ref a) H'
abbrev nLawSomeSpread : List Str := ["_law_hand_here", "_law_many", "_law_kind", "_law_here", "_law_weights", "_law_state", "_law_weight"]
theorem scLawSomeSpread : FnScope nLawSomeSpread ["_law_hand_here", "_law_many"] (defScope s_law_some_spread) := ⟨rfl, rfl, rfl, by decide +kernel, rfl, by decide +kernel, by decide +kernel⟩
theorem ok_some_spread {f : Addr} {fd : FuncData} {fD : Addr} {fdD : FuncData} {fcLow : Addr} {fdcLow : FuncData} (F : Fun K "_law_some_spread" "_law_some_spread" s_law_some_spread f fd) (T : NmA mg) (D : Cl P w K mg base CX0 1 "_law_draw" fD fdD ["_law_hand_here", "_law_many"] spDraw) (cLow : Cl P w K mg base CX0 34 "_law_low" fcLow fdcLow ["_law_top", "_law_bottom"] spLow) : FnOk P w K mg base CX0 35 f fd ["_law_hand_here", "_law_many"] (spSome K) := by
  refine F.ok scLawSomeSpread (fun vs H Q E h => ?_) (fun cdv A' outer s H vs Q E hr h => ?_)
  · obtain ⟨p, many, rfl, _⟩ := h
    rfl
  · obtain ⟨p, many, rfl, hH, m1, m12, k⟩ := h
    have hu := hu_of hr
    refine ⟨_, pss_cons (ps_set (i := 2) scLawSomeSpread.nd rfl (Or.inr rfl) (D.call (hr.mono (by decide)) (pa_cons (pv 0) (pa_cons pe_int pa_nil))))
      (pss_cons (ps_if (pt_cmpR op_eq (pv 2) pe_int (nomark _))
        (pss_cons (ps_set (i := 3) scLawSomeSpread.nd rfl (Or.inr rfl) (D.call (hr.mono (by decide)) (pa_cons (pv 0) (pa_cons (pv 1) pa_nil))))
        (pss_one (ps_ret (pe_callTy call_tuple_of (by rfl) T.tuple (by decide +kernel) (pa_cons (pe_lc (own := [("_law_state", 5)]) (g := (gName 5)) (tt := tYes) rfl scLawSomeSpread.nd  (pi_range1 (by rfl) T.range (pa_cons (pv 1) pa_nil)) (blkOk_by (own := [("_law_state", 5)]) (N := nLawSomeSpread) (sc := defScope s_law_some_spread) (by decide +kernel)) (fun _ _ _ _ _ => (pg_name (i := 5) scLawSomeSpread.nd rfl (Or.inl rfl))) (fun _ _ _ _ _ => pts_nil) (fun _ _ _ _ _ => (pe_tup (pa_cons (pe_callTy (r := fun xs H Q => (∃ i, xs = [.int i] ∧ Q (.int i) H) ∨ ∃ k, xs = [.bl k] ∧ Q (.int (if k then 1 else 0)) H) call_int1 (by rfl) T.int (by decide +kernel) (pa_cons (pe_cmpR op_eq (pv 5) (pv 3) (nomark _)) pa_nil)) (pa_cons pe_int pa_nil))))) pa_nil))))) pss_nil)
      (pss_cons (ps_set (i := 4) scLawSomeSpread.nd rfl (Or.inr rfl) (pe_lc (own := [("_law_state", 5)]) (g := (gName 5)) (tt := tYes) rfl scLawSomeSpread.nd  (pi_range1 (by rfl) T.range (pa_cons (pv 1) pa_nil)) (blkOk_by (own := [("_law_state", 5)]) (N := nLawSomeSpread) (sc := defScope s_law_some_spread) (by decide +kernel)) (fun _ _ _ _ _ => (pg_name (i := 5) scLawSomeSpread.nd rfl (Or.inl rfl))) (fun _ _ _ _ _ => pts_nil) (fun _ _ _ _ _ => (pe_ifExp (pt_cmpR op_eq (pv 2) pe_int (nomark _)) pe_int (D.call (hr.mono (by decide)) (pa_cons (pv 0) (pa_cons pe_int pa_nil)))))))
      (pss_cons (ps_set (i := 4) scLawSomeSpread.nd rfl (Or.inr rfl) (pe_ifExp (pt_cmpR op_gt (pe_callB (cr_sum rfl) (by rfl) T.sum (by decide +kernel) (pa_cons (pv 4) pa_nil)) pe_int (nomark _)) (pv 4) (pe_op op_rep (pe_lst (pa_cons pe_int pa_nil)) (pv 1))))
      (pss_one (ps_ret (pe_callTy call_tuple_of (by rfl) T.tuple (by decide +kernel) (pa_cons (pe_lc (own := [("_law_weight", 6)]) (g := (gName 6)) (tt := tYes) rfl scLawSomeSpread.nd  (pi_list (pv 4)) (blkOk_by (own := [("_law_weight", 6)]) (N := nLawSomeSpread) (sc := defScope s_law_some_spread) (by decide +kernel)) (fun _ _ _ _ _ => (pg_name (i := 6) scLawSomeSpread.nd rfl (Or.inl rfl))) (fun _ _ _ _ _ => pts_nil) (fun _ _ _ _ _ => (cLow.call (hr.mono (by decide)) (pa_cons (pv 6) (pa_cons (pe_callB (r := rSum K) (show CallR _ (.builtin "sum") (rSum K) from cr_sum rfl) (by rfl) T.sum (by decide +kernel) (pa_cons (pv 4) pa_nil)) pa_nil))))) pa_nil))))))), ?_⟩
    have fin : ∀ (H0 : Hp) (xs : List V) (ws : List Int) (t : Addr) (H' : Hp), Stp p H H' → H' t = some (.tup xs) → FrsIn K H' xs (ws.map fun x => lowP x ws.sum) → ws.length = many → (∀ x ∈ ws, 0 ≤ x) → 0 < ws.sum → ws.sum ≤ 72 → Q (.ref t) H' := fun H0 xs ws t H' S ht hF hl h0 hs h72 =>
      k t H' _ S ⟨xs, SqT.of ht, hF⟩ (spr_of hl h0 hs) (by
        have := Nat.le_of_dvd (show 0 < ws.sum.natAbs by omega) (lcm_of h0 hs)
        omega)
    refine ⟨_, rfl, p, 4, rfl, by decide, by decide, hH, fun d H1 d0 d1 S1 => ?_⟩
    refine ⟨_, rfl, rfl, _, rfl, ite2 (fun hk => ?_) (fun hk => ?_)⟩
    · refine ⟨_, rfl, _, rfl, p, many, rfl, by omega, by omega, S1.hand, fun e H2 e0 e1 S2 => ?_⟩
      obtain ⟨g, rfl⟩ := Int.eq_ofNat_of_zero_le e0
      have S12 := S1.trans S2
      refine ⟨_, rfl, (many : Int), rfl, by omega, by omega, fun D hD => ?_⟩
      refine lc_range (lo := 0) (n := many) (fun i H' => Same H2 H' ∧ ∃ acc, H' D = some (.lst acc) ∧ FrsIn K H' acc ((List.range i).map fun q => lowP (if q = g then 1 else 0) 1)) ⟨Same.new hD, [], upd_same, FrsIn.nil⟩ (fun i H' hi gg => ?_) fun H' gg => ?_
      · obtain ⟨s3, acc, g1, g2⟩ := gg
        have al : acc.length = i := by rw [g2.1, List.length_map, List.length_range]
        refine ⟨rfl, _, rfl, _, rfl, rfl, .inr ⟨_, rfl, ?_⟩⟩
        refine ⟨by show 2 ≤ sizeLine; decide, fun q hq => ⟨acc, Same.new hq _ _ g1, small1000 (by omega), (s3.trans (Same.new hq)).mut hD, _, upd_same, ?_⟩⟩
        rw [map_snoc]
        refine (g2.same (Same.new hq)).snoc (Same.new hq _ _ g1) ⟨q, rfl, ?_⟩
        have ev : lowP (if i = g then 1 else 0) 1 = ((if decide (V.int (0 + (i : Int)) = V.int (g : Int)) = true then (1 : Int) else 0), 1) := by
          by_cases e : i = g
          · subst e
            rw [Int.zero_add, if_pos (decide_eq_true rfl), if_pos rfl] <;> rfl
          · rw [if_neg e, if_neg (fun z => e (by have z := of_decide_eq_true z; injection z with z; omega))] <;> rfl
        rw [ev]
        exact SqT.of upd_same
      · obtain ⟨s3, acc, g1, g2⟩ := gg
        have gm : g < many := by omega
        have one := sum_pt g many gm
        refine ⟨D, _, rfl, .inl ⟨SqL.of g1, fun q hq => fin H acc ((List.range many).map fun q => if q = g then 1 else 0) q _ (S12.post (s3.trans (Same.new hq))) upd_same ?_ (by rw [List.length_map, List.length_range]) (fun x hx => ?_) (by rw [one]; decide) (by rw [one]; decide)⟩⟩
        · rw [one, List.map_map]
          exact g2.same (Same.new hq)
        · obtain ⟨y, _, rfl⟩ := List.mem_map.mp hx
          by_cases e : y = g
          · rw [if_pos e]; decide
          · rw [if_neg e]; decide
    · refine ⟨_, rfl, (many : Int), rfl, by omega, by omega, fun D hD => ?_⟩
      refine lc_range (lo := 0) (n := many) (Grow p D H1 6) (Grow.zero S1.hand hD) (fun i H' hi z => ?_) fun H2 z => ?_
      · refine ⟨rfl, _, rfl, rfl, _, rfl, ite2 (fun _ => ?_) (fun _ => ?_)⟩
        · exact z.put S1.hand hD (Stp.refl z.1.hand) (by omega) (by decide) (by decide)
        · exact ⟨_, rfl, p, 6, rfl, by decide, by decide, z.1.hand, fun e H3 e0 e1 S3 => z.put S1.hand hD S3 (by omega) e0 e1⟩
      obtain ⟨S2, ws0, w1, w2, w3⟩ := z
      have S12 := S1.trans S2
      have n0 : ∀ x ∈ ws0, 0 ≤ x := fun x hx => (w3 x hx).1
      have le72 : ws0.sum ≤ 72 := by
        have := sum_le 5 ws0 fun x hx => by have := (w3 x hx).2; omega
        rw [w2] at this
        omega
      refine ⟨_, rfl, D, ws0, rfl, SqL.of w1, _, _, rfl, rfl, _, rfl, ite2 (fun hg => ?_) (fun hg => ?_)⟩
      have key : ∃ (l : Addr) (ws : List Int) (H3 : Hp), l = D ∧ H3 = H2 ∧ Stp p H H3 ∧ H3 l = some (.lst (ws.map V.int)) ∧ ws.length = many ∧ (∀ x ∈ ws, 0 ≤ x) ∧ 0 < ws.sum ∧ ws.sum ≤ 72 := ⟨D, ws0, H2, rfl, rfl, S12, w1, w2, n0, by have := of_decide_eq_true hg; omega, le72⟩
      obtain ⟨l, ws, H3, el, eH, S3, hl3, wl, wn, wp, w72⟩ := key
      rw [← el, ← eH]
      refine ⟨_, rfl, ?_⟩
      rotate_left
      refine ⟨by show 1 ≤ sizeLine; decide, fun q hq => ⟨_, rfl, q, (many : Int), [.int 1], rfl, rfl, upd_same, by omega, by omega, Nat.le_of_lt (small1000 (show 1 * (many : Int).toNat ≤ 1000 by omega)), fun l hl => ?_⟩⟩
      have eq : (List.replicate (many : Int).toNat [V.int 1]).flatten = (List.replicate many (1 : Int)).map V.int := by
        rw [Int.toNat_natCast, rep_one, List.map_replicate]
      rw [eq]
      have S3 : Stp p H (upd (upd H2 q (.lst [.int 1])) l (.lst ((List.replicate many (1 : Int)).map V.int))) := S12.post ((Same.new hq).trans (Same.new hl))
      have hl3 : (upd (upd H2 q (.lst [.int 1])) l (.lst ((List.replicate many (1 : Int)).map V.int))) l = some (.lst ((List.replicate many (1 : Int)).map V.int)) := upd_same
      have wl : (List.replicate many (1 : Int)).length = many := List.length_replicate
      have wn : ∀ x ∈ List.replicate many (1 : Int), 0 ≤ x := fun x hx => by rw [List.eq_of_mem_replicate hx]; decide
      have wp : 0 < (List.replicate many (1 : Int)).sum := by rw [sum_rep]; omega
      have w72 : (List.replicate many (1 : Int)).sum ≤ 72 := by rw [sum_rep]; omega
      generalize upd (upd H2 q (.lst [.int 1])) l (.lst ((List.replicate many (1 : Int)).map V.int)) = H3 at S3 hl3 ⊢
      generalize List.replicate many (1 : Int) = ws at hl3 wl wn wp w72
      all_goals
        refine ⟨_, rfl, l, rfl, ⟨_, SqL.of hl3⟩, fun E hE => ?_⟩
        refine lc_list (K := K) (a := l) (xs := ws.map V.int) (fun i H' => Same H3 H' ∧ ∃ acc, H' E = some (.lst acc) ∧ FrsIn K H' acc ((ws.take i).map fun x => lowP x ws.sum)) ⟨Same.new hE, [], upd_same, FrsIn.nil⟩ (fun i H' _ g => SqL.of (g.1 _ _ hl3)) (fun i y H5 hi g => ?_) fun H5 g => ?_
        · obtain ⟨s5, acc, g1, g2⟩ := g
          rw [List.getElem?_map] at hi
          obtain ⟨x, hx, rfl⟩ := Option.map_eq_some_iff.mp hi
          have il : i < ws.length := (List.getElem?_eq_some_iff.mp hx).1
          have al : acc.length = i := by rw [g2.1, List.length_map, List.length_take]; omega
          refine ⟨rfl, _, rfl, _, rfl, l, ws, rfl, SqL.of (s5 _ _ hl3), _, _, rfl, wn x (List.mem_of_getElem? hx), wp, fun q hq => ⟨acc, Same.new hq _ _ g1, small1000 (by omega), (s5.trans (Same.new hq)).mut hE, _, upd_same, ?_⟩⟩
          rw [List.take_add_one, hx, List.map_append]
          exact (g2.same (Same.new hq)).snoc (Same.new hq _ _ g1) ⟨q, rfl, SqT.of upd_same⟩
        · obtain ⟨s5, acc, g1, g2⟩ := g
          rw [List.length_map, List.take_length] at g2
          exact ⟨E, _, rfl, .inl ⟨SqL.of g1, fun q hq => fin H acc ws q _ (S3.post (s5.trans (Same.new hq))) upd_same (g2.same (Same.new hq)) wl wn wp w72⟩⟩
abbrev nLawIsInt : List Str := ["_law_thing"]
theorem scLawIsInt : FnScope nLawIsInt ["_law_thing"] (defScope s_law_is_int) := ⟨rfl, rfl, rfl, by decide +kernel, rfl, by decide +kernel, by decide +kernel⟩
theorem ok_is_int {f : Addr} {fd : FuncData} (F : Fun K "_law_is_int" "_law_is_int" s_law_is_int f fd) (T : NmA mg) : FnOk P w K mg base CX0 1 f fd ["_law_thing"] (fun vs H Q _ => ∃ x bi bb, vs = [x] ∧ Ty3 K H x bi bb ∧ Q (.bl (bi && !bb)) H) := by
  refine F.ok scLawIsInt (fun vs H Q E h => ?_) (fun cdv A' outer s H vs Q E hr h => ?_)
  · obtain ⟨x, bi, bb, rfl, _⟩ := h
    rfl
  · obtain ⟨x, bi, bb, rfl, ty, k⟩ := h
    refine ⟨_, pss_one (ps_ret (pe_and (pe_callB call_isi (by rfl) T.isi (by decide +kernel) (pa_cons (pv 0) (pa_cons (pe_bltn (v := .ty "int") (u := .type "int") (by rfl) T.int (by decide +kernel) rfl) pa_nil))) (pe_one (pe_not (pe_callB call_isi (by rfl) T.isi (by decide +kernel) (pa_cons (pv 0) (pa_cons (pe_bltn (v := .ty "bool") (u := .type "bool") (by rfl) T.bool (by decide +kernel) rfl) pa_nil))))))), ?_⟩
    obtain ⟨t, tx, h1, h2⟩ := ty
    refine ⟨_, rfl, _, _, _, _, _, rfl, .ty "int", tx, h1, _, rfl, ?_⟩
    cases bi with
    | false => exact iteF k
    | true => exact iteT ⟨_, rfl, _, _, _, _, _, rfl, .ty "bool", tx, h2, _, rfl, k⟩
end
end Law

namespace Law
open PySem L2
/-! ### data, and the law's own judge of a spread -/
def frsD (fs : List Fr) : PyData := .tuple (fs.map frD)
theorem eqv_frsD (a b : List Fr) : PyData.eqv (frsD a) (frsD b) = decide (a = b) := by
  unfold frsD
  rw [PyData.eqv]
  exact eqvAll_map frD eqv_frD a b
theorem lay_frsD (a : List Fr) : (frsD a).canLay0 = true ∧ (frsD a).depth ≤ 2 := by
  have h := lay_all frD 1 lay_frD a
  unfold frsD
  rw [PyData.canLay0, PyData.depth]
  exact ⟨h.1, by omega⟩
theorem sh_frs (a : List Fr) : SeqAt.shaped (frsD a) = true := shaped_of (lay_frsD a) (by decide)
theorem dp_frI {K : PySem.W.Frag} {H : Hp} {v : V} {f : Fr} (h : FrAt K H v f) : Dp K H v (frD f) := by
  obtain ⟨s, rfl, h⟩ := h
  exact .tup h (.cons (.int _) (.cons (.int _) .nil))
theorem dp_frsA {K : PySem.W.Frag} {H : Hp} : ∀ {vs : List V} {fs : List Fr}, FrsIn K H vs fs → DpAll K H vs (fs.map frD)
  | [], [], _ => .nil
  | [], _ :: _, h => absurd h.1 (by simp)
  | _ :: _, [], h => absurd h.1 (by simp)
  | v :: vs, m :: ms, h => by
    obtain ⟨m', e, hm⟩ := h.2 0 v rfl
    cases e
    exact .cons (dp_frI hm) (dp_frsA ⟨by simpa using h.1, fun i x hx => h.2 (i + 1) x (by simpa using hx)⟩)
theorem dp_frs {K : PySem.W.Frag} {H : Hp} {a : Addr} {vs : List V} {fs : List Fr} (h : SqT K H a vs) (hf : FrsIn K H vs fs) : Dp K H (.ref a) (frsD fs) := .tup h (dp_frsA hf)
theorem dp_fr {K : PySem.W.Frag} {H : Hp} {a : Addr} {f : Fr} (h : SqT K H a [.int f.1, .int f.2]) : Dp K H (.ref a) (frD f) := .tup h (.cons (.int _) (.cons (.int _) .nil))
theorem sh_fr (f : Fr) : SeqAt.shaped (frD f) = true := shaped_of (lay_frD f) (by decide)
def rowsD (rows : List (List Fr)) : PyData := .tuple (rows.map frsD)
theorem eqv_rowsD (a b : List (List Fr)) : PyData.eqv (rowsD a) (rowsD b) = decide (a = b) := by
  unfold rowsD
  rw [PyData.eqv]
  exact eqvAll_map frsD eqv_frsD a b
theorem lay_rowsD (a : List (List Fr)) : (rowsD a).canLay0 = true ∧ (rowsD a).depth ≤ 3 := by
  have h := lay_all frsD 2 lay_frsD a
  unfold rowsD
  rw [PyData.canLay0, PyData.depth]
  exact ⟨h.1, by omega⟩
theorem sh_rows (a : List (List Fr)) : SeqAt.shaped (rowsD a) = true := shaped_of (lay_rowsD a) (by decide)
theorem dp_rowsA {K : PySem.W.Frag} {H : Hp} : ∀ {vs : List V} {rows : List (List Fr)}, RowsIn K H vs rows → DpAll K H vs (rows.map frsD)
  | [], [], _ => .nil
  | [], _ :: _, h => absurd h.1 (by simp)
  | _ :: _, [], h => absurd h.1 (by simp)
  | v :: vs, m :: ms, h => by
    obtain ⟨m', e, a, xs, rfl, h1, h2⟩ := h.2 0 v rfl
    cases e
    exact .cons (dp_frs h1 h2) (dp_rowsA ⟨by simpa using h.1, fun i x hx => h.2 (i + 1) x (by simpa using hx)⟩)
theorem dp_rows {K : PySem.W.Frag} {H : Hp} {a : Addr} {vs : List V} {rows : List (List Fr)} (h : SqT K H a vs) (hf : RowsIn K H vs rows) : Dp K H (.ref a) (rowsD rows) := .tup h (dp_rowsA hf)
theorem low_id {f : Fr} (h2 : 0 < f.2) (hg : Nat.gcd f.1.natAbs f.2.natAbs = 1) : lowP f.1 f.2 = f := by
  unfold lowP gI
  rw [hg]
  exact Prod.ext (Int.ediv_one _) (Int.ediv_one _)
theorem low_gcd {f : Fr} (h2 : 0 < f.2) (h1 : 0 ≤ f.1) (h : lowP f.1 f.2 = f) : Nat.gcd f.1.natAbs f.2.natAbs = 1 := by
  have := lowP_cop h1 h2
  rw [h] at this
  exact this
theorem low_one {s L : Int} (hL : 0 < L) : lowP s L = (1, 1) ↔ s = L := by
  refine ⟨fun h => ?_, fun h => ?_⟩
  · have c := lowP_cross (t := s) hL
    rw [h] at c
    omega
  · subst h
    rw [lowP_eq (t := s) (b := s) (u := 1) (d := 1) hL (by decide) (by omega)] <;> rfl
/-- each fraction over the common bottom -/
theorem over_all {fs : List Fr} (h : ∀ f ∈ fs, 0 < f.2 ∧ 0 ≤ f.1 ∧ Nat.gcd f.1.natAbs f.2.natAbs = 1) : fs = (topsOf fs (lcmAll fs : Nat)).map fun t => lowP t (lcmAll fs : Nat) := by
  have key : ∀ f ∈ fs, f = lowP (f.1 * (((lcmAll fs : Nat) : Int) / f.2)) (lcmAll fs : Nat) := fun f hf => by
    obtain ⟨a, b, c⟩ := h f hf
    have lp : 0 < lcmAll fs := fold_pos fs 1 (by decide) fun g hg => (h g hg).1
    obtain ⟨q, hq⟩ := dvd_lcmAll hf
    have fa : ((f.2.natAbs : Nat) : Int) = f.2 := Int.natAbs_of_nonneg (Int.le_of_lt a)
    have e : ((lcmAll fs : Nat) : Int) = f.2 * (q : Int) := by rw [hq, Int.natCast_mul, fa]
    have q0 : (0 : Int) < (q : Int) := by
      rcases Nat.eq_zero_or_pos q with z | z
      · rw [z, Nat.mul_zero] at hq
        omega
      · omega
    rw [e, Int.mul_ediv_cancel_left _ (by omega), Int.mul_comm f.1, Int.mul_comm f.2, lowP_scale q0 a, low_id a c]
  unfold topsOf
  rw [List.map_map]
  refine List.ext_getElem? fun i => ?_
  rw [List.getElem?_map]
  cases e : fs[i]? with
  | none => rfl
  | some f => exact congrArg some (key f (List.mem_of_getElem? e))
/-- no number of a thing is great -/
def Small (o : Option (List (Option Fr))) : Prop := ∀ rs, o = some rs → rs.length ≤ 24 ∧ ∀ f, some f ∈ rs → f.1.natAbs < 2 ^ 62 ∧ f.2.natAbs < 2 ^ 62
section
variable {P : Program} {w : World} {K : PySem.W.Frag} {mg : Str → Option Value} {base : Heap}
def spSumT (K : PySem.W.Frag) : Sp := fun vs H Q _ => ∃ (a : Addr) (us : List V) (ts : List Int) (b : Int), vs = [.ref a] ∧ SqT K H a us ∧ FrsIn K H us (ts.map fun t => lowP t b) ∧ 0 < b ∧ (∀ t ∈ ts, 0 ≤ t) ∧ b.natAbs < 2 ^ 26000 ∧ ts.sum.natAbs < 2 ^ 26000 ∧
  ∀ p H', H p = none → Same H H' → H' p = some (.tup [.int (lowP ts.sum b).1, .int (lowP ts.sum b).2]) → Q (.ref p) H'
abbrev nLawSumT : List Str := ["_law_some", "_law_found", "_law_one"]
theorem scLawSumT : FnScope nLawSumT ["_law_some"] (defScope s_law_sum) := ⟨rfl, rfl, rfl, by decide +kernel, rfl, by decide +kernel, by decide +kernel⟩
theorem ok_sumT {f : Addr} {fd : FuncData} {fcPlus : Addr} {fdcPlus : FuncData} (F : Fun K "_law_sum" "_law_sum" s_law_sum f fd) (T : NmA mg) (cPlus : Cl P w K mg base CX0 35 "_law_plus" fcPlus fdcPlus ["_law_one", "_law_other"] (spPlus K)) : FnOk P w K mg base CX0 36 f fd ["_law_some"] (spSumT K) := by
  refine F.ok scLawSumT (fun vs H Q E h => ?_) (fun cdv A' outer s H vs Q E hr h => ?_)
  · obtain ⟨a, us, ts, b, rfl, _⟩ := h
    rfl
  · obtain ⟨a, us, ts, b, rfl, hA, hF, b0, t0, b1, s1, k⟩ := h
    have hu := hu_of hr
    refine ⟨_, pss_cons (ps_set (i := 1) scLawSumT.nd rfl (Or.inl rfl) (pe_tup (pa_cons pe_int (pa_cons pe_int pa_nil))))
      (pss_cons (ps_for PassesOwn.never rfl (pi_tup (pv 0)) (pg_name (i := 2) scLawSumT.nd rfl (Or.inl rfl))
        (pss_one (ps_set (i := 1) scLawSumT.nd rfl (Or.inl rfl) (cPlus.call (hr.mono (by decide)) (pa_cons (pv 1) (pa_cons (pv 2) pa_nil))))))
      (pss_one (ps_ret (pv 1)))), ?_⟩
    have tb : ∀ i, (ts.take i).sum.natAbs < 2 ^ 26000 ∧ 0 ≤ (ts.take i).sum := fun i => by
      have n1 := sum_nn fun x hx => t0 x (List.mem_of_mem_take (i := i) hx)
      have n2 := sum_nn fun x hx => t0 x (List.mem_of_mem_drop (i := i) hx)
      have e : (ts.take i).sum + (ts.drop i).sum = ts.sum := by rw [← List.sum_append, List.take_append_drop]
      exact ⟨wide_le n1 (by omega) s1, n1⟩
    refine ⟨by show 2 ≤ sizeLine; decide, fun q hq => ?_⟩
    have l0 := hF.1
    rw [List.length_map] at l0
    refine ⟨_, rfl, a, rfl, ⟨_, (Same.new hq).sqT hA⟩, for_tup (K := K) (a := a) (xs := us) (fun i σ H' => Same H H' ∧ ∃ (q : Addr) (u : Option V), H q = none ∧ H' q = some (.tup [.int (lowP (ts.take i).sum b).1, .int (lowP (ts.take i).sum b).2]) ∧ σ = [some (.ref a), some (.ref q), u]) ⟨Same.new hq, q, none, hq, ?_, rfl⟩ (fun i σ H' _ h => h.1.sqT hA) ?_ ?_⟩
    · show _ = some (HO.tup [.int (lowP 0 b).1, .int (lowP 0 b).2])
      rw [low_zero b0]
      exact upd_same
    · rintro i x σ H' hi ⟨s2, q, u, hn, h2, rfl⟩
      obtain ⟨f, hf, t, rfl, hT⟩ := hF.2 i x hi
      rw [List.getElem?_map] at hf
      obtain ⟨y, hy, rfl⟩ := Option.map_eq_some_iff.mp hf
      have ym := List.mem_of_getElem? hy
      refine ⟨_, rfl, _, rfl, q, t, lowP (ts.take i).sum b, lowP y b, rfl, SqT.of h2, s2.sqT hT, sz_low (tb i).2 b0 (tb i).1 b1, sz_low (t0 y ym) b0 (wide_le (t0 y ym) (le_sum t0 y ym) s1) b1, fun p hp => ⟨s2.trans (Same.new hp), p, some (.ref t), s2.free hp, ?_, rfl⟩⟩
      rw [plus_low b0, upd_same, List.take_add_one, hy, List.sum_append]
      show _ = some (HO.tup [.int (lowP (_ + (y + 0)) b).1, .int (lowP (_ + (y + 0)) b).2])
      rw [Int.add_zero]
    · rintro σ H' ⟨s2, q', u, hn, h2, rfl⟩
      rw [l0, List.take_length] at h2
      exact ⟨_, rfl, k q' H' hn s2 h2⟩
def spIsSprL (K : PySem.W.Frag) : Sp := fun vs H Q _ => ∃ (many : Nat) (x : V) (o : Option (List (Option Fr))), vs = [.int (many : Int), x] ∧ ThingAt K H x o ∧ Small o ∧ ∀ H', Same H H' → Q (.bl (spreadB many o)) H'
abbrev nLawIsSpread : List Str := ["_law_many", "_law_thing", "_law_one"]
theorem scLawIsSpread : FnScope nLawIsSpread ["_law_many", "_law_thing"] (defScope s_law_is_spread) := ⟨rfl, rfl, rfl, by decide +kernel, rfl, by decide +kernel, by decide +kernel⟩
theorem ok_isSprL {f : Addr} {fd : FuncData} {fcIsI : Addr} {fdcIsI : FuncData} {fcLow : Addr} {fdcLow : FuncData} {fcSumT : Addr} {fdcSumT : FuncData} (F : Fun K "_law_is_spread" "_law_is_spread" s_law_is_spread f fd) (T : NmA mg) (cIsI : Cl P w K mg base CX0 1 "_law_is_int" fcIsI fdcIsI ["_law_thing"] (fun vs H Q _ => ∃ x bi bb, vs = [x] ∧ Ty3 K H x bi bb ∧ Q (.bl (bi && !bb)) H)) (cLow : Cl P w K mg base CX0 34 "_law_low" fcLow fdcLow ["_law_top", "_law_bottom"] spLow) (cSumT : Cl P w K mg base CX0 36 "_law_sum" fcSumT fdcSumT ["_law_some"] (spSumT K)) : FnOk P w K mg base CX0 37 f fd ["_law_many", "_law_thing"] (spIsSprL K) := by
  refine F.ok scLawIsSpread (fun vs H Q E h => ?_) (fun cdv A' outer s H vs Q E hr h => ?_)
  · obtain ⟨many, x, o, rfl, _⟩ := h
    rfl
  · obtain ⟨many, x, o, rfl, hT, sm, k⟩ := h
    have hu := hu_of hr
    refine ⟨_, pss_cons (ps_if (PW.pt (pw_or (pt_not (pt_val (pe_callB call_isi (by rfl) T.isi (by decide +kernel) (pa_cons (pv 1) (pa_cons (pe_bltn (v := .ty "tuple") (u := .type "tuple") (by rfl) T.tuple (by decide +kernel) rfl) pa_nil))))) (pw_or1 (pt_cmpR op_ne (pe_callB call_len_seq (by rfl) T.len PySem.boot_len (pa_cons (pv 1) pa_nil)) (pv 0) (nomark _)))))
        (pss_one (ps_ret pe_bl)) pss_nil)
      (pss_cons (ps_for PassesOwn.never rfl (pi_tup (pv 1)) (pg_name (i := 2) scLawIsSpread.nd rfl (Or.inl rfl))
        (pss_cons (ps_if (PW.pt (pw_or (pt_not (pt_val (pe_callB call_isi (by rfl) T.isi (by decide +kernel) (pa_cons (pv 2) (pa_cons (pe_bltn (v := .ty "tuple") (u := .type "tuple") (by rfl) T.tuple (by decide +kernel) rfl) pa_nil))))) (pw_or (pt_cmpR op_ne (pe_callB call_len_seq (by rfl) T.len PySem.boot_len (pa_cons (pv 2) pa_nil)) pe_int (nomark _)) (pw_or (pt_not (pt_val (cIsI.call (hr.mono (by decide)) (pa_cons (pe_ix ix_tup (pv 2) pe_int (fun _ _ => rfl)) pa_nil)))) (pw_or1 (pt_not (pt_val (cIsI.call (hr.mono (by decide)) (pa_cons (pe_ix ix_tup (pv 2) pe_int (fun _ _ => rfl)) pa_nil)))))))))
          (pss_one (ps_ret pe_bl)) pss_nil)
        (pss_one (ps_if (PW.pt (pw_or (pt_cmpR op_lt (pe_ix ix_tup (pv 2) pe_int (fun _ _ => rfl)) pe_int (nomark _)) (pw_or (pt_cmpR op_lt (pe_ix ix_tup (pv 2) pe_int (fun _ _ => rfl)) pe_int (nomark _)) (pw_or1 (pt_cmpR (op_neD hr.units) (cLow.call (hr.mono (by decide)) (pa_cons (pe_ix ix_tup (pv 2) pe_int (fun _ _ => rfl)) (pa_cons (pe_ix ix_tup (pv 2) pe_int (fun _ _ => rfl)) pa_nil))) (pv 2) (nomark _))))))
          (pss_one (ps_ret pe_bl)) pss_nil))))
      (pss_one (ps_ret (pe_cmpR (op_eqD hr.units) (cSumT.call (hr.mono (by decide)) (pa_cons (pv 1) pa_nil)) (pe_tup (pa_cons pe_int (pa_cons pe_int pa_nil))) (nomark _))))), ?_⟩
    have bad : ∀ H2, Same H H2 → spreadB many o = false → Q (.bl false) H2 := fun H2 s e => by
      have z := k H2 s
      rw [e] at z
      exact z
    cases o with
    | none =>
      obtain ⟨t, h1, h2⟩ := hT
      exact ⟨_, rfl, _, _, _, _, _, rfl, .ty "tuple", h1, h2, _, rfl, iteT (bad H (Same.refl H) rfl)⟩
    | some rs =>
      obtain ⟨a, xs, rfl, hS, hl, hx⟩ := hT
      obtain ⟨l24, sz⟩ := sm rs rfl
      refine ⟨_, rfl, _, _, _, _, _, rfl, .ty "tuple", tyx_tup hS, kit_tt, _, rfl, ?_⟩
      refine iteF ⟨_, rfl, a, _, rfl, .inr hS, _, rfl, rfl, _, rfl, ?_⟩
      by_cases hm : rs.length = many
      · rw [decide_eq_true (show V.int ((xs.length : Nat) : Int) = V.int (many : Int) by rw [hl, hm])]
        refine iteF ?_
        have badS : ∀ H2, Same H H2 → ∀ (i : Nat) (r : Option Fr), rs[i]? = some r → goodS r = false → Q (.bl false) H2 := fun H2 s i r hr' hg => bad H2 s (by
          show (decide (rs.length = many) && (rs.all goodS && oneB (rs.filterMap id))) = false
          cases e : rs.all goodS with
          | false => rw [Bool.false_and, Bool.and_false]
          | true =>
            have := List.all_eq_true.mp e r (List.mem_of_getElem? hr')
            rw [hg] at this
            cases this)
        refine ⟨_, rfl, a, rfl, ⟨_, hS⟩, for_tup (K := K) (a := a) (xs := xs) (fun i σ H' => Same H H' ∧ (∀ j, j < i → ∀ r, rs[j]? = some r → goodS r = true) ∧ ∃ u : Option V, σ = [some (.int (many : Int)), some (.ref a), u]) ⟨Same.refl H, fun j hj => absurd hj (Nat.not_lt_zero j), none, rfl⟩ (fun i σ H' _ h => h.1.sqT hS) ?_ ?_⟩
        · rintro i x σ H' hi ⟨s1, g1, u, rfl⟩
          obtain ⟨r, hr', hI⟩ := hx i x hi
          have hI := hI.same s1
          cases r with
          | none =>
            rcases hI with ⟨t, h1, h2⟩ | ⟨b, ys, rfl, hb, hn⟩ | ⟨b, v1, v2, bi, bb, ci, cb, rfl, hb, tu, tv, hf⟩
            · exact ⟨_, rfl, _, _, _, _, _, rfl, .ty "tuple", h1, h2, _, rfl, iteT (badS H' s1 i none hr' rfl)⟩
            · refine ⟨_, rfl, _, _, _, _, _, rfl, .ty "tuple", tyx_tup hb, kit_tt, _, rfl, iteF ⟨_, rfl, b, _, rfl, .inr hb, rfl, _, rfl, ?_⟩⟩
              rw [decide_eq_false (show ¬ V.int ((ys.length : Nat) : Int) = V.int 2 from fun z => hn (by injection z with z; omega))]
              exact iteT (badS H' s1 i none hr' rfl)
            · refine ⟨_, rfl, _, _, _, _, _, rfl, .ty "tuple", tyx_tup hb, kit_tt, _, rfl, iteF ⟨_, rfl, b, _, rfl, .inr hb, rfl, _, rfl, iteF ⟨_, rfl, b, _, _, _, rfl, rfl, hb, ats0 _ _, v1, bi, bb, rfl, tu, _, rfl, ?_⟩⟩⟩
              cases h : (bi && !bb) with
              | false => exact iteT (badS H' s1 i none hr' rfl)
              | true =>
                rw [h, Bool.true_and] at hf
                refine iteF ⟨_, rfl, b, _, _, _, rfl, rfl, hb, ats1 _ _, v2, ci, cb, rfl, tv, _, rfl, ?_⟩
                rw [hf]
                exact iteT (badS H' s1 i none hr' rfl)
          | some f =>
            obtain ⟨b, rfl, hb⟩ := hI
            refine ⟨_, rfl, _, _, _, _, _, rfl, .ty "tuple", tyx_tup hb, kit_tt, _, rfl, iteF ⟨_, rfl, b, _, rfl, .inr hb, rfl, _, rfl, iteF ⟨_, rfl, b, _, _, _, rfl, rfl, hb, ats0 _ _, _, true, false, rfl, ty3_int f.1, _, rfl, iteF ⟨_, rfl, b, _, _, _, rfl, rfl, hb, ats1 _ _, _, true, false, rfl, ty3_int f.2, _, rfl, iteF ?_⟩⟩⟩⟩
            have gs : goodS (some f) = ((decide (0 < f.2) && (Nat.gcd f.1.natAbs f.2.natAbs == 1)) && decide (0 ≤ f.1)) := rfl
            refine ⟨_, rfl, b, _, _, _, rfl, rfl, hb, ats1 _ _, _, _, rfl, rfl, _, rfl, ite2 (fun h => ?_) (fun h => ?_)⟩
            · have h := of_decide_eq_true h
              exact badS H' s1 i _ hr' (by rw [gs, decide_eq_false (show ¬ 0 < f.2 by omega)] <;> rfl)
            have b0 : 0 < f.2 := by
              have z : ¬ f.2 < 1 := fun z => h (decide_eq_true z)
              omega
            refine ⟨_, rfl, b, _, _, _, rfl, rfl, hb, ats0 _ _, _, _, rfl, rfl, _, rfl, ite2 (fun h => ?_) (fun h => ?_)⟩
            · have h := of_decide_eq_true h
              exact badS H' s1 i _ hr' (by rw [gs, decide_eq_false (show ¬ 0 ≤ f.1 by omega), Bool.and_false])
            have t0 : 0 ≤ f.1 := by
              have z : ¬ f.1 < 0 := fun z => h (decide_eq_true z)
              omega
            refine ⟨_, rfl, b, _, _, _, rfl, rfl, hb, ats0 _ _, _, rfl, b, _, _, _, rfl, rfl, hb, ats1 _ _, f.1, f.2, rfl, t0, b0, fun p hp => ⟨_, rfl, frD (lowP f.1 f.2), frD f, dp_fr (SqT.of upd_same), dp_fr ((Same.new hp).sqT hb), sh_fr _, sh_fr _, _, rfl, ?_⟩⟩
            rw [eqv_frD]
            by_cases e : lowP f.1 f.2 = f
            · rw [decide_eq_true e]
              refine iteF ⟨s1.trans (Same.new hp), fun j hj r hr'' => ?_, some (.ref b), rfl⟩
              by_cases ej : j < i
              · exact g1 j ej r hr''
              · have : j = i := by omega
                subst this
                rw [hr'] at hr''
                have hr'' := Option.some.inj hr''
                subst hr''
                rw [gs, decide_eq_true b0, decide_eq_true t0, low_gcd b0 t0 e] <;> rfl
            · rw [decide_eq_false e]
              refine iteT (badS _ (s1.trans (Same.new hp)) i _ hr' ?_)
              rw [gs]
              cases eg : (Nat.gcd f.1.natAbs f.2.natAbs == 1) with
              | false => rw [Bool.and_false, Bool.false_and]
              | true => exact absurd (low_id b0 (by simpa using eg)) e
        · rintro σ H' ⟨s1, g1, u, rfl⟩
          have hg : rs.all goodS = true := List.all_eq_true.mpr fun r hr' => by
            obtain ⟨j, hj⟩ := List.getElem?_of_mem hr'
            exact g1 j (by have := (List.getElem?_eq_some_iff.mp hj).1; omega) r hj
          have es := all_some hg
          have fr : ∀ f ∈ rs.filterMap id, 0 < f.2 ∧ 0 ≤ f.1 ∧ Nat.gcd f.1.natAbs f.2.natAbs = 1 := fun f hf => by
            have m : some f ∈ rs := by rw [es]; exact List.mem_map.mpr ⟨f, hf, rfl⟩
            have z := List.all_eq_true.mp hg _ m
            change ((decide (0 < f.2) && (Nat.gcd f.1.natAbs f.2.natAbs == 1)) && decide (0 ≤ f.1)) = true at z
            rw [Bool.and_eq_true, Bool.and_eq_true] at z
            exact ⟨of_decide_eq_true z.1.1, of_decide_eq_true z.2, by simpa using z.1.2⟩
          have F : FrsIn K H' xs (rs.filterMap id) := ⟨by rw [hl]; conv => lhs; rw [es, List.length_map], fun i v hv => by
            obtain ⟨r, g2, g3⟩ := hx i v hv
            rw [es, List.getElem?_map] at g2
            obtain ⟨f, g4, rfl⟩ := Option.map_eq_some_iff.mp g2
            obtain ⟨b, rfl, hb⟩ := g3
            exact ⟨f, g4, b, rfl, s1.sqT hb⟩⟩
          have fl : (rs.filterMap id).length ≤ 24 := by rw [← F.1, hl]; exact l24
          have fo : ∀ f ∈ rs.filterMap id, FrOk f := fun f hf => by
            have m : some f ∈ rs := by rw [es]; exact List.mem_map.mpr ⟨f, hf, rfl⟩
            obtain ⟨a1, a2⟩ := sz f m
            exact ⟨(fr f hf).1, a2, a1⟩
          have kk : ∀ H2, Same H H2 → Q (.bl (oneB (rs.filterMap id))) H2 := fun H2 s => by
            have z := k H2 s
            rw [show spreadB many (some rs) = oneB (rs.filterMap id) by
              show (decide (rs.length = many) && (rs.all goodS && oneB (rs.filterMap id))) = _
              rw [hg, decide_eq_true hm, Bool.true_and, Bool.true_and]] at z
            exact z
          generalize rs.filterMap id = fs at fr F fl fo kk
          have lp := lcmAll_pos fo
          have ll := lcmAll_lt fo fl
          have L0 : (0 : Int) < ((lcmAll fs : Nat) : Int) := by omega
          have tn : ∀ t ∈ topsOf fs (lcmAll fs : Nat), 0 ≤ t ∧ t ≤ 2 ^ 1600 := fun t ht => by
            obtain ⟨f, hf, rfl⟩ := List.mem_map.mp ht
            obtain ⟨a1, a2, _⟩ := fr f hf
            have q0 := Int.ediv_nonneg (Int.natCast_nonneg (lcmAll fs)) (Int.le_of_lt a1)
            have q1 : (((lcmAll fs : Nat) : Int) / f.2).natAbs < 2 ^ 1489 := wide_le q0 (Int.ediv_le_self _ (Int.natCast_nonneg _)) (by rw [Int.natAbs_natCast]; exact ll)
            have m0 := Int.mul_nonneg a2 q0
            have m1 := wide_lt (fo f hf).2.2 q1
            refine ⟨m0, ?_⟩
            have m2 : (f.1 * (((lcmAll fs : Nat) : Int) / f.2)).natAbs < 2 ^ 1600 := pow_mono m1 (by decide)
            have m3 : (f.1 * (((lcmAll fs : Nat) : Int) / f.2)) = (((f.1 * (((lcmAll fs : Nat) : Int) / f.2)).natAbs : Nat) : Int) := (Int.natAbs_of_nonneg m0).symm
            rw [m3]
            have m4 : (((f.1 * (((lcmAll fs : Nat) : Int) / f.2)).natAbs : Nat) : Int) < ((2 ^ 1600 : Nat) : Int) := Int.ofNat_lt.mpr m2
            rw [Int.natCast_pow] at m4
            exact Int.le_of_lt m4
          have t0 : ∀ t ∈ topsOf fs (lcmAll fs : Nat), 0 ≤ t := fun t ht => (tn t ht).1
          have s26 : (topsOf fs (lcmAll fs : Nat)).sum.natAbs < 2 ^ 26000 := by
            have b := sum_le (2 ^ 1600) (topsOf fs (lcmAll fs : Nat)) fun t ht => (tn t ht).2
            have l : (topsOf fs (lcmAll fs : Nat)).length = fs.length := by unfold topsOf; rw [List.length_map]
            rw [l] at b
            have c : ((fs.length : Nat) : Int) * 2 ^ 1600 ≤ ((24 * 2 ^ 1600 : Nat) : Int) := by
              rw [Int.natCast_mul, Int.natCast_pow]
              exact Int.mul_le_mul_of_nonneg_right (by omega) (Int.le_of_lt (Int.pow_pos (by decide)))
            refine wide_le (sum_nn t0) (Int.le_trans b c) ?_
            rw [Int.natAbs_natCast]
            decide +kernel
          have F2 := F
          rw [over_all fr] at F2
          refine ⟨_, rfl, a, xs, topsOf fs (lcmAll fs : Nat), ((lcmAll fs : Nat) : Int), rfl, s1.sqT hS, ?_, L0, t0, by rw [Int.natAbs_natCast]; exact pow_mono ll (by decide), s26, fun p H2 hp s2 h2 => ?_⟩
          · have e := over_all fr
            generalize topsOf fs (lcmAll fs : Nat) = ts at e
            rw [← e]
            exact F
          refine ⟨by show 2 ≤ sizeLine; decide, fun q hq => ⟨frD _, frD (1, 1), dp_fr ((Same.new hq).sqT (SqT.of h2)), dp_fr (f := (1, 1)) (SqT.of upd_same), sh_fr _, sh_fr _, ?_⟩⟩
          rw [eqv_frD]
          have e : decide (lowP (topsOf fs (lcmAll fs : Nat)).sum ((lcmAll fs : Nat) : Int) = (1, 1)) = oneB fs := by
            unfold oneB
            exact decide_eq_decide.mpr (low_one L0)
          rw [e]
          exact kk _ ((s1.trans s2).trans (Same.new hq))
      · rw [decide_eq_false (show ¬ V.int ((xs.length : Nat) : Int) = V.int (many : Int) from fun z => hm (by injection z with z; omega))]
        refine iteT (bad H (Same.refl H) ?_)
        show (decide (rs.length = many) && _) = false
        rw [decide_eq_false hm, Bool.false_and]
end
end Law

namespace Law
open PySem L2
/-! ### all rows of moves, their weights, and where they lead -/
def endF (Ls : List (List Int)) (row : List Nat) (s : Nat) : Nat := row.foldl (fun q k => ((Ls.getD k []).getD q 0).toNat) s
def rowsW (ts : List Int) : Nat → List (List Nat × Int)
  | 0 => [([], 1)]
  | d + 1 => (rowsW ts d).flatMap fun rw => (List.range ts.length).map fun k => (rw.1 ++ [k], rw.2 * ts.getD k 0)
def hitF (Ls : List (List Int)) (T : Nat → Int) (many : Nat) (rw : List Nat × Int) (o : Nat) : Int := ((List.range many).map fun s => if endF Ls rw.1 s = o then rw.2 * T s else 0).sum
def allF (ts : List Int) (Ls : List (List Int)) (T : Nat → Int) (many d o : Nat) : Int := ((rowsW ts d).map fun rw => hitF Ls T many rw o).sum
theorem sum_flatMap {α β : Type} (f : α → List β) (g : β → Int) : ∀ xs : List α, ((xs.flatMap f).map g).sum = (xs.map fun x => ((f x).map g).sum).sum
  | [] => rfl
  | x :: xs => by rw [List.flatMap_cons, List.map_append, List.sum_append, sum_flatMap f g xs, List.map_cons, List.sum_cons]
theorem sum_mapL {α : Type} {f g : α → Int} {xs : List α} (h : ∀ x ∈ xs, f x = g x) : (xs.map f).sum = (xs.map g).sum := by
  congr 1
  exact List.map_congr_left h
theorem sum_swapL {α : Type} (f : α → Nat → Int) (n : Nat) : ∀ xs : List α, (xs.map fun x => ((List.range n).map fun j => f x j).sum).sum = ((List.range n).map fun j => (xs.map fun x => f x j).sum).sum
  | [] => (sum_zeroF n).symm
  | x :: xs => by
    rw [List.map_cons, List.sum_cons, sum_swapL f n xs, ← sum_addF]
    congr 2
theorem sum_mulRL {α : Type} (c : Int) (f : α → Int) : ∀ xs : List α, (xs.map fun x => f x * c).sum = (xs.map f).sum * c
  | [] => (Int.zero_mul _).symm
  | x :: xs => by rw [List.map_cons, List.map_cons, List.sum_cons, List.sum_cons, sum_mulRL c f xs, Int.add_mul]
theorem endF_snoc (Ls : List (List Int)) (row : List Nat) (k s : Nat) : endF Ls (row ++ [k]) s = ((Ls.getD k []).getD (endF Ls row s) 0).toNat := by
  unfold endF
  rw [List.foldl_append] <;> rfl
/-- the moves' leads, as a System has them -/
def LdsOk (many : Nat) (Ls : List (List Int)) : Prop := ∀ l ∈ Ls, l.length = many ∧ ∀ x ∈ l, 0 ≤ x ∧ x < (many : Int)
theorem lead_in {many : Nat} {Ls : List (List Int)} (h : LdsOk many Ls) {k q : Nat} (hk : k < Ls.length) (hq : q < many) : ((Ls.getD k []).getD q 0).toNat < many ∧ (Ls.getD k [])[q]? = some ((((Ls.getD k []).getD q 0).toNat : Nat) : Int) := by
  have e : Ls.getD k [] = Ls[k] := by rw [List.getD_eq_getElem?_getD, List.getElem?_eq_getElem hk] <;> rfl
  obtain ⟨a, b⟩ := h _ (List.getElem_mem hk)
  rw [e]
  have e2 : Ls[k].getD q 0 = Ls[k][q]'(by omega) := by rw [List.getD_eq_getElem?_getD, List.getElem?_eq_getElem (by omega)] <;> rfl
  obtain ⟨c, d⟩ := b _ (List.getElem_mem (show q < Ls[k].length by omega))
  rw [e2, List.getElem?_eq_getElem (by omega)]
  refine ⟨by omega, ?_⟩
  rw [Int.toNat_of_nonneg c]
theorem end_lt {many : Nat} {Ls : List (List Int)} (h : LdsOk many Ls) : ∀ (row : List Nat) (s : Nat), (∀ k ∈ row, k < Ls.length) → s < many → endF Ls row s < many
  | [], s, _, hs => hs
  | k :: row, s, hr, hs => end_lt h row _ (fun j hj => hr j (List.mem_cons_of_mem _ hj)) (lead_in h (hr k List.mem_cons_self) hs).1
theorem rows_in {ts : List Int} : ∀ (d : Nat) (rw : List Nat × Int), rw ∈ rowsW ts d → ∀ k ∈ rw.1, k < ts.length
  | 0, rw, h, k, hk => by
    rw [List.mem_singleton.mp h] at hk
    cases hk
  | d + 1, rw, h, k, hk => by
    obtain ⟨r, h1, h2⟩ := List.mem_flatMap.mp h
    obtain ⟨j, h3, rfl⟩ := List.mem_map.mp h2
    rcases List.mem_append.mp hk with hk | hk
    · exact rows_in d r h1 k hk
    · rw [List.mem_singleton.mp hk]
      exact List.mem_range.mp h3
theorem cell_get : ∀ (ts : List Int) (Ls : List (List Int)) (q o : Nat), ts.length = Ls.length → cellF ts Ls q o = ((List.range ts.length).map fun k => if (Ls.getD k [])[q]? = some ((o : Nat) : Int) then ts.getD k 0 else 0).sum
  | [], [], _, _, _ => rfl
  | t :: ts, l :: Ls, q, o, h => by
    have ih := cell_get ts Ls q o (by injection h)
    rw [List.length_cons, List.range_succ_eq_map, List.map_cons, List.sum_cons, List.map_map]
    show (if l[q]? = some ((o : Nat) : Int) then t else 0) + cellF ts Ls q o = _
    rw [ih]
    rfl
theorem one_hit {many q : Nat} (hq : q < many) (c : Int) (G : Nat → Int) : ((List.range many).map fun p => (if q = p then c else 0) * G p).sum = c * G q := by
  have e : ∀ p, (if q = p then c else 0) * G p = if some ((q : Nat) : Int) = some ((p : Nat) : Int) then c * G q else 0 := fun p => by
    by_cases z : q = p
    · subst z
      rw [if_pos rfl, if_pos rfl]
    · rw [if_neg z, if_neg (fun y => z (by have := Option.some.inj y; omega)), Int.zero_mul]
  rw [sum_congF fun p _ => e p, sum_point, if_pos hq]
theorem allF_eq {ts : List Int} {Ls : List (List Int)} {T : Nat → Int} {many : Nat} (hl : ts.length = Ls.length) (h : LdsOk many Ls) : ∀ d o, o < many → allF ts Ls T many d o = itT (cellF ts Ls) many T d o
  | 0, o, ho => by
    show ((List.range many).map fun s => if s = o then 1 * T s else 0).sum + 0 = T o
    rw [Int.add_zero]
    have e := one_hit ho 1 T
    rw [Int.one_mul] at e
    rw [← e]
    refine sum_congF fun s _ => ?_
    by_cases z : s = o
    · rw [if_pos z, if_pos z.symm]
    · rw [if_neg z, if_neg (Ne.symm z), Int.zero_mul]
  | d + 1, o, ho => by
    show allF ts Ls T many (d + 1) o = ((List.range many).map fun q => itT (cellF ts Ls) many T d q * cellF ts Ls q o).sum
    rw [sum_congF (g := fun q => allF ts Ls T many d q * cellF ts Ls q o) fun q hq => by rw [allF_eq hl h d q hq]]
    unfold allF
    rw [rowsW, sum_flatMap, sum_congF (g := fun q => ((rowsW ts d).map fun rw => hitF Ls T many rw q * cellF ts Ls q o).sum) fun q _ => by rw [sum_mulRL], ← sum_swapL]
    refine sum_mapL fun rw hrw => ?_
    rw [List.map_map]
    show ((List.range ts.length).map fun k => ((List.range many).map fun s => if endF Ls (rw.1 ++ [k]) s = o then rw.2 * ts.getD k 0 * T s else 0).sum).sum = _
    have rhs : ((List.range many).map fun q => hitF Ls T many rw q * cellF ts Ls q o).sum = ((List.range many).map fun s => rw.2 * T s * cellF ts Ls (endF Ls rw.1 s) o).sum := by
      unfold hitF
      rw [sum_congF (g := fun q => ((List.range many).map fun s => (if endF Ls rw.1 s = q then rw.2 * T s else 0) * cellF ts Ls q o).sum) fun q _ => by rw [sum_mulR], sum_swapF (fun q s => (if endF Ls rw.1 s = q then rw.2 * T s else 0) * cellF ts Ls q o)]
      refine sum_congF fun s hs => ?_
      exact one_hit (end_lt h rw.1 s (fun k hk => by rw [← hl]; exact rows_in d rw hrw k hk) hs) (rw.2 * T s) (fun q => cellF ts Ls q o)
    rw [rhs, sum_swapF (fun k s => if endF Ls (rw.1 ++ [k]) s = o then rw.2 * ts.getD k 0 * T s else 0)]
    refine sum_congF fun s hs => ?_
    have eq := end_lt h rw.1 s (fun k hk => by rw [← hl]; exact rows_in d rw hrw k hk) hs
    rw [cell_get ts Ls _ o hl, ← sum_mulF]
    refine sum_congF fun k hk => ?_
    rw [endF_snoc]
    obtain ⟨l1, l2⟩ := lead_in h (k := k) (by omega) eq
    rw [l2]
    by_cases z : ((Ls.getD k []).getD (endF Ls rw.1 s) 0).toNat = o
    · rw [if_pos z, if_pos (by rw [z]), Int.mul_assoc, Int.mul_comm (ts.getD k 0), ← Int.mul_assoc]
    · rw [if_neg z, if_neg (fun y => z (by have := Option.some.inj y; omega)), Int.mul_zero]
end Law
namespace Law
open PySem L2
def RwAt (K : PySem.W.Frag) (H : Hp) (v : V) (x : List Nat × Int) (D : Int) : Prop := ∃ t r s, v = .ref t ∧ SqT K H t [.ref r, .ref s] ∧ SqT K H r ((x.1.map fun k => ((k : Nat) : Int)).map V.int) ∧ SqT K H s [.int (lowP x.2 D).1, .int (lowP x.2 D).2]
def RwsIn (K : PySem.W.Frag) (H : Hp) (vs : List V) (xs : List (List Nat × Int)) (D : Int) : Prop := vs.length = xs.length ∧ ∀ (i : Nat) (v : V), vs[i]? = some v → ∃ x, xs[i]? = some x ∧ RwAt K H v x D
theorem RwAt.same {K : PySem.W.Frag} {H H' : Hp} {v : V} {x : List Nat × Int} {D : Int} (h : RwAt K H v x D) (s : Same H H') : RwAt K H' v x D := by
  obtain ⟨t, r, q, h1, h2, h3, h4⟩ := h
  exact ⟨t, r, q, h1, s.sqT h2, s.sqT h3, s.sqT h4⟩
theorem RwsIn.same {K : PySem.W.Frag} {H H' : Hp} {vs : List V} {xs : List (List Nat × Int)} {D : Int} (h : RwsIn K H vs xs D) (s : Same H H') : RwsIn K H' vs xs D := ⟨h.1, fun i v hv => by
  obtain ⟨x, h1, h2⟩ := h.2 i v hv
  exact ⟨x, h1, h2.same s⟩⟩
theorem RwAt.upd {K : PySem.W.Frag} {H : Hp} {l : Addr} {acc : List V} {o : HO} {v : V} {x : List Nat × Int} {D : Int} (h : RwAt K H v x D) (hl : H l = some (.lst acc)) : RwAt K (upd H l o) v x D := by
  obtain ⟨t, r, q, h1, h2, h3, h4⟩ := h
  exact ⟨t, r, q, h1, sqT_upd hl h2, sqT_upd hl h3, sqT_upd hl h4⟩
theorem RwsIn.upd {K : PySem.W.Frag} {H : Hp} {l : Addr} {acc vs : List V} {o : HO} {xs : List (List Nat × Int)} {D : Int} (h : RwsIn K H vs xs D) (hl : H l = some (.lst acc)) : RwsIn K (L2.upd H l o) vs xs D := ⟨h.1, fun i v hv => by
  obtain ⟨x, h1, h2⟩ := h.2 i v hv
  exact ⟨x, h1, h2.upd hl⟩⟩
theorem RwsIn.app {K : PySem.W.Frag} {H : Hp} {vs us : List V} {xs ys : List (List Nat × Int)} {D : Int} (h : RwsIn K H vs xs D) (g : RwsIn K H us ys D) : RwsIn K H (vs ++ us) (xs ++ ys) D := ⟨by rw [List.length_append, List.length_append, h.1, g.1], fun i v hv => by
  by_cases il : i < vs.length
  · rw [List.getElem?_append_left il] at hv
    obtain ⟨x, h1, h2⟩ := h.2 i v hv
    exact ⟨x, by rw [List.getElem?_append_left (h.1 ▸ il)]; exact h1, h2⟩
  · rw [List.getElem?_append_right (by omega)] at hv
    obtain ⟨x, h1, h2⟩ := g.2 _ v hv
    exact ⟨x, by rw [List.getElem?_append_right (by rw [← h.1]; omega), ← h.1]; exact h1, h2⟩⟩
theorem cat_any {K : PySem.W.Frag} {H : Hp} {a b : Addr} {xs ys : List Int} {Q : VK} (ha : SqT K H a (xs.map V.int)) (hb : SqT K H b (ys.map V.int)) (hl : xs.length + ys.length ≤ 1000) (kk : ∀ p H', Same H H' → SqT K H' p ((xs ++ ys).map V.int) → Q (.ref p) H') : rCatA K (.ref a) (.ref b) H Q := by
  refine ⟨a, b, _, _, rfl, rfl, ha, hb, ?_, fun e => ?_, fun _ e => ?_, fun _ _ c hc => ?_⟩
  · rw [List.length_map, List.length_map]
    exact Nat.le_of_lt (small1000 (by omega))
  · refine kk b H (Same.refl H) ?_
    rw [List.map_append, e, List.nil_append]
    exact hb
  · refine kk a H (Same.refl H) ?_
    rw [List.map_append, e, List.append_nil]
    exact ha
  · refine kk c _ (Same.new hc) ?_
    rw [List.map_append]
    exact SqT.of upd_same
theorem flat_len (ts : List Int) (xs : List (List Nat × Int)) : (xs.flatMap fun rw => (List.range ts.length).map fun k => (rw.1 ++ [k], rw.2 * ts.getD k 0)).length = xs.length * ts.length := by
  induction xs with
  | nil => exact (Nat.zero_mul _).symm
  | cons x xs ih => rw [List.flatMap_cons, List.length_append, ih, List.length_map, List.length_range, List.length_cons, Nat.add_mul, Nat.one_mul, Nat.add_comm]
theorem rowsW_len (ts : List Int) : ∀ d : Nat, (rowsW ts d).length = ts.length ^ d
  | 0 => rfl
  | d + 1 => by rw [rowsW, flat_len, rowsW_len ts d, Nat.pow_succ]
theorem rows_w {ts : List Int} {B : Nat} (h : ∀ t ∈ ts, 0 ≤ t ∧ t ≤ (B : Int)) : ∀ (d : Nat) (rw : List Nat × Int), rw ∈ rowsW ts d → 0 ≤ rw.2 ∧ rw.2 ≤ ((B ^ d : Nat) : Int) ∧ rw.1.length = d
  | 0, rw, hm => by
    rw [List.mem_singleton.mp hm]
    exact ⟨by decide, by rw [Nat.pow_zero]; decide, rfl⟩
  | d + 1, rw, hm => by
    obtain ⟨r, h1, h2⟩ := List.mem_flatMap.mp hm
    obtain ⟨j, h3, rfl⟩ := List.mem_map.mp h2
    obtain ⟨a, b, c⟩ := rows_w h d r h1
    have jl := List.mem_range.mp h3
    have e : ts.getD j 0 = ts[j] := by rw [List.getD_eq_getElem?_getD, List.getElem?_eq_getElem jl] <;> rfl
    obtain ⟨x, y⟩ := h _ (List.getElem_mem jl)
    rw [← e] at x y
    refine ⟨Int.mul_nonneg a x, ?_, by rw [List.length_append, c] <;> rfl⟩
    rw [Nat.pow_succ, Int.natCast_mul]
    exact Int.mul_le_mul b y x (by omega)
section
variable {P : Program} {w : World} {K : PySem.W.Frag} {mg : Str → Option Value} {base : Heap}
def spByRows (K : PySem.W.Frag) : Sp := fun vs H Q _ => ∃ (mv a : Addr) (many d : Nat) (ms : List Mv) (fs : List Fr), vs = [.int (many : Int), .ref mv, .ref a, .int (d : Int)] ∧ MvsAt K H mv ms ∧ SysOk many ms ∧ ms.length ≤ 5 ∧ FrTA K H a fs ∧ SprOk many fs ∧ d ≤ 3 ∧ lcmAll fs ≤ 72 ∧ Bm ms < 2 ^ 200 ∧
  ∀ t xs H', Same H H' → H' t = some (.tup xs) → FrsIn K H' xs (behF many ms fs d) → Q (.ref t) H'
abbrev nLawByRows : List Str := ["_law_many", "_law_moves_here", "_law_here_now", "_law_depth", "_law_rows", "_law_turn", "_law_longer", "_law_row", "_law_share", "_law_found", "_law_state", "_law_here", "_law_move", "_law_k"]
theorem scLawByRows : FnScope nLawByRows ["_law_many", "_law_moves_here", "_law_here_now", "_law_depth"] (defScope s_law_by_rows) := ⟨rfl, rfl, rfl, by decide +kernel, rfl, by decide +kernel, by decide +kernel⟩
theorem ok_by_rows {f : Addr} {fd : FuncData} {fcTimes : Addr} {fdcTimes : FuncData} {fcPlus : Addr} {fdcPlus : FuncData} (F : Fun K "_law_by_rows" "_law_by_rows" s_law_by_rows f fd) (T : NmA mg) (cTimes : Cl P w K mg base CX0 35 "_law_times" fcTimes fdcTimes ["_law_one", "_law_other"] (spTimes K)) (cPlus : Cl P w K mg base CX0 35 "_law_plus" fcPlus fdcPlus ["_law_one", "_law_other"] (spPlus K)) : FnOk P w K mg base CX0 36 f fd ["_law_many", "_law_moves_here", "_law_here_now", "_law_depth"] (spByRows K) := by
  refine F.ok scLawByRows (fun vs H Q E h => ?_) (fun cdv A' outer s H vs Q E hr h => ?_)
  · obtain ⟨mv, a, many, d, ms, fs, rfl, _⟩ := h
    rfl
  · obtain ⟨mv, a, many, d, ms, fs, rfl, hM, ok, l5, hF, spr, d3, l72, b200, k⟩ := h
    have hu := hu_of hr
    refine ⟨_, pss_cons (ps_set (i := 4) scLawByRows.nd rfl (Or.inl rfl) (pe_lst (pa_cons (pe_tup (pa_cons (pe_tup pa_nil) (pa_cons (pe_tup (pa_cons pe_int (pa_cons pe_int pa_nil))) pa_nil))) pa_nil)))
      (pss_cons (ps_for PassesOwn.never rfl (pi_range1 (by rfl) T.range (pa_cons (pv 3) pa_nil)) (pg_name (i := 5) scLawByRows.nd rfl (Or.inl rfl))
        (pss_cons (ps_set (i := 6) scLawByRows.nd rfl (Or.inl rfl) (pe_lst pa_nil))
        (pss_cons (ps_for PassesOwn.never rfl (pi_list (pv 4)) (pg_tup (by rfl) (pgs_cons (pg_name (i := 7) scLawByRows.nd rfl (Or.inr rfl)) (pgs_cons (pg_name (i := 8) scLawByRows.nd rfl (Or.inr rfl)) pgs_nil)))
          (pss_one (ps_expr (pe_bm PySem.F.plainAttrs_list PySem.F.slot_list_extend PySem.F.type_list_extend mt_extend (pv 6) (pa_cons (pe_lc (own := [("_law_k", 13)]) (g := (gName 13)) (tt := tYes) rfl scLawByRows.nd  (pi_range1 (by rfl) T.range (pa_cons (pe_callB call_len_seq (by rfl) T.len PySem.boot_len (pa_cons (pv 1) pa_nil)) pa_nil)) (blkOk_by (own := [("_law_k", 13)]) (N := nLawByRows) (sc := defScope s_law_by_rows) (by decide +kernel)) (fun _ _ _ _ _ => (pg_name (i := 13) scLawByRows.nd rfl (Or.inl rfl))) (fun _ _ _ _ _ => pts_nil) (fun _ _ _ _ _ => (pe_tup (pa_cons (pe_op (r := rCatA K) (show OpR _ (binaryOp .Add) (rCatA K) from op_catA) (pv 7) (pe_tup (pa_cons (pv 13) pa_nil))) (pa_cons (cTimes.call (hr.mono (by decide)) (pa_cons (pv 8) (pa_cons (pe_ix (r := rIxT K) (show IxR _ (rIxT K) from ix_tup) (pe_ix (r := rIxT K) (show IxR _ (rIxT K) from ix_tup) (pv 1) (pv 13) (fun _ _ => rfl)) pe_int (fun _ _ => rfl)) pa_nil))) pa_nil))))) pa_nil)))))
        (pss_one (ps_set (i := 4) scLawByRows.nd rfl (Or.inl rfl) (pv 6))))))
      (pss_cons (ps_set (i := 9) scLawByRows.nd rfl (Or.inl rfl) (pe_op op_rep (pe_lst (pa_cons (pe_tup (pa_cons pe_int (pa_cons pe_int pa_nil))) pa_nil)) (pv 0)))
      (pss_cons (ps_for PassesOwn.never rfl (pi_list (pv 4)) (pg_tup (by rfl) (pgs_cons (pg_name (i := 7) scLawByRows.nd rfl (Or.inr rfl)) (pgs_cons (pg_name (i := 8) scLawByRows.nd rfl (Or.inr rfl)) pgs_nil)))
        (pss_one (ps_for PassesOwn.never rfl (pi_range1 (by rfl) T.range (pa_cons (pv 0) pa_nil)) (pg_name (i := 10) scLawByRows.nd rfl (Or.inl rfl))
          (pss_cons (ps_set (i := 11) scLawByRows.nd rfl (Or.inl rfl) (pv 10))
          (pss_cons (ps_for PassesOwn.never rfl (pi_tup (pv 7)) (pg_name (i := 12) scLawByRows.nd rfl (Or.inl rfl))
            (pss_one (ps_set (i := 11) scLawByRows.nd rfl (Or.inl rfl) (pe_ix ix_tup (pe_ix ix_tup (pe_ix ix_tup (pv 1) (pv 12) (fun _ _ => rfl)) pe_int (fun _ _ => rfl)) (pv 11) (fun _ _ => rfl)))))
          (pss_one (ps_asg (cPlus.call (hr.mono (by decide)) (pa_cons (pe_ix ix_list (pv 9) (pv 11) (fun _ _ => rfl)) (pa_cons (cTimes.call (hr.mono (by decide)) (pa_cons (pv 8) (pa_cons (pe_ix ix_tup (pv 2) (pv 10) (fun _ _ => rfl)) pa_nil))) pa_nil))) (pg_sub (pv 9) (pv 11) set_list))))))))
      (pss_one (ps_ret (pe_callTy call_tuple_of (by rfl) T.tuple (by decide +kernel) (pa_cons (pv 9) pa_nil))))))), ?_⟩
    have m12 := ok.m2
    have m1 := ok.m1
    have bp := bm_pos ok
    have lp := spr.lpos
    obtain ⟨vs, hV, hMv⟩ := id hM
    have vl := hMv.1
    have tl : (tsM ms).length = ms.length := by
      unfold tsM topsOf frs
      rw [List.length_map, List.length_map]
    have tn := ts_nn ok
    have BP : ∀ i, (0 : Int) < ((Bm ms ^ i : Nat) : Int) := fun i => by
      have := Nat.pow_pos (n := i) bp
      omega
    have top : ∀ (i : Nat) (m : Mv), ms[i]? = some m → (tsM ms)[i]? = some (m.1.1 * (((Bm ms : Nat) : Int) / m.1.2)) := fun i m hm => by
      unfold tsM topsOf frs
      rw [List.getElem?_map, List.getElem?_map, hm] <;> rfl
    refine ⟨by show 0 ≤ sizeLine; decide, fun e he => ⟨by show 2 ≤ sizeLine; decide, fun e1 he1 => ⟨by show 2 ≤ sizeLine; decide, fun e2 he2 => ⟨by show 1 ≤ sizeLine; decide, fun L hL => ?_⟩⟩⟩⟩
    have H1e : ∃ H1 : Hp, H1 = upd (upd (upd (upd H e (.tup [])) e1 (.tup [.int 1, .int 1])) e2 (.tup [.ref e, .ref e1])) L (.lst [.ref e2]) := ⟨_, rfl⟩
    have s0 : Same H (upd H e (.tup [])) := Same.new he
    have s1 : Same H (upd (upd (upd (upd H e (.tup [])) e1 (.tup [.int 1, .int 1])) e2 (.tup [.ref e, .ref e1])) L (.lst [.ref e2])) := ((s0.trans (Same.new he1)).trans (Same.new he2)).trans (Same.new hL)
    have gL : (upd (upd (upd (upd H e (.tup [])) e1 (.tup [.int 1, .int 1])) e2 (.tup [.ref e, .ref e1])) L (.lst [.ref e2])) L = some (.lst [.ref e2]) := upd_same
    have R0 : RwsIn K (upd (upd (upd (upd H e (.tup [])) e1 (.tup [.int 1, .int 1])) e2 (.tup [.ref e, .ref e1])) L (.lst [.ref e2])) [.ref e2] (rowsW (tsM ms) 0) ((Bm ms ^ 0 : Nat) : Int) := ⟨rfl, fun i v hv => by
      match i, hv with
      | 0, hv =>
        refine ⟨([], 1), rfl, e2, e, e1, (Option.some.inj hv).symm, SqT.of ((Same.new hL) _ _ upd_same), SqT.of ((Same.new hL) _ _ ((Same.new he2) _ _ ((Same.new he1) _ _ upd_same))), ?_⟩
        have e11 : lowP 1 ((Bm ms ^ 0 : Nat) : Int) = (1, 1) := by rw [Nat.pow_zero] <;> rfl
        show SqT K _ e1 [.int (lowP 1 ((Bm ms ^ 0 : Nat) : Int)).1, .int (lowP 1 ((Bm ms ^ 0 : Nat) : Int)).2]
        rw [e11]
        exact SqT.of ((Same.new hL) _ _ ((Same.new he2) _ _ upd_same))⟩
    generalize upd (upd (upd (upd H e (.tup [])) e1 (.tup [.int 1, .int 1])) e2 (.tup [.ref e, .ref e1])) L (.lst [.ref e2]) = H1 at s1 gL R0 ⊢
    clear H1e s0 he he1 he2 hL
    have tsB : ∀ t ∈ tsM ms, 0 ≤ t ∧ t ≤ ((Bm ms : Nat) : Int) := fun t ht => ⟨tn t ht, by
      have o1 : (tsM ms).sum = ((Bm ms : Nat) : Int) := ok.one
      rw [← o1]
      exact le_sum tn t ht⟩
    have b600 : ∀ i, i ≤ 3 → Bm ms ^ i < 2 ^ 600 := fun i hi => Nat.lt_of_le_of_lt (Nat.pow_le_pow_right bp hi) (by
      have : Bm ms ^ 3 < (2 ^ 200) ^ 3 := Nat.pow_lt_pow_left b200 (by decide)
      rw [← Nat.pow_mul] at this
      exact this)
    refine ⟨_, rfl, (d : Int), rfl, by omega, by omega, ?_⟩
    rw [Int.toNat_natCast]
    refine for_range (lo := 0) (n := d) (fun i σ H' => Same H H' ∧ ∃ (l : Addr) (us : List V) (u5 u6 u7 u8 : Option V), H' l = some (.lst us) ∧ RwsIn K H' us (rowsW (tsM ms) i) ((Bm ms ^ i : Nat) : Int) ∧ σ = [some (.int (many : Int)), some (.ref mv), some (.ref a), some (.int (d : Int)), some (.ref l), u5, u6, u7, u8, none, none, none, none, none]) ⟨s1, L, _, none, none, none, none, gL, R0, rfl⟩ ?_ ?_
    · rintro i σ H2 hi ⟨s2, l, us, u5, u6, u7, u8, gl, gR, rfl⟩
      refine ⟨by show 0 ≤ sizeLine; decide, fun W hW => ?_⟩
      have hWH := s2.free hW
      have s3 : Same H2 (upd H2 W (.lst [])) := Same.new hW
      refine ⟨_, rfl, l, rfl, ⟨_, SqL.of (s3 _ _ gl)⟩, for_list (K := K) (a := l) (xs := us) (fun j σ H3 => Same H2 H3 ∧ ∃ (acc : List V) (v7 v8 : Option V), H3 W = some (.lst acc) ∧ RwsIn K H3 acc (((rowsW (tsM ms) i).take j).flatMap fun rw => (List.range (tsM ms).length).map fun k => (rw.1 ++ [k], rw.2 * (tsM ms).getD k 0)) ((Bm ms ^ (i + 1) : Nat) : Int) ∧ σ = [some (.int (many : Int)), some (.ref mv), some (.ref a), some (.int (d : Int)), some (.ref l), some (.int (0 + (i : Int))), some (.ref W), v7, v8, none, none, none, none, none]) ⟨s3, [], u7, u8, upd_same, ⟨rfl, fun i v hv => by simp at hv⟩, rfl⟩ (fun j σ H3 _ g => SqL.of (g.1 _ _ gl)) ?_ ?_⟩
      · rintro j x σ H3 hj ⟨t3, acc, v7, v8, gW, gA, rfl⟩
        obtain ⟨rw', hrw, t, r, q, rfl, hT, hr1, hq⟩ := gR.2 j x hj
        have s23 := s2.trans t3
        have rin := rows_in i rw' (List.mem_of_getElem? hrw)
        obtain ⟨w0, w1, rl⟩ := rows_w tsB i rw' (List.mem_of_getElem? hrw)
        refine ⟨t, _, rfl, t3.sqT hT, rfl, _, _, rfl, _, _, rfl, rfl, ?_⟩
        refine ⟨_, rfl, .inl ⟨rfl, _, SqL.of gW⟩, ?_⟩
        refine ⟨_, rfl, mv, _, rfl, .inr (s23.sqT hV), ((vs.length : Nat) : Int), rfl, by omega, by omega, fun E hE => ?_⟩
        refine lc_range (lo := 0) (n := vs.length) (fun k H4 => Same H3 H4 ∧ ∃ ac, H4 E = some (.lst ac) ∧ RwsIn K H4 ac ((List.range k).map fun k => (rw'.1 ++ [k], rw'.2 * (tsM ms).getD k 0)) ((Bm ms ^ (i + 1) : Nat) : Int)) ⟨Same.new hE, [], upd_same, rfl, fun i v hv => by simp at hv⟩ (fun k H4 hk g => ?_) fun H4 g => ?_
        · obtain ⟨t4, ac, g4, g5⟩ := g
          have al : ac.length = k := by rw [g5.1, List.length_map, List.length_range]
          have s24 := s23.trans t4
          have kv : vs[k]? = some vs[k] := List.getElem?_eq_getElem hk
          obtain ⟨m, hm, a0, st, ld, e0, hA, hTm, hL0⟩ := hMv.2 k vs[k] kv
          rw [e0] at kv
          have mm := List.mem_of_getElem? hm
          obtain ⟨fo, fp, fg, mlen, mlt⟩ := ok.mv m mm
          refine ⟨rfl, _, rfl, _, rfl, by show 1 ≤ sizeLine; decide, fun p1 hp1 => ?_⟩
          have k5 : SqT K (upd H4 p1 (.tup [.int (0 + (k : Int))])) p1 ([((k : Nat) : Int)].map V.int) := by
            rw [Int.zero_add]
            exact SqT.of upd_same
          have s5 : Same H4 (upd H4 p1 (.tup [.int (0 + (k : Int))])) := Same.new hp1
          generalize upd H4 p1 (.tup [.int (0 + (k : Int))]) = H5 at s5 k5 ⊢
          refine cat_any (s5.sqT ((t3.trans t4).sqT hr1)) k5 (by rw [List.length_map]; show rw'.1.length + 1 ≤ 1000; omega) fun p H6 s6 h6 => ?_
          have s26 := (s24.trans s5).trans s6
          have fq := wide_le w0 w1 (show (((Bm ms ^ i : Nat) : Nat) : Int).natAbs < 2 ^ 600 by rw [Int.natAbs_natCast]; exact b600 i (by omega))
          obtain ⟨y1, y2⟩ := lowP_le w0 (BP i)
          have y3 := lowP_nn w0 (BP i)
          have y4 := lowP_pos2 (t := rw'.2) (BP i)
          have bi : (((Bm ms ^ i : Nat) : Nat) : Int).natAbs < 2 ^ 600 := by rw [Int.natAbs_natCast]; exact b600 i (by omega)
          refine ⟨_, rfl, _, rfl, _, rfl, mv, vs, _, .ref a0, rfl, rfl, s26.sqT hV, by rw [Int.zero_add]; exact atI_nat kv, a0, _, _, .ref st, rfl, rfl, s26.sqT hA, ats0 _ _, ?_⟩
          refine ⟨q, st, _, m.1, rfl, ((((t3.trans t4).trans s5).trans s6)).sqT hq, s26.sqT hTm, y3, Int.le_of_lt fp, y4, fo.1, pow_mono (wide_le y3 (Int.le_trans y1 w1) bi) (by decide), pow_mono (wide_le (Int.le_of_lt y4) y2 bi) (by decide), pow_mono fo.2.2 (by decide), pow_mono fo.2.1 (by decide), fun z hz => ⟨by show 2 ≤ sizeLine; decide, fun z2 hz2 => ?_⟩⟩
          have tm : lowP ((lowP rw'.2 ((Bm ms ^ i : Nat) : Int)).1 * m.1.1) ((lowP rw'.2 ((Bm ms ^ i : Nat) : Int)).2 * m.1.2) = lowP (rw'.2 * (tsM ms).getD k 0) ((Bm ms ^ (i + 1) : Nat) : Int) := by
            have tg : (tsM ms).getD k 0 = m.1.1 * (((Bm ms : Nat) : Int) / m.1.2) := by
              rw [List.getD_eq_getElem?_getD, top k m hm] <;> rfl
            have z := times_low (t := rw'.2) (u := m.1.1 * (((Bm ms : Nat) : Int) / m.1.2)) (BP i) (show (0 : Int) < ((Bm ms : Nat) : Int) by omega)
            rw [← share_low ok mm, ← Int.natCast_mul, ← Nat.pow_succ] at z
            rw [tg]
            exact z
          have s7 : Same H6 (upd (upd H6 z (.tup [.int (lowP ((lowP rw'.2 ((Bm ms ^ i : Nat) : Int)).1 * m.1.1) ((lowP rw'.2 ((Bm ms ^ i : Nat) : Int)).2 * m.1.2)).1, .int (lowP ((lowP rw'.2 ((Bm ms ^ i : Nat) : Int)).1 * m.1.1) ((lowP rw'.2 ((Bm ms ^ i : Nat) : Int)).2 * m.1.2)).2])) z2 (.tup [.ref p, .ref z])) := (Same.new hz).trans (Same.new hz2)
          have g46 := ((s5.trans s6).trans s7) _ _ g4
          refine ⟨ac, g46, small1000 (by omega), (((t4.trans s5).trans s6).trans s7).mut hE, ac ++ [.ref z2], upd_same, ?_⟩
          rw [map_snoc]
          refine (((g5.same (s5.trans s6)).same s7).app (us := [.ref z2]) (ys := [(rw'.1 ++ [k], rw'.2 * (tsM ms).getD k 0)]) ⟨rfl, fun i2 v hv => ?_⟩).upd g46
          match i2, hv with
          | 0, hv =>
            refine ⟨_, rfl, z2, p, z, (Option.some.inj hv).symm, SqT.of upd_same, s7.sqT ?_, (Same.new hz2).sqT ?_⟩
            · rw [List.map_append]
              exact h6
            · show SqT K _ z [.int (lowP (rw'.2 * (tsM ms).getD k 0) ((Bm ms ^ (i + 1) : Nat) : Int)).1, .int (lowP (rw'.2 * (tsM ms).getD k 0) ((Bm ms ^ (i + 1) : Nat) : Int)).2]
              rw [← tm]
              exact SqT.of upd_same
        · obtain ⟨t4, ac, g4, g5⟩ := g
          have gW4 := t4 _ _ gW
          refine ⟨W, E, acc, ac, rfl, rfl, gW4, g4, ?_, ?_⟩
          · have j1 := (List.getElem?_eq_some_iff.mp hrw).1
            have e1 : acc.length = j * (tsM ms).length := by rw [gA.1, flat_len, List.length_take]; congr 1; omega
            have e2 : ac.length = (tsM ms).length := by rw [g5.1, List.length_map, List.length_range, vl, tl]
            have e3 := rowsW_len (tsM ms) i
            have e4 : (tsM ms).length ^ i ≤ 5 ^ 3 := Nat.le_trans (Nat.pow_le_pow_left (by omega) i) (Nat.pow_le_pow_right (by decide) (by omega))
            have e5 : (tsM ms).length ≤ 5 := by omega
            have e6 : j * (tsM ms).length ≤ 125 * 5 := Nat.mul_le_mul (by omega) e5
            exact Nat.le_of_lt (small1000 (by omega))
          · refine ⟨(t3.trans t4).mut hW, acc ++ ac, _, _, upd_same, ?_, rfl⟩
            rw [List.take_add_one, hrw, List.flatMap_append]
            refine (((gA.same t4).app (ys := [rw'].flatMap fun rw => (List.range (tsM ms).length).map fun k => (rw.1 ++ [k], rw.2 * (tsM ms).getD k 0)) ?_)).upd gW4
            rw [List.flatMap_singleton, tl, ← vl]
            exact g5
      · rintro σ H3 ⟨t3, acc, v7, v8, gW, gA, rfl⟩
        rw [gR.1, List.take_length] at gA
        exact ⟨_, rfl, s2.trans t3, W, acc, _, _, _, _, gW, gA, rfl⟩
    · rintro σ H2 ⟨s2, l, us, u5, u6, u7, u8, gl, gR, rfl⟩
      have gRR := gR
      clear gL R0
      have l72' : (0 : Int) < ((lcmAll fs : Nat) : Int) := by omega
      have Dp0 : (0 : Int) < ((Bm ms ^ d * lcmAll fs : Nat) : Int) := by
        have := Nat.mul_pos (Nat.pow_pos (n := d) bp) lp
        omega
      have Dl : (((Bm ms ^ d * lcmAll fs : Nat) : Nat) : Int).natAbs < 2 ^ 26000 := by
        rw [Int.natAbs_natCast]
        have := Nat.mul_lt_mul_of_lt_of_lt (b600 d d3) (show lcmAll fs < 2 ^ 7 by omega)
        rw [← Nat.pow_add] at this
        exact pow_mono this (by decide)
      have ldo : LdsOk many (ms.map (·.2)) := fun x hx => by
        obtain ⟨m, hm, rfl⟩ := List.mem_map.mp hx
        obtain ⟨_, _, _, c1, c2⟩ := ok.mv m hm
        exact ⟨c1, c2⟩
      obtain ⟨hs, hHs, hFs⟩ := id hF
      have T0 := spr.nn
      have T1 : ∀ s, s < many → topF fs s ≤ ((lcmAll fs : Nat) : Int) := fun s hs => by
        have z := beh_le ok spr (n := 0) hs
        rw [Nat.pow_zero, Nat.mul_one] at z
        exact z
      -- the list of zeros
      refine ⟨by show 2 ≤ sizeLine; decide, fun q hq => ⟨by show 1 ≤ sizeLine; decide, fun q1 hq1 => ⟨_, rfl, q1, (many : Int), [.ref q], rfl, rfl, upd_same, by omega, by omega, Nat.le_of_lt (small1000 (show 1 * (many : Int).toNat ≤ 1000 by omega)), fun W hW => ?_⟩⟩⟩
      have eq : (List.replicate (many : Int).toNat [V.ref q]).flatten = List.replicate many (.ref q) := by
        rw [Int.toNat_natCast]
        exact rep_one _ _
      rw [eq]
      have t2 : Same H2 (upd (upd H2 q (.tup [.int 0, .int 1])) q1 (.lst [.ref q])) := (Same.new hq).trans (Same.new hq1)
      have fW : H2 W = none := t2.free hW
      have gq := (Same.new (o := .lst [.ref q]) hq1) q _ (upd_same (H := H2) (o := .tup [.int 0, .int 1]))
      have t5 := t2.trans (Same.new (o := .lst (List.replicate many (.ref q))) hW)
      have gq5 := (Same.new (o := .lst (List.replicate many (.ref q))) hW) q _ gq
      have gW : (upd (upd (upd H2 q (.tup [.int 0, .int 1])) q1 (.lst [.ref q])) W (.lst (List.replicate many (.ref q)))) W = some (.lst (List.replicate many (.ref q))) := upd_same
      clear gq t2 hW hq1
      generalize upd (upd (upd H2 q (.tup [.int 0, .int 1])) q1 (.lst [.ref q])) W (.lst (List.replicate many (.ref q))) = H5 at t5 gq5 gW ⊢
      have F0 : FrsIn K H5 (List.replicate many (.ref q)) ((List.range many).map fun o => lowP 0 ((Bm ms ^ d * lcmAll fs : Nat) : Int)) := ⟨by rw [List.length_replicate, List.length_map, List.length_range], fun i v hv => by
        have il : i < many := by have := (List.getElem?_eq_some_iff.mp hv).1; rw [List.length_replicate] at this; exact this
        have ev := List.eq_of_mem_replicate (List.mem_of_getElem? hv)
        subst ev
        refine ⟨(0, 1), ?_, q, rfl, SqT.of gq5⟩
        rw [List.getElem?_map, List.getElem?_range il]
        show some (lowP 0 _) = _
        rw [low_zero Dp0]⟩
      have rwb : ∀ rw ∈ rowsW (tsM ms) d, 0 ≤ rw.2 ∧ rw.2 ≤ 2 ^ 600 := fun rw hrw => by
        obtain ⟨w0, w1, _⟩ := rows_w tsB d rw hrw
        refine ⟨w0, Int.le_trans w1 ?_⟩
        have := b600 d d3
        have z : ((Bm ms ^ d : Nat) : Int) ≤ ((2 ^ 600 : Nat) : Int) := by omega
        rw [Int.natCast_pow 2] at z
        exact z
      have term : ∀ rw ∈ rowsW (tsM ms) d, ∀ s, s < many → 0 ≤ rw.2 * topF fs s ∧ rw.2 * topF fs s ≤ 2 ^ 600 * 72 := fun rw hrw s hs => by
        obtain ⟨w0, w1⟩ := rwb rw hrw
        have z := T1 s hs
        exact ⟨Int.mul_nonneg w0 (T0 s), Int.mul_le_mul w1 (by omega) (T0 s) (by decide)⟩
      have part : ∀ rw ∈ rowsW (tsM ms) d, ∀ s o, s ≤ many → 0 ≤ ((List.range s).map fun s => if endF (ms.map (·.2)) rw.1 s = o then rw.2 * topF fs s else 0).sum ∧ ((List.range s).map fun s => if endF (ms.map (·.2)) rw.1 s = o then rw.2 * topF fs s else 0).sum ≤ 12 * (2 ^ 600 * 72) := fun rw hrw s o hs => by
        have e : ∀ i, i < s → 0 ≤ (if endF (ms.map (·.2)) rw.1 i = o then rw.2 * topF fs i else 0) ∧ (if endF (ms.map (·.2)) rw.1 i = o then rw.2 * topF fs i else 0) ≤ 2 ^ 600 * 72 := fun i hi => by
          by_cases z : endF (ms.map (·.2)) rw.1 i = o
          · rw [if_pos z]
            exact term rw hrw i (by omega)
          · rw [if_neg z]
            exact ⟨Int.le_refl _, by decide⟩
        refine ⟨sum_nnF fun i hi => (e i hi).1, ?_⟩
        have z := sum_le (2 ^ 600 * 72) ((List.range s).map fun s => if endF (ms.map (·.2)) rw.1 s = o then rw.2 * topF fs s else 0) fun x hx => by
          obtain ⟨i, hi, rfl⟩ := List.mem_map.mp hx
          exact (e i (List.mem_range.mp hi)).2
        rw [List.length_map, List.length_range] at z
        refine Int.le_trans z (Int.mul_le_mul_of_nonneg_right (by omega) (by decide))
      have pbd : ∀ i rw, rw ∈ rowsW (tsM ms) d → ∀ s o, s ≤ many → 0 ≤ (((rowsW (tsM ms) d).take i).map fun rw => hitF (ms.map (·.2)) (topF fs) many rw o).sum + ((List.range s).map fun s => if endF (ms.map (·.2)) rw.1 s = o then rw.2 * topF fs s else 0).sum ∧ ((((rowsW (tsM ms) d).take i).map fun rw => hitF (ms.map (·.2)) (topF fs) many rw o).sum + ((List.range s).map fun s => if endF (ms.map (·.2)) rw.1 s = o then rw.2 * topF fs s else 0).sum).natAbs < 2 ^ 26000 := fun i rw hrw s o hs => by
        obtain ⟨p0, p1⟩ := part rw hrw s o hs
        have e : ∀ x ∈ ((rowsW (tsM ms) d).take i).map fun rw => hitF (ms.map (·.2)) (topF fs) many rw o, 0 ≤ x ∧ x ≤ 12 * (2 ^ 600 * 72) := fun x hx => by
          obtain ⟨r2, h2, rfl⟩ := List.mem_map.mp hx
          exact part r2 (List.mem_of_mem_take h2) many o (Nat.le_refl _)
        have a0 := sum_nn fun x hx => (e x hx).1
        have a1 := sum_le (12 * (2 ^ 600 * 72)) _ fun x hx => (e x hx).2
        rw [List.length_map, List.length_take] at a1
        have l3 := rowsW_len (tsM ms) d
        have l4 : (tsM ms).length ^ d ≤ 5 ^ 3 := Nat.le_trans (Nat.pow_le_pow_left (by omega) d) (Nat.pow_le_pow_right (by decide) d3)
        have a2 : ((min i (rowsW (tsM ms) d).length : Nat) : Int) * (12 * (2 ^ 600 * 72)) ≤ 125 * (12 * (2 ^ 600 * 72)) := Int.mul_le_mul_of_nonneg_right (by omega) (by decide)
        have tot := Int.add_le_add (Int.le_trans a1 a2) p1
        refine ⟨Int.add_nonneg a0 p0, wide_le (Int.add_nonneg a0 p0) tot ?_⟩
        decide +kernel
      refine ⟨_, rfl, l, rfl, ⟨_, SqL.of (t5 _ _ gl)⟩, for_list (K := K) (a := l) (xs := us) (fun i σ H3 => Same H2 H3 ∧ ∃ (xs : List V) (v7 v8 v10 v11 v12 : Option V), H3 W = some (.lst xs) ∧ FrsIn K H3 xs ((List.range many).map fun o => lowP (((rowsW (tsM ms) d).take i).map fun rw => hitF (ms.map (·.2)) (topF fs) many rw o).sum ((Bm ms ^ d * lcmAll fs : Nat) : Int)) ∧ σ = [some (.int (many : Int)), some (.ref mv), some (.ref a), some (.int (d : Int)), some (.ref l), u5, u6, v7, v8, some (.ref W), v10, v11, v12, none])
        ⟨t5, _, u7, u8, none, none, none, gW, F0, rfl⟩ (fun i σ H3 _ g => SqL.of (g.1 _ _ gl)) ?_ ?_⟩
      · rintro i x σ H3 hi ⟨t3, xs, v7, v8, v10, v11, v12, gW3, F3, rfl⟩
        obtain ⟨rw', hrw, t, r, q, rfl, hT, hr1, hq⟩ := gRR.2 i x hi
        have rm := List.mem_of_getElem? hrw
        have rin := rows_in d rw' rm
        refine ⟨t, _, rfl, t3.sqT hT, rfl, _, _, rfl, _, _, rfl, rfl, ?_⟩
        refine ⟨_, rfl, (many : Int), rfl, by omega, by omega, ?_⟩
        rw [Int.toNat_natCast]
        refine for_range (lo := 0) (n := many) (fun s σ H4 => Same H2 H4 ∧ ∃ (xs : List V) (v10 v11 v12 : Option V), H4 W = some (.lst xs) ∧ FrsIn K H4 xs ((List.range many).map fun o => lowP ((((rowsW (tsM ms) d).take i).map fun rw => hitF (ms.map (·.2)) (topF fs) many rw o).sum + ((List.range s).map fun s => if endF (ms.map (·.2)) rw'.1 s = o then rw'.2 * topF fs s else 0).sum) ((Bm ms ^ d * lcmAll fs : Nat) : Int)) ∧ σ = [some (.int (many : Int)), some (.ref mv), some (.ref a), some (.int (d : Int)), some (.ref l), u5, u6, some (.ref r), some (.ref q), some (.ref W), v10, v11, v12, none])
          ⟨t3, xs, v10, v11, v12, gW3, (congrArg (fun z => FrsIn K H3 xs z) (List.map_congr_left fun o _ => by rw [show ((List.range 0).map fun s => if endF (ms.map (·.2)) rw'.1 s = o then rw'.2 * topF fs s else 0).sum = 0 from rfl, Int.add_zero])).mp F3, rfl⟩ ?_ ?_
        · rintro s σ H4 hs' ⟨t4, xs, v10, v11, v12, gW4, F4, rfl⟩
          have s24 := s2.trans t4
          refine ⟨_, rfl, ?_⟩
          refine ⟨_, rfl, r, rfl, ⟨_, t4.sqT hr1⟩, for_tup (K := K) (a := r) (xs := (rw'.1.map fun k => ((k : Nat) : Int)).map V.int) (fun j σ H5 => H5 = H4 ∧ ∃ (x : Int) (v12 : Option V), x = ((endF (ms.map (·.2)) (rw'.1.take j) s : Nat) : Int) ∧ σ = [some (.int (many : Int)), some (.ref mv), some (.ref a), some (.int (d : Int)), some (.ref l), u5, u6, some (.ref r), some (.ref q), some (.ref W), some (.int (0 + (s : Int))), some (.int x), v12, none]) ⟨rfl, 0 + (s : Int), v12, Int.zero_add _, rfl⟩ (fun j σ H5 _ g => by rw [g.1]; exact t4.sqT hr1) ?_ ?_⟩
          · rintro j y σ H5 hj ⟨rfl, x, v12, ex, rfl⟩
            rw [List.getElem?_map, List.getElem?_map] at hj
            obtain ⟨z1, hz1, rfl⟩ := Option.map_eq_some_iff.mp hj
            obtain ⟨k2, hk2, rfl⟩ := Option.map_eq_some_iff.mp hz1
            have kl := rin k2 (List.mem_of_getElem? hk2)
            have kv : vs[k2]? = some (vs[k2]'(by omega)) := List.getElem?_eq_getElem (by omega)
            obtain ⟨m, hm, a0, st, ld, e0, hA, hTm, hL0⟩ := hMv.2 k2 _ kv
            rw [e0] at kv
            have hl : endF (ms.map (·.2)) (rw'.1.take j) s < many := end_lt ldo _ s (fun k hk => by rw [List.length_map, ← tl]; exact rin k (List.mem_of_mem_take hk)) hs'
            obtain ⟨y1, y2⟩ := lead_in ldo (k := k2) (by rw [List.length_map]; omega) hl
            have gm : (ms.map (·.2)).getD k2 [] = m.2 := by rw [List.getD_eq_getElem?_getD, List.getElem?_map, hm] <;> rfl
            rw [gm] at y2
            subst ex
            refine ⟨_, rfl, _, rfl, mv, vs, _, .ref a0, rfl, rfl, s24.sqT hV, atI_nat kv, a0, _, _, .ref ld, rfl, rfl, s24.sqT hA, ats1 _ _, _, rfl, ld, _, _, _, rfl, rfl, s24.sqT hL0, atI_nat (by rw [List.getElem?_map, y2] <;> rfl), rfl, _, _, ?_, rfl⟩
            rw [List.take_add_one, hk2]
            show _ = ((endF (ms.map (·.2)) (rw'.1.take j ++ [k2]) s : Nat) : Int)
            rw [endF_snoc, gm]
          · rintro σ H5 ⟨rfl, x, v12, ex, rfl⟩
            rw [List.length_map, List.length_map, List.take_length] at ex
            subst ex
            have hl : endF (ms.map (·.2)) rw'.1 s < many := end_lt ldo _ s (fun k hk => by rw [List.length_map, ← tl]; exact rin k hk) hs'
            have xl : endF (ms.map (·.2)) rw'.1 s < xs.length := by rw [F4.1, List.length_map, List.length_range]; exact hl
            obtain ⟨f0, hf0, w0, hw, hT0⟩ := F4.2 _ _ (List.getElem?_eq_getElem xl)
            rw [List.getElem?_map, List.getElem?_range hl] at hf0
            have hf0 := Option.some.inj hf0
            subst hf0
            have sl : s < hs.length := by rw [hFs.1, spr.len]; exact hs'
            obtain ⟨f1, hf1, th, hth, hT1⟩ := hFs.2 _ _ (List.getElem?_eq_getElem sl)
            have hfs : f1 = lowP (topF fs s) ((lcmAll fs : Nat) : Int) := by
              have z := over_all (fs := fs) fun f hf => ⟨(spr.fr f hf).1, (spr.fr f hf).2.1, (spr.fr f hf).2.2⟩
              rw [spr.list, List.map_map] at z
              rw [z, List.getElem?_map, List.getElem?_range hs'] at hf1
              exact (Option.some.inj hf1).symm
            subst hfs
            obtain ⟨w1, w2⟩ := rwb rw' rm
            have bd : (((Bm ms ^ d : Nat) : Nat) : Int).natAbs < 2 ^ 100000 := by rw [Int.natAbs_natCast]; exact pow_mono (b600 d d3) (by decide)
            have bl : (((lcmAll fs : Nat) : Nat) : Int).natAbs < 2 ^ 100000 := by
              rw [Int.natAbs_natCast]
              exact pow_mono (show lcmAll fs < 2 ^ 7 by omega) (by decide)
            obtain ⟨y1, y2⟩ := lowP_le w1 (BP d)
            have y3 := lowP_nn w1 (BP d)
            have y4 := lowP_pos2 (t := rw'.2) (BP d)
            obtain ⟨x1, x2⟩ := lowP_le (T0 s) l72'
            have x3 := lowP_nn (T0 s) l72'
            have x4 := lowP_pos2 (t := topF fs s) l72'
            have wl : rw'.2.natAbs < 2 ^ 100000 := wide_le w1 w2 (by decide +kernel)
            refine ⟨_, rfl, _, rfl, W, xs, _, .ref w0, rfl, rfl, SqL.of gW4, atI_nat (by rw [List.getElem?_eq_getElem xl, hw]), ?_⟩
            refine ⟨_, rfl, _, rfl, _, rfl, a, hs, _, .ref th, rfl, rfl, s24.sqT hHs, by rw [Int.zero_add]; exact atI_nat (by rw [List.getElem?_eq_getElem sl, hth]), ?_⟩
            refine ⟨q, th, _, _, rfl, t4.sqT hq, s24.sqT hT1, y3, x3, y4, x4, wide_le y3 y1 wl, wide_le (Int.le_of_lt y4) y2 bd, wide_le x3 (Int.le_trans x1 (T1 s hs')) bl, wide_le (Int.le_of_lt x4) x2 bl, fun z hz => ?_⟩
            have tm : lowP ((lowP rw'.2 ((Bm ms ^ d : Nat) : Int)).1 * (lowP (topF fs s) ((lcmAll fs : Nat) : Int)).1) ((lowP rw'.2 ((Bm ms ^ d : Nat) : Int)).2 * (lowP (topF fs s) ((lcmAll fs : Nat) : Int)).2) = lowP (rw'.2 * topF fs s) ((Bm ms ^ d * lcmAll fs : Nat) : Int) := by
              have z := times_low (t := rw'.2) (u := topF fs s) (BP d) l72'
              rw [← Int.natCast_mul] at z
              exact z
            rw [tm]
            have s6 : Same H5 (upd H5 z (.tup [.int (lowP (rw'.2 * topF fs s) ((Bm ms ^ d * lcmAll fs : Nat) : Int)).1, .int (lowP (rw'.2 * topF fs s) ((Bm ms ^ d * lcmAll fs : Nat) : Int)).2])) := Same.new hz
            have z6 : SqT K (upd H5 z (.tup [.int (lowP (rw'.2 * topF fs s) ((Bm ms ^ d * lcmAll fs : Nat) : Int)).1, .int (lowP (rw'.2 * topF fs s) ((Bm ms ^ d * lcmAll fs : Nat) : Int)).2])) z [.int (lowP (rw'.2 * topF fs s) ((Bm ms ^ d * lcmAll fs : Nat) : Int)).1, .int (lowP (rw'.2 * topF fs s) ((Bm ms ^ d * lcmAll fs : Nat) : Int)).2] := SqT.of upd_same
            generalize upd H5 z (.tup [.int (lowP (rw'.2 * topF fs s) ((Bm ms ^ d * lcmAll fs : Nat) : Int)).1, .int (lowP (rw'.2 * topF fs s) ((Bm ms ^ d * lcmAll fs : Nat) : Int)).2]) = H6 at s6 z6 ⊢
            obtain ⟨q1, q2⟩ := pbd i rw' rm s (endF (ms.map (·.2)) rw'.1 s) (Nat.le_of_lt hs')
            obtain ⟨q3, q4⟩ := term rw' rm s hs'
            refine ⟨w0, z, _, _, rfl, s6.sqT hT0, z6, sz_low q1 Dp0 q2 Dl, sz_low q3 Dp0 (wide_le q3 q4 (by decide +kernel)) Dl, fun p hp => ?_⟩
            rw [plus_low Dp0]
            have s7 := s6.trans (Same.new (o := .tup [.int (lowP (((((rowsW (tsM ms) d).take i).map fun rw => hitF (ms.map (·.2)) (topF fs) many rw (endF (ms.map (·.2)) rw'.1 s)).sum + ((List.range s).map fun s2 => if endF (ms.map (·.2)) rw'.1 s2 = endF (ms.map (·.2)) rw'.1 s then rw'.2 * topF fs s2 else 0).sum) + rw'.2 * topF fs s) ((Bm ms ^ d * lcmAll fs : Nat) : Int)).1, .int (lowP (((((rowsW (tsM ms) d).take i).map fun rw => hitF (ms.map (·.2)) (topF fs) many rw (endF (ms.map (·.2)) rw'.1 s)).sum + ((List.range s).map fun s2 => if endF (ms.map (·.2)) rw'.1 s2 = endF (ms.map (·.2)) rw'.1 s then rw'.2 * topF fs s2 else 0).sum) + rw'.2 * topF fs s) ((Bm ms ^ d * lcmAll fs : Nat) : Int)).2]) hp)
            refine ⟨_, rfl, _, rfl, W, xs, _, endF (ms.map (·.2)) rw'.1 s, rfl, rfl, s7 _ _ gW4, Evl.ixN_nat xl, ?_⟩
            refine ⟨(t4.trans s7).mut fW, _, _, _, _, upd_same, ?_, rfl⟩
            have F8 := (F4.same s7).set (o := .lst (xs.set (endF (ms.map (·.2)) rw'.1 s) (.ref p))) (s7 _ _ gW4) (k := endF (ms.map (·.2)) rw'.1 s) (v := .ref p) ⟨p, rfl, SqT.of upd_same⟩
            rw [set_mapR] at F8
            refine (congrArg (fun z => FrsIn K _ _ z) (List.map_congr_left fun o _ => ?_)).mp F8
            rw [map_snoc, List.sum_append]
            show _ = lowP (_ + (_ + ((if endF (ms.map (·.2)) rw'.1 s = o then rw'.2 * topF fs s else 0) + 0))) _
            rw [Int.add_zero]
            by_cases e : o = endF (ms.map (·.2)) rw'.1 s
            · rw [if_pos e, if_pos e.symm, e, Int.add_assoc]
            · rw [if_neg e, if_neg (Ne.symm e), Int.add_zero]
        · rintro σ H4 ⟨t4, xs, v10, v11, v12, gW4, F4, rfl⟩
          refine ⟨t4, xs, _, _, _, _, _, gW4, ?_, rfl⟩
          refine (congrArg (fun z => FrsIn K H4 xs z) (List.map_congr_left fun o _ => ?_)).mp F4
          rw [List.take_add_one, hrw, List.map_append, List.sum_append]
          show _ = lowP (_ + (hitF _ _ _ rw' o + 0)) _
          rw [Int.add_zero] <;> rfl
      · rintro σ H3 ⟨t3, xs, v7, v8, v10, v11, v12, gW3, F3, rfl⟩
        rw [gRR.1, List.take_length] at F3
        refine ⟨_, rfl, W, _, rfl, .inl ⟨SqL.of gW3, fun p hp => k p xs _ ((s2.trans t3).trans (Same.new hp)) upd_same ?_⟩⟩
        refine (congrArg (fun z => FrsIn K _ xs z) (List.map_congr_left fun o ho => ?_)).mp (F3.same (Same.new hp))
        have e := allF_eq (T := topF fs) (show (tsM ms).length = (ms.map (·.2)).length by rw [List.length_map, tl]) ldo d o (List.mem_range.mp ho)
        unfold allF at e
        rw [e, Nat.mul_comm (Bm ms ^ d)] <;> rfl
end
end Law

namespace Law
open PySem L2
/-! ### things that stay as they are while the hand draws -/
/-- no tuple, for a reason that stays -/
def NT (p : Addr) (H : Hp) (x : V) : Prop := (x = .non ∨ (∃ z, x = .str z) ∨ (∃ i, x = .int i)) ∨ ∃ a, x = .ref a ∧ a ≠ p ∧ ((∃ xs, H a = some (.lst xs)) ∨ ∃ ks, H a = some (.dK ks))
theorem NT.same {p : Addr} {H H' : Hp} {x : V} (s : Same H H') (h : NT p H x) : NT p H' x := by
  rcases h with h | ⟨a, h1, h2, ⟨xs, h3⟩ | ⟨ks, h3⟩⟩
  · exact .inl h
  · exact .inr ⟨a, h1, h2, .inl ⟨xs, s _ _ h3⟩⟩
  · exact .inr ⟨a, h1, h2, .inr ⟨ks, s _ _ h3⟩⟩
theorem NT.stp {p : Addr} {H H' : Hp} {x : V} (s : Stp p H H') (h : NT p H x) : NT p H' x := by
  rcases h with h | ⟨a, h1, h2, ⟨xs, h3⟩ | ⟨ks, h3⟩⟩
  · exact .inl h
  · exact .inr ⟨a, h1, h2, .inl ⟨xs, s.keep _ _ h2 h3⟩⟩
  · exact .inr ⟨a, h1, h2, .inr ⟨ks, s.keep _ _ h2 h3⟩⟩
theorem NT.no {K : PySem.W.Frag} {p : Addr} {H : Hp} {x : V} (h : NT p H x) : NonTup K H x := by
  rcases h with (rfl | ⟨z, rfl⟩ | ⟨i, rfl⟩) | ⟨a, rfl, h2, ⟨xs, h3⟩ | ⟨ks, h3⟩⟩
  · exact ⟨_, .base .non, kit_ty (by decide +kernel)⟩
  · exact ⟨_, .base (.str z), kit_ty (by decide +kernel)⟩
  · exact ⟨_, .base (.int i), kit_ty (by decide +kernel)⟩
  · exact ⟨_, .base (.lst h3), kit_ty (by decide +kernel)⟩
  · exact ⟨_, .base (.dK h3), kit_ty (by decide +kernel)⟩
/-- an int or a flag -/
def IB (u : V) (b : Bool) : Prop := (b = true ∧ ∃ i, u = .int i) ∨ (b = false ∧ ∃ c, u = .bl c)
theorem IB.ty {K : PySem.W.Frag} {H : Hp} {u : V} {b : Bool} (h : IB u b) : ∃ bi bb, Ty3 K H u bi bb ∧ (bi && !bb) = b := by
  rcases h with ⟨rfl, i, rfl⟩ | ⟨rfl, c, rfl⟩
  · exact ⟨true, false, ty3_int i, rfl⟩
  · exact ⟨true, true, ⟨_, .base (.bl c), kit_ty (by decide +kernel), kit_ty (by decide +kernel)⟩, rfl⟩
def ItemP (K : PySem.W.Frag) (p : Addr) (H : Hp) (x : V) : Option Fr → Prop
  | some f => (∃ a, x = .ref a ∧ SqT K H a [.int f.1, .int f.2]) ∧ f.1.natAbs < 2 ^ 62 ∧ f.2.natAbs < 2 ^ 62
  | none => NT p H x ∨ (∃ a xs, x = .ref a ∧ SqT K H a xs ∧ xs.length ≠ 2) ∨ ∃ a u v b c, x = .ref a ∧ SqT K H a [u, v] ∧ IB u b ∧ IB v c ∧ (b && c) = false
def ThingP (K : PySem.W.Frag) (p : Addr) (H : Hp) (x : V) : Option (List (Option Fr)) → Prop
  | some rs => ∃ a xs, x = .ref a ∧ SqT K H a xs ∧ xs.length = rs.length ∧ rs.length ≤ 24 ∧ ∀ (i : Nat) (v : V), xs[i]? = some v → ∃ r, rs[i]? = some r ∧ ItemP K p H v r
  | none => NT p H x
theorem ItemP.map {K : PySem.W.Frag} {p : Addr} {H H' : Hp} (n : ∀ x, NT p H x → NT p H' x) (t : ∀ a xs, SqT K H a xs → SqT K H' a xs) {x : V} {r : Option Fr} (h : ItemP K p H x r) : ItemP K p H' x r := by
  cases r with
  | some f =>
    obtain ⟨⟨a, h1, h2⟩, h3⟩ := h
    exact ⟨⟨a, h1, t _ _ h2⟩, h3⟩
  | none =>
    rcases h with h | ⟨a, xs, h1, h2, h3⟩ | ⟨a, u, v, b, c, h1, h2, h3⟩
    · exact .inl (n _ h)
    · exact .inr (.inl ⟨a, xs, h1, t _ _ h2, h3⟩)
    · exact .inr (.inr ⟨a, u, v, b, c, h1, t _ _ h2, h3⟩)
theorem ThingP.map {K : PySem.W.Frag} {p : Addr} {H H' : Hp} (n : ∀ x, NT p H x → NT p H' x) (t : ∀ a xs, SqT K H a xs → SqT K H' a xs) {x : V} {o : Option (List (Option Fr))} (h : ThingP K p H x o) : ThingP K p H' x o := by
  cases o with
  | some rs =>
    obtain ⟨a, xs, h1, h2, h3, h4, h5⟩ := h
    refine ⟨a, xs, h1, t _ _ h2, h3, h4, fun i v hv => ?_⟩
    obtain ⟨r, g1, g2⟩ := h5 i v hv
    exact ⟨r, g1, g2.map n t⟩
  | none => exact n _ h
theorem ThingP.same {K : PySem.W.Frag} {p : Addr} {H H' : Hp} (s : Same H H') {x : V} {o : Option (List (Option Fr))} (h : ThingP K p H x o) : ThingP K p H' x o := h.map (fun _ => NT.same s) fun _ _ => s.sqT
theorem ThingP.stp {K : PySem.W.Frag} {p : Addr} {H H' : Hp} (hh : HandAt H p) (s : Stp p H H') {x : V} {o : Option (List (Option Fr))} (h : ThingP K p H x o) : ThingP K p H' x o := h.map (fun _ => NT.stp s) fun _ _ => s.sqT hh
theorem ItemP.same {K : PySem.W.Frag} {p : Addr} {H H' : Hp} (s : Same H H') {x : V} {o : Option Fr} (h : ItemP K p H x o) : ItemP K p H' x o := h.map (fun _ => NT.same s) fun _ _ => s.sqT
theorem ItemP.stp {K : PySem.W.Frag} {p : Addr} {H H' : Hp} (hh : HandAt H p) (s : Stp p H H') {x : V} {o : Option Fr} (h : ItemP K p H x o) : ItemP K p H' x o := h.map (fun _ => NT.stp s) fun _ _ => s.sqT hh
theorem ThingP.thing {K : PySem.W.Frag} {p : Addr} {H : Hp} {x : V} {o : Option (List (Option Fr))} (h : ThingP K p H x o) : ThingAt K H x o ∧ Small o := by
  cases o with
  | none => exact ⟨h.no, fun rs e => by cases e⟩
  | some rs =>
    obtain ⟨a, xs, h1, h2, h3, h4, h5⟩ := h
    refine ⟨⟨a, xs, h1, h2, h3, fun i v hv => ?_⟩, fun rs' e => ?_⟩
    · obtain ⟨r, g1, g2⟩ := h5 i v hv
      refine ⟨r, g1, ?_⟩
      cases r with
      | some f => exact g2.1
      | none =>
        rcases g2 with g | ⟨a, xs, h1, h2, h3⟩ | ⟨a, u, v, b, c, h1, h2, hb, hc, h3⟩
        · exact .inl g.no
        · exact .inr (.inl ⟨a, xs, h1, h2, h3⟩)
        · obtain ⟨bi, bb, t1, e1⟩ := hb.ty (K := K) (H := H)
          obtain ⟨ci, cb, t2, e2⟩ := hc.ty (K := K) (H := H)
          exact .inr (.inr ⟨a, u, v, bi, bb, ci, cb, h1, h2, t1, t2, by rw [e1, e2]; exact h3⟩)
    · cases e
      refine ⟨h4, fun f hf => ?_⟩
      obtain ⟨i, hi⟩ := List.getElem?_of_mem hf
      have il : i < xs.length := by rw [h3]; exact (List.getElem?_eq_some_iff.mp hi).1
      obtain ⟨r, g1, g2⟩ := h5 i _ (List.getElem?_eq_getElem il)
      rw [hi] at g1
      cases g1
      exact g2.2
/-- a deep thing: no tuple, or a tuple of at most one that is no pair -/
def Wk (K : PySem.W.Frag) (p : Addr) (H : Hp) (y : V) : Prop := NT p H y ∨ ∃ b ys, y = .ref b ∧ SqT K H b ys ∧ ys.length ≤ 1
def Dq (K : PySem.W.Frag) (p : Addr) (H : Hp) (x : V) : Prop := NT p H x ∨ ∃ a xs, x = .ref a ∧ SqT K H a xs ∧ xs.length ≤ 1 ∧ ∀ y ∈ xs, Wk K p H y
theorem Wk.map {K : PySem.W.Frag} {p : Addr} {H H' : Hp} (n : ∀ x, NT p H x → NT p H' x) (t : ∀ a xs, SqT K H a xs → SqT K H' a xs) {x : V} (h : Wk K p H x) : Wk K p H' x := by
  rcases h with h | ⟨a, xs, h1, h2, h3⟩
  · exact .inl (n _ h)
  · exact .inr ⟨a, xs, h1, t _ _ h2, h3⟩
theorem Dq.map {K : PySem.W.Frag} {p : Addr} {H H' : Hp} (n : ∀ x, NT p H x → NT p H' x) (t : ∀ a xs, SqT K H a xs → SqT K H' a xs) {x : V} (h : Dq K p H x) : Dq K p H' x := by
  rcases h with h | ⟨a, xs, h1, h2, h3, h4⟩
  · exact .inl (n _ h)
  · exact .inr ⟨a, xs, h1, t _ _ h2, h3, fun y hy => (h4 y hy).map n t⟩
theorem Dq.wk {K : PySem.W.Frag} {p : Addr} {H : Hp} {x : V} (h : Dq K p H x) : Wk K p H x := by
  rcases h with h | ⟨a, xs, h1, h2, h3, _⟩
  · exact .inl h
  · exact .inr ⟨a, xs, h1, h2, h3⟩
theorem Dq.same {K : PySem.W.Frag} {p : Addr} {H H' : Hp} (s : Same H H') {x : V} (h : Dq K p H x) : Dq K p H' x := h.map (fun _ => NT.same s) fun _ _ => s.sqT
theorem Dq.stp {K : PySem.W.Frag} {p : Addr} {H H' : Hp} (hh : HandAt H p) (s : Stp p H H') {x : V} (h : Dq K p H x) : Dq K p H' x := h.map (fun _ => NT.stp s) fun _ _ => s.sqT hh
theorem Dq.thing {K : PySem.W.Frag} {p : Addr} {H : Hp} {x : V} (h : Dq K p H x) : ∃ o, ThingP K p H x o := by
  rcases h with h | ⟨a, xs, h1, h2, h3, h4⟩
  · exact ⟨none, h⟩
  · refine ⟨some (xs.map fun _ => none), a, xs, h1, h2, by rw [List.length_map], by rw [List.length_map]; omega, fun i v hv => ⟨none, by rw [List.getElem?_map, hv] <;> rfl, ?_⟩⟩
    rcases h4 v (List.mem_of_getElem? hv) with g | ⟨b, ys, g1, g2, g3⟩
    · exact .inl g
    · exact .inr (.inl ⟨b, ys, g1, g2, by omega⟩)
end Law
namespace Law
open PySem L2
theorem spr72 {many : Nat} {fs : List Fr} (h : SprOk many fs) (l : lcmAll fs ≤ 72) (f : Fr) (hf : f ∈ fs) : 0 ≤ f.1 ∧ f.1 ≤ 72 ∧ 0 < f.2 ∧ f.2 ≤ 72 := by
  obtain ⟨a, b, _⟩ := h.fr f hf
  have lp := h.lpos
  have d := Nat.le_of_dvd lp (dvd_lcmAll hf)
  obtain ⟨c, hc⟩ := dvd_lcmAll hf
  have e := le_sum h.tnn _ (List.mem_map.mpr ⟨f, hf, rfl⟩)
  rw [h.sum] at e
  have fa : ((f.2.natAbs : Nat) : Int) = f.2 := Int.natAbs_of_nonneg (Int.le_of_lt a)
  have q : ((lcmAll fs : Nat) : Int) / f.2 = (c : Int) := by
    rw [hc, Int.natCast_mul, fa]
    exact Int.mul_ediv_cancel_left _ (by omega)
  have c0 : 0 < c := Nat.pos_of_ne_zero fun z => by
    rw [z, Nat.mul_zero] at hc
    omega
  rw [q] at e
  have g : f.1 * 1 ≤ f.1 * (c : Int) := Int.mul_le_mul_of_nonneg_left (by omega) b
  omega
@[elab_as_elim] theorem new_step {H : Hp} {a : Addr} {o : HO} {Q : Hp → Prop} (h : H a = none) (k : ∀ G, Same H G → G a = some o → Q G) : Q (upd H a o) := k _ (Same.new h) upd_same
theorem NT.updL {p l : Addr} {H : Hp} {acc ys : List V} {x : V} (hl : H l = some (.lst acc)) (h : NT p H x) : NT p (upd H l (.lst ys)) x := by
  rcases h with h | ⟨a, h1, h2, h3⟩
  · exact .inl h
  · by_cases e : a = l
    · subst e
      exact .inr ⟨a, h1, h2, .inl ⟨ys, upd_same⟩⟩
    · refine .inr ⟨a, h1, h2, ?_⟩
      rw [upd_ne e]
      exact h3
def ItP (K : PySem.W.Frag) (p : Addr) (H : Hp) (x : V) : Prop := ∃ r, ItemP K p H x r
theorem ItP.same {K : PySem.W.Frag} {p : Addr} {H H' : Hp} {x : V} (h : ItP K p H x) (s : Same H H') : ItP K p H' x := let ⟨r, h⟩ := h; ⟨r, h.same s⟩
theorem ItP.stp {K : PySem.W.Frag} {p : Addr} {H H' : Hp} {x : V} (h : ItP K p H x) (hh : HandAt H p) (s : Stp p H H') : ItP K p H' x := let ⟨r, h⟩ := h; ⟨r, h.stp hh s⟩
theorem ItP.updL {K : PySem.W.Frag} {p l : Addr} {H : Hp} {acc ys : List V} {x : V} (h : ItP K p H x) (hl : H l = some (.lst acc)) : ItP K p (upd H l (.lst ys)) x := let ⟨r, h⟩ := h; ⟨r, h.map (fun _ g => NT.updL hl g) fun _ _ g => sqT_upd hl g⟩
theorem ItP.nt {K : PySem.W.Frag} {p : Addr} {H : Hp} {x : V} (h : NT p H x) : ItP K p H x := ⟨none, .inl h⟩
theorem ItP.pair {K : PySem.W.Frag} {p a : Addr} {H : Hp} {f : Fr} (h : SqT K H a [.int f.1, .int f.2]) (b1 : f.1.natAbs < 2 ^ 62) (b2 : f.2.natAbs < 2 ^ 62) : ItP K p H (.ref a) := ⟨some f, ⟨a, rfl, h⟩, b1, b2⟩
theorem rs_of {α β : Type} {R : α → β → Prop} : ∀ (xs : List α), (∀ x ∈ xs, ∃ r, R x r) → ∃ rs : List β, xs.length = rs.length ∧ ∀ (i : Nat) (v : α), xs[i]? = some v → ∃ r, rs[i]? = some r ∧ R v r
  | [], _ => ⟨[], rfl, fun i v hv => by simp at hv⟩
  | x :: xs, h => by
    obtain ⟨r, hr⟩ := h x List.mem_cons_self
    obtain ⟨rs, h1, h2⟩ := rs_of xs fun y hy => h y (List.mem_cons_of_mem _ hy)
    refine ⟨r :: rs, by rw [List.length_cons, List.length_cons, h1], fun i v hv => ?_⟩
    match i, hv with
    | 0, hv => exact ⟨r, rfl, (Option.some.inj hv) ▸ hr⟩
    | i + 1, hv => exact h2 i v hv
theorem ThingP.of {K : PySem.W.Frag} {p a : Addr} {H : Hp} {xs : List V} (h : SqT K H a xs) (l : xs.length ≤ 24) (hi : ∀ x ∈ xs, ItP K p H x) : ∃ o, ThingP K p H (.ref a) o := by
  obtain ⟨rs, h1, h2⟩ := rs_of xs hi
  exact ⟨some rs, a, xs, rfl, h, h1, h1 ▸ l, h2⟩
theorem ThingP.updL {K : PySem.W.Frag} {p l : Addr} {H : Hp} {acc ys : List V} {x : V} {o : Option (List (Option Fr))} (h : ThingP K p H x o) (hl : H l = some (.lst acc)) : ThingP K p (upd H l (.lst ys)) x o := h.map (fun _ g => NT.updL hl g) fun _ _ g => sqT_upd hl g
def ThP (K : PySem.W.Frag) (p : Addr) (H : Hp) (x : V) : Prop := ∃ o, ThingP K p H x o
theorem ThP.same {K : PySem.W.Frag} {p : Addr} {H H' : Hp} {x : V} (h : ThP K p H x) (s : Same H H') : ThP K p H' x := let ⟨r, h⟩ := h; ⟨r, h.same s⟩
theorem ThP.stp {K : PySem.W.Frag} {p : Addr} {H H' : Hp} {x : V} (h : ThP K p H x) (hh : HandAt H p) (s : Stp p H H') : ThP K p H' x := let ⟨r, h⟩ := h; ⟨r, h.stp hh s⟩
theorem ThP.updL {K : PySem.W.Frag} {p l : Addr} {H : Hp} {acc ys : List V} {x : V} (h : ThP K p H x) (hl : H l = some (.lst acc)) : ThP K p (upd H l (.lst ys)) x := let ⟨r, h⟩ := h; ⟨r, h.updL hl⟩
theorem catT {K : PySem.W.Frag} {H : Hp} {a b : Addr} {xs ys : List V} {Q : VK} (ha : SqT K H a xs) (hb : SqT K H b ys) (hl : xs.length + ys.length ≤ 1000) (kk : ∀ p H', Same H H' → SqT K H' p (xs ++ ys) → Q (.ref p) H') : rCatA K (.ref a) (.ref b) H Q := by
  refine ⟨a, b, _, _, rfl, rfl, ha, hb, Nat.le_of_lt (small1000 (by omega)), fun e => ?_, fun _ e => ?_, fun _ _ c hc => ?_⟩
  · refine kk b H (Same.refl H) ?_
    rw [e, List.nil_append]
    exact hb
  · refine kk a H (Same.refl H) ?_
    rw [e, List.append_nil]
    exact ha
  · exact kk c _ (Same.new hc) (SqT.of upd_same)
theorem slT {K : PySem.W.Frag} {H : Hp} {a : Addr} {xs : List V} {lo hi : Option Int} {Q : VK} (ha : SqT K H a xs) (kk : ∀ p H', Same H H' → SqT K H' p (cutV xs lo hi) → Q (.ref p) H') : rSlA K (.ref a) lo hi H Q := by
  refine ⟨a, xs, rfl, ha, fun e => ?_, fun _ c hc => ?_⟩
  · refine kk a H (Same.refl H) ?_
    unfold cutV
    rw [e.1, e.2, List.drop_zero, Nat.sub_zero, List.take_length]
    exact ha
  · exact kk c _ (Same.new hc) (SqT.of upd_same)
theorem cut_to {xs : List V} {n : Nat} (h : n ≤ xs.length) : cutV xs none (some (n : Int)) = xs.take n := by
  unfold cutV
  show (xs.drop 0).take (HT.sIx xs.length xs.length (some (n : Int)) - 0) = _
  rw [HT.sIx_nat, Nat.min_eq_left h, Nat.sub_zero, List.drop_zero]
theorem cut_from {xs : List V} {n : Nat} (h : n ≤ xs.length) : cutV xs (some (n : Int)) none = xs.drop n := by
  unfold cutV
  show (xs.drop (HT.sIx xs.length 0 (some (n : Int)))).take (xs.length - HT.sIx xs.length 0 (some (n : Int))) = _
  rw [HT.sIx_nat, Nat.min_eq_left h, List.take_of_length_le (by rw [List.length_drop]; omega)]
theorem mem_cutV {xs : List V} {lo hi : Option Int} {x : V} (h : x ∈ cutV xs lo hi) : x ∈ xs := List.mem_of_mem_drop (List.mem_of_mem_take h)
theorem at_pick {xs : List V} {d : Int} (d0 : 0 ≤ d) (d1 : d < (xs.length : Int)) : ∃ x, x ∈ xs ∧ atI xs d = some x := by
  obtain ⟨j, rfl⟩ := Int.eq_ofNat_of_zero_le d0
  have hj : j < xs.length := by omega
  exact ⟨xs[j], List.getElem_mem hj, atI_nat (List.getElem?_eq_getElem hj)⟩
section
variable {P : Program} {w : World} {K : PySem.W.Frag} {mg : Str → Option Value} {base : Heap}
def spDq (K : PySem.W.Frag) : Sp := fun vs H Q _ => ∃ p : Addr, vs = [.ref p] ∧ HandAt H p ∧ ∀ (x : V) (H' : Hp), Stp p H H' → Dq K p H' x → Q x H'
abbrev nLawDeep : List Str := ["_law_hand_here", "_law_found", "_law_turn"]
theorem scLawDeep : FnScope nLawDeep ["_law_hand_here"] (defScope s_law_deep) := ⟨rfl, rfl, rfl, by decide +kernel, rfl, by decide +kernel, by decide +kernel⟩
theorem ok_deep {f : Addr} {fd : FuncData} {fD : Addr} {fdD : FuncData} (F : Fun K "_law_deep" "_law_deep" s_law_deep f fd) (T : NmA mg) (D : Cl P w K mg base CX0 1 "_law_draw" fD fdD ["_law_hand_here", "_law_many"] spDraw) : FnOk P w K mg base CX0 2 f fd ["_law_hand_here"] (spDq K) := by
  refine F.ok scLawDeep (fun vs H Q E h => ?_) (fun cdv A' outer s H vs Q E hr h => ?_)
  · obtain ⟨p, rfl, _⟩ := h
    rfl
  · obtain ⟨p, rfl, hH, k⟩ := h
    refine ⟨_, pss_cons (ps_set (i := 1) scLawDeep.nd rfl (Or.inl rfl) (pe_ix ix_list (pe_lst (pa_cons pe_non (pa_cons (pe_tup pa_nil) (pa_cons pe_str pa_nil)))) (D.call (hr.mono (by decide)) (pa_cons (pv 0) (pa_cons pe_int pa_nil))) (fun _ _ => rfl)))
      (pss_cons (ps_for PassesOwn.never rfl (pi_range1 (by rfl) T.range (pa_cons (pe_op op_add pe_int (D.call (hr.mono (by decide)) (pa_cons (pv 0) (pa_cons pe_int pa_nil)))) pa_nil)) (pg_name (i := 2) scLawDeep.nd rfl (Or.inl rfl))
        (pss_one (ps_set (i := 1) scLawDeep.nd rfl (Or.inl rfl) (pe_ix ix_list (pe_lst (pa_cons (pe_lst (pa_cons (pv 1) pa_nil)) (pa_cons (pe_tup (pa_cons (pv 1) pa_nil)) (pa_cons (pe_disp (pps_cons pe_int (pv 1) pps_nil) (by rfl) (by rfl) (fun z => by cases z) (by decide)) pa_nil)))) (D.call (hr.mono (by decide)) (pa_cons (pv 0) (pa_cons pe_int pa_nil))) (fun _ _ => rfl)))))
      (pss_one (ps_ret (pv 1)))), ?_⟩
    obtain ⟨ks, hp⟩ := hH.dk
    refine ⟨by show 0 ≤ sizeLine; decide, fun t ht => ⟨by show 3 ≤ sizeLine; decide, fun l hl => ?_⟩⟩
    have s1 : Same H (upd H t (.tup [])) := Same.new ht
    have s2 := s1.trans (Same.new (o := .lst [.non, .ref t, .str (Str.ofString "x")]) hl)
    have lp : l ≠ p := fun z => by rw [z, s1 _ _ hp] at hl; cases hl
    refine ⟨_, rfl, p, 3, rfl, by decide, by decide, hH.same s2, fun d H1 d0 d1 S => ?_⟩
    obtain ⟨x, hx, ha⟩ := at_pick (xs := [.non, .ref t, .str (Str.ofString "x")]) d0 (by simpa using d1)
    refine ⟨l, _, _, _, rfl, rfl, SqL.of (S.keep _ _ lp upd_same), ha, ?_⟩
    have T1 : Dq K p H1 x := by
      rcases List.mem_cons.mp hx with rfl | hx
      · exact .inl (.inl (.inl rfl))
      rcases List.mem_cons.mp hx with rfl | hx
      · exact .inr ⟨t, [], rfl, S.sqT (hH.same s2) (SqT.of ((Same.new hl) _ _ upd_same)), Nat.zero_le _, fun y hy => absurd hy List.not_mem_nil⟩
      · rw [List.mem_singleton.mp hx]
        exact .inl (.inl (.inr (.inl ⟨_, rfl⟩)))
    have S1 : Stp p H H1 := S.pre s2
    refine ⟨_, rfl, p, 8, rfl, by decide, by decide, S1.hand, fun d' H2 e0 e1 S2 => ⟨_, _, rfl, rfl, _, rfl, by omega, by omega, ?_⟩⟩
    refine for_range (n := (14 + d').toNat) (fun i σ H' => ∃ (x : V) (u : Option V), σ = [some (.ref p), some x, u] ∧ Stp p H H' ∧ Dq K p H' x) ⟨x, none, rfl, S1.trans S2, T1.stp S1.hand S2⟩ ?_ ?_
    · rintro i σ H3 hi ⟨x, u, rfl, S3, T3⟩
      obtain ⟨ks3, hp3⟩ := S3.hand.dk
      refine ⟨_, rfl, by show 1 ≤ sizeLine; decide, fun a ha => ⟨_, rfl, by show 1 ≤ sizeLine; decide, fun b hb c hc => ⟨_, rfl, upd_same, [(Sum.inl 0, x)], rfl, (show 1 ≤ 15 by decide), by show 3 ≤ sizeLine; decide, fun l hl => ?_⟩⟩⟩
      have ap : a ≠ p := fun z => by rw [z, hp3] at ha; cases ha
      have z1 : (upd H3 a (.lst [x])) p = some (.dK ks3) := by rw [upd_ne (Ne.symm ap)]; exact hp3
      have bp : b ≠ p := fun z => by rw [z, z1] at hb; cases hb
      have z2 : (upd (upd H3 a (.lst [x])) b (.tup [x])) p = some (.dK ks3) := by rw [upd_ne (Ne.symm bp)]; exact z1
      have cp : c ≠ p := fun z => by rw [z, z2] at hc; cases hc
      have q1 : Same H3 (upd H3 a (.lst [x])) := Same.new ha
      have q2 : Same (upd H3 a (.lst [x])) (upd (upd H3 a (.lst [x])) b (.tup [x])) := Same.new hb
      have e3 : upd (upd (upd (upd H3 a (.lst [x])) b (.tup [x])) c (.dK [])) c (.dK (mergeK [] [(Sum.inl 0, x)])) = upd (upd (upd H3 a (.lst [x])) b (.tup [x])) c (.dK [(Sum.inl 0, x)]) := upd_upd
      rw [e3] at hl ⊢
      have q3 : Same (upd (upd H3 a (.lst [x])) b (.tup [x])) (upd (upd (upd H3 a (.lst [x])) b (.tup [x])) c (.dK [(Sum.inl 0, x)])) := Same.new hc
      have q4 := Same.new (o := .lst [.ref a, .ref b, .ref c]) hl
      have q := ((q1.trans q2).trans q3).trans q4
      have z3 := (q3 _ _ z2)
      have lp : l ≠ p := fun z => by rw [z, z3] at hl; cases hl
      have ga : Dq K p (upd (upd (upd (upd H3 a (.lst [x])) b (.tup [x])) c (.dK [(Sum.inl 0, x)])) l (.lst [.ref a, .ref b, .ref c])) (.ref a) := .inl (.inr ⟨a, rfl, ap, .inl ⟨_, ((q2.trans q3).trans q4) _ _ upd_same⟩⟩)
      have gb : Dq K p (upd (upd (upd (upd H3 a (.lst [x])) b (.tup [x])) c (.dK [(Sum.inl 0, x)])) l (.lst [.ref a, .ref b, .ref c])) (.ref b) := .inr ⟨b, [x], rfl, SqT.of ((q3.trans q4) _ _ upd_same), Nat.le_refl _, fun y hy => by
        rw [List.mem_singleton.mp hy]
        exact (T3.same q).wk⟩
      have gc : Dq K p (upd (upd (upd (upd H3 a (.lst [x])) b (.tup [x])) c (.dK [(Sum.inl 0, x)])) l (.lst [.ref a, .ref b, .ref c])) (.ref c) := .inl (.inr ⟨c, rfl, cp, .inr ⟨_, q4 _ _ upd_same⟩⟩)
      refine ⟨_, rfl, p, 3, rfl, by decide, by decide, S3.hand.same q, fun d H4 d0 d1 S4 => ?_⟩
      obtain ⟨y, hy, hat⟩ := at_pick (xs := [.ref a, .ref b, .ref c]) d0 (by simpa using d1)
      refine ⟨l, _, _, _, rfl, rfl, SqL.of (S4.keep _ _ lp upd_same), hat, y, _, rfl, S3.trans (S4.pre q), ?_⟩
      refine Dq.stp (S3.hand.same q) S4 ?_
      rcases List.mem_cons.mp hy with rfl | hy
      · exact ga
      rcases List.mem_cons.mp hy with rfl | hy
      · exact gb
      · rw [List.mem_singleton.mp hy]
        exact gc
    · rintro σ H3 ⟨x, u, rfl, S3, T3⟩
      exact ⟨_, rfl, k x H3 S3 T3⟩
def spBent (K : PySem.W.Frag) : Sp := fun vs H Q _ => ∃ (p a : Addr) (many : Nat) (fs : List Fr), vs = [.ref p, .ref a] ∧ HandAt H p ∧ FrTA K H a fs ∧ SprOk many fs ∧ 1 ≤ many ∧ many ≤ 12 ∧ lcmAll fs ≤ 72 ∧ ∀ (x : V) (H' : Hp) (o : Option (List (Option Fr))), Stp p H H' → ThingP K p H' x o → Q x H'
abbrev nLawBent : List Str := ["_law_hand_here", "_law_here_now", "_law_at", "_law_to", "_law_top", "_law_bottom", "_law_odd", "_law_some", "_law_found"]
theorem scLawBent : FnScope nLawBent ["_law_hand_here", "_law_here_now"] (defScope s_law_bent) := ⟨rfl, rfl, rfl, by decide +kernel, rfl, by decide +kernel, by decide +kernel⟩
theorem ok_bent {f : Addr} {fd : FuncData} {fD : Addr} {fdD : FuncData} {fcDeep : Addr} {fdcDeep : FuncData} {fA : Addr} {fdA : FuncData} (F : Fun K "_law_bent" "_law_bent" s_law_bent f fd) (T : NmA mg) (D : Cl P w K mg base CX0 1 "_law_draw" fD fdD ["_law_hand_here", "_law_many"] spDraw) (cDeep : Cl P w K mg base CX0 2 "_law_deep" fcDeep fdcDeep ["_law_hand_here"] (spDq K)) (A : Cl P w K mg base CX0 2 "_law_any" fA fdA ["_law_hand_here", "_law_things"] (spAny K)) : FnOk P w K mg base CX0 3 f fd ["_law_hand_here", "_law_here_now"] (spBent K) := by
  refine F.ok scLawBent (fun vs H Q E h => ?_) (fun cdv A' outer s H vs Q E hr h => ?_)
  · obtain ⟨p, a, many, fs, rfl, _⟩ := h
    rfl
  · obtain ⟨p, a, many, fs, rfl, hH, hF, spr, m1, m12, l72, k⟩ := h
    have hu := hu_of hr
    refine ⟨_, pss_cons (ps_par (i := 2) (j := 3) (by rfl) scLawBent.nd rfl rfl (by decide) rfl rfl (pa_cons (D.call (hr.mono (by decide)) (pa_cons (pv 0) (pa_cons (pe_callB call_len_seq (by rfl) T.len PySem.boot_len (pa_cons (pv 1) pa_nil)) pa_nil))) (pa_cons (D.call (hr.mono (by decide)) (pa_cons (pv 0) (pa_cons (pe_callB call_len_seq (by rfl) T.len PySem.boot_len (pa_cons (pv 1) pa_nil)) pa_nil))) pa_nil)) (by rfl))
      (pss_cons (ps_asg (pe_ix ix_tup (pv 1) (pv 2) (fun _ _ => rfl)) (pg_tup (by rfl) (pgs_cons (pg_name (i := 4) scLawBent.nd rfl (Or.inl rfl)) (pgs_cons (pg_name (i := 5) scLawBent.nd rfl (Or.inl rfl)) pgs_nil))))
      (pss_cons (ps_set (i := 6) scLawBent.nd rfl (Or.inl rfl) (pe_lst (pa_cons (pe_tup (pa_cons (pe_op op_mul pe_int (pv 4)) (pa_cons (pe_op op_mul pe_int (pv 5)) pa_nil))) (pa_cons (pe_tup (pa_cons (pe_un un_neg (pv 4)) (pa_cons (pv 5) pa_nil))) (pa_cons (pe_tup (pa_cons (pe_op op_add (pv 4) (pv 5)) (pa_cons (pv 5) pa_nil))) (pa_cons (pe_tup (pa_cons (pv 4) (pa_cons (pe_un un_neg (pv 5)) pa_nil))) (pa_cons (pe_tup (pa_cons (pv 4) (pa_cons pe_int pa_nil))) (pa_cons (pe_tup (pa_cons (pv 4) pa_nil)) (pa_cons pe_non (pa_cons (pv 4) pa_nil))))))))))
      (pss_cons (ps_expr (pe_bm PySem.F.plainAttrs_list PySem.F.slot_list_extend PySem.F.type_list_extend mt_extend (pv 6) (pa_cons (pe_lst (pa_cons (pe_lst (pa_cons (pv 4) (pa_cons (pv 5) pa_nil))) (pa_cons (pe_tup (pa_cons pe_bl (pa_cons pe_int pa_nil))) (pa_cons (pe_tup (pa_cons pe_int (pa_cons pe_bl pa_nil))) (pa_cons (pe_tup (pa_cons (pv 4) (pa_cons (pv 5) (pa_cons pe_int pa_nil)))) (pa_cons (pe_tup (pa_cons pe_int (pa_cons pe_int pa_nil))) (pa_cons (pe_tup (pa_cons pe_int (pa_cons pe_int pa_nil))) (pa_cons pe_str (pa_cons (pe_tup (pa_cons (pe_op op_sub (pv 4) (pv 5)) (pa_cons (pv 5) pa_nil))) pa_nil))))))))) pa_nil)))
      (pss_cons (ps_set (i := 7) scLawBent.nd rfl (Or.inl rfl) (pe_lst (pa_cons (pe_callTy call_list_of (by rfl) T.list (by decide +kernel) (pa_cons (pv 1) pa_nil)) (pa_cons (pe_op op_catA (pv 1) (pe_tup (pa_cons (pe_tup (pa_cons pe_int (pa_cons pe_int pa_nil))) pa_nil))) (pa_cons (pe_slice sl_tupA (pv 1) po_none (po_some (pe_un un_neg pe_int))) (pa_cons (pe_revT (pv 1)) (pa_cons pe_non (pa_cons (pe_tup pa_nil) (pa_cons pe_str (pa_cons pe_dnewK (pa_cons pe_int pa_nil)))))))))))
      (pss_cons (ps_expr (pe_bm PySem.F.plainAttrs_list PySem.F.slot_list_append PySem.F.type_list_append mt_append (pv 7) (pa_cons (cDeep.call (hr.mono (by decide)) (pa_cons (pv 0) pa_nil)) pa_nil)))
      (pss_cons (ps_set (i := 8) scLawBent.nd rfl (Or.inl rfl) (pe_callTy call_list_of (by rfl) T.list (by decide +kernel) (pa_cons (pv 1) pa_nil)))
      (pss_cons (ps_asg (pe_tup (pa_cons (pe_ix ix_list (pv 8) (pv 3) (fun _ _ => rfl)) (pa_cons (pe_ix ix_list (pv 8) (pv 2) (fun _ _ => rfl)) pa_nil))) (pg_tup (by rfl) (pgs_cons (pg_sub (pv 8) (pv 2) set_list) (pgs_cons (pg_sub (pv 8) (pv 3) set_list) pgs_nil))))
      (pss_cons (ps_expr (pe_bm PySem.F.plainAttrs_list PySem.F.slot_list_extend PySem.F.type_list_extend mt_extend (pv 7) (pa_cons (pe_op op_cat (pe_lst (pa_cons (pe_callTy call_tuple_of (by rfl) T.tuple (by decide +kernel) (pa_cons (pv 8) pa_nil)) pa_nil)) (pe_op op_rep (pe_lst (pa_cons (pe_op op_catA (pe_op op_catA (pe_slice sl_tupA (pv 1) po_none (po_some (pv 2))) (pe_tup (pa_cons (A.call (hr.mono (by decide)) (pa_cons (pv 0) (pa_cons (pv 6) pa_nil))) pa_nil))) (pe_slice sl_tupA (pv 1) (po_some (pe_op op_add (pv 2) pe_int)) po_none)) pa_nil)) pe_int)) pa_nil)))
      (pss_one (ps_ret (A.call (hr.mono (by decide)) (pa_cons (pv 0) (pa_cons (pv 7) pa_nil))))))))))))), ?_⟩
    obtain ⟨xs, hS, hx⟩ := hF
    have xl : xs.length = many := by rw [hx.1, spr.len]
    obtain ⟨ks, hp⟩ := hH.dk
    refine ⟨_, rfl, _, rfl, a, _, rfl, .inr hS, p, _, rfl, by omega, by omega, hH, fun at_ H1 a0 a1 S1 => ?_⟩
    refine ⟨_, rfl, _, rfl, a, _, rfl, .inr (S1.sqT hH hS), p, _, rfl, by omega, by omega, S1.hand, fun to_ H2 b0 b1 S2 => ?_⟩
    have S12 := S1.trans S2
    have hS2 := S12.sqT hH hS
    have hx2 := S12.fr hH hx
    obtain ⟨at1, rfl⟩ := Int.eq_ofNat_of_zero_le a0
    obtain ⟨to1, rfl⟩ := Int.eq_ofNat_of_zero_le b0
    refine ⟨_, _, rfl, ?_⟩
    have al : at1 < xs.length := by omega
    obtain ⟨f, hf, s, hs, hT⟩ := hx2.2 at1 xs[at1] (List.getElem?_eq_getElem al)
    have fm := List.mem_of_getElem? hf
    refine ⟨_, rfl, _, rfl, a, xs, _, .ref s, rfl, rfl, hS2, atI_nat (by rw [List.getElem?_eq_getElem al, hs]), s, _, rfl, hT, rfl, _, _, rfl, _, _, rfl, rfl, ?_⟩
    obtain ⟨t0, t72, p0, p72⟩ := spr72 spr l72 f fm
    have big : ∀ x : Int, -200 ≤ x → x ≤ 200 → x.natAbs < 2 ^ 62 := fun x h1 h2 => by omega
    have ks2 := S12.hand.dk
    obtain ⟨ks2, hp2⟩ := ks2
    have np : ∀ {G : Hp} {b : Addr}, Same H2 G → G b = none → b ≠ p := fun {G b} s z e => by rw [e, s _ _ hp2] at z; cases z
    refine ⟨_, rfl, _, _, rfl, rfl, .inl ⟨by decide, by decide⟩, _, rfl, _, _, rfl, rfl, .inl ⟨by decide, by decide⟩, by show 2 ≤ sizeLine; decide, fun o1 h1 => ?_⟩
    refine new_step h1 fun G1 s1 e1 => ?_
    have i1 : ItP K p G1 (.ref o1) := .pair (f := (2 * f.1, 2 * f.2)) (SqT.of e1) (big _ (by omega) (by omega)) (big _ (by omega) (by omega))
    refine ⟨_, rfl, _, rfl, _, rfl, by show 2 ≤ sizeLine; decide, fun o2 h2 => ?_⟩
    refine new_step h2 fun G2 s2 e2 => ?_
    have i2 : ItP K p G2 (.ref o2) := .pair (f := (-f.1, f.2)) (SqT.of e2) (big _ (by omega) (by omega)) (big _ (by omega) (by omega))
    refine ⟨_, rfl, _, rfl, _, _, rfl, rfl, _, rfl, by show 2 ≤ sizeLine; decide, fun o3 h3 => ?_⟩
    refine new_step h3 fun G3 s3 e3 => ?_
    have i3 : ItP K p G3 (.ref o3) := .pair (f := (f.1 + f.2, f.2)) (SqT.of e3) (big _ (by omega) (by omega)) (big _ (by omega) (by omega))
    refine ⟨_, rfl, _, rfl, _, rfl, by show 2 ≤ sizeLine; decide, fun o4 h4 => ?_⟩
    refine new_step h4 fun G4 s4 e4 => ?_
    have i4 : ItP K p G4 (.ref o4) := .pair (f := (f.1, -f.2)) (SqT.of e4) (big _ (by omega) (by omega)) (big _ (by omega) (by omega))
    refine ⟨_, rfl, by show 2 ≤ sizeLine; decide, fun o5 h5 => ?_⟩
    refine new_step h5 fun G5 s5 e5 => ?_
    have i5 : ItP K p G5 (.ref o5) := .pair (f := (f.1, 0)) (SqT.of e5) (big _ (by omega) (by omega)) (big _ (by omega) (by omega))
    refine ⟨_, rfl, by show 1 ≤ sizeLine; decide, fun o6 h6 => ?_⟩
    refine new_step h6 fun G6 s6 e6 => ?_
    have i6 : ItP K p G6 (.ref o6) := ⟨none, .inr (.inl ⟨o6, _, rfl, SqT.of e6, by simp⟩)⟩
    refine ⟨_, rfl, by show 8 ≤ sizeLine; decide, fun od hod => ?_⟩
    have t6 : Same H2 G6 := ((((s1.trans s2).trans s3).trans s4).trans s5).trans s6
    have od0 := t6.free hod
    have odp := np t6 hod
    have I0 : ∀ x ∈ [V.ref o1, .ref o2, .ref o3, .ref o4, .ref o5, .ref o6, .non, .int f.1], ItP K p G6 x := fun x hx => by
      simp only [List.mem_cons, List.not_mem_nil, or_false] at hx
      rcases hx with rfl | rfl | rfl | rfl | rfl | rfl | rfl | rfl
      · exact (((((i1.same s2).same s3).same s4).same s5).same s6)
      · exact ((((i2.same s3).same s4).same s5).same s6)
      · exact (((i3.same s4).same s5).same s6)
      · exact ((i4.same s5).same s6)
      · exact (i5.same s6)
      · exact i6
      · exact .nt (.inl (.inl rfl))
      · exact .nt (.inl (.inr (.inr ⟨_, rfl⟩)))
    clear i1 i2 i3 i4 i5 i6 e1 e2 e3 e4 e5 e6 h1 h2 h3 h4 h5 h6
    refine new_step hod fun G7 s7 eod => ?_
    have t7 := t6.trans s7
    have I7 := fun x hx => (I0 x hx).same s7
    clear I0 s1 s2 s3 s4 s5 s6 t6 s7
    refine ⟨_, rfl, .inl ⟨rfl, _, SqL.of eod⟩, ?_⟩
    refine ⟨_, rfl, _, rfl, by show 2 ≤ sizeLine; decide, fun r1 g1 => ?_⟩
    have r1p := np t7 g1
    refine new_step g1 fun G8 s8 e8 => ?_
    have j1 : ItP K p G8 (.ref r1) := .nt (.inr ⟨r1, rfl, r1p, .inl ⟨_, e8⟩⟩)
    refine ⟨by show 2 ≤ sizeLine; decide, fun r2 g2 => ?_⟩
    refine new_step g2 fun G9 s9 e9 => ?_
    have j2 : ItP K p G9 (.ref r2) := ⟨none, .inr (.inr ⟨r2, _, _, false, true, rfl, SqT.of e9, .inr ⟨rfl, _, rfl⟩, .inl ⟨rfl, _, rfl⟩, rfl⟩)⟩
    refine ⟨by show 2 ≤ sizeLine; decide, fun r3 g3 => ?_⟩
    refine new_step g3 fun G10 s10 e10 => ?_
    have j3 : ItP K p G10 (.ref r3) := ⟨none, .inr (.inr ⟨r3, _, _, true, false, rfl, SqT.of e10, .inl ⟨rfl, _, rfl⟩, .inr ⟨rfl, _, rfl⟩, rfl⟩)⟩
    refine ⟨_, rfl, _, rfl, by show 3 ≤ sizeLine; decide, fun r4 g4 => ?_⟩
    refine new_step g4 fun G11 s11 e11 => ?_
    have j4 : ItP K p G11 (.ref r4) := ⟨none, .inr (.inl ⟨r4, _, rfl, SqT.of e11, by simp⟩)⟩
    refine ⟨by show 2 ≤ sizeLine; decide, fun r5 g5 => ?_⟩
    refine new_step g5 fun G12 s12 e12 => ?_
    have j5 : ItP K p G12 (.ref r5) := .pair (f := (0, 1)) (SqT.of e12) (big _ (by omega) (by omega)) (big _ (by omega) (by omega))
    refine ⟨by show 2 ≤ sizeLine; decide, fun r6 g6 => ?_⟩
    refine new_step g6 fun G13 s13 e13 => ?_
    have j6 : ItP K p G13 (.ref r6) := .pair (f := (1, 1)) (SqT.of e13) (big _ (by omega) (by omega)) (big _ (by omega) (by omega))
    refine ⟨_, rfl, _, rfl, _, _, rfl, rfl, _, rfl, by show 2 ≤ sizeLine; decide, fun r7 g7 => ?_⟩
    refine new_step g7 fun G14 s14 e14 => ?_
    have j7 : ItP K p G14 (.ref r7) := .pair (f := (f.1 - f.2, f.2)) (SqT.of e14) (big _ (by omega) (by omega)) (big _ (by omega) (by omega))
    refine ⟨by show 8 ≤ sizeLine; decide, fun ol hol => ?_⟩
    have J0 : ∀ x ∈ [V.ref r1, .ref r2, .ref r3, .ref r4, .ref r5, .ref r6, .str "1", .ref r7], ItP K p G14 x := fun x hx => by
      simp only [List.mem_cons, List.not_mem_nil, or_false] at hx
      rcases hx with rfl | rfl | rfl | rfl | rfl | rfl | rfl | rfl
      · exact ((((((j1.same s9).same s10).same s11).same s12).same s13).same s14)
      · exact (((((j2.same s10).same s11).same s12).same s13).same s14)
      · exact ((((j3.same s11).same s12).same s13).same s14)
      · exact (((j4.same s12).same s13).same s14)
      · exact ((j5.same s13).same s14)
      · exact (j6.same s14)
      · exact .nt (.inl (.inr (.inl ⟨_, rfl⟩)))
      · exact j7
    have t14 := ((((((s8.trans s9).trans s10).trans s11).trans s12).trans s13).trans s14)
    have I14 := fun x hx => (I7 x hx).same t14
    have eod14 := t14 _ _ eod
    have u14 := t7.trans t14
    clear j1 j2 j3 j4 j5 j6 j7 e8 e9 e10 e11 e12 e13 e14 g1 g2 g3 g4 g5 g6 g7 s8 s9 s10 s11 s12 s13 s14 t14 I7 t7 eod
    refine new_step hol fun G15 s15 eol => ?_
    have eod15 := s15 _ _ eod14
    have I15 : ∀ x ∈ ([V.ref o1, .ref o2, .ref o3, .ref o4, .ref o5, .ref o6, .non, .int f.1] ++ [V.ref r1, .ref r2, .ref r3, .ref r4, .ref r5, .ref r6, .str "1", .ref r7]), ItP K p G15 x := fun x hx => by
      rcases List.mem_append.mp hx with hx | hx
      · exact (I14 x hx).same s15
      · exact (J0 x hx).same s15
    have u15 := u14.trans s15
    refine ⟨od, ol, _, _, rfl, rfl, eod15, eol, by show 16 ≤ sizeLine; decide, ?_⟩
    have I16 := fun x hx => (I15 x hx).updL (ys := [V.ref o1, .ref o2, .ref o3, .ref o4, .ref o5, .ref o6, .non, .int f.1] ++ [V.ref r1, .ref r2, .ref r3, .ref r4, .ref r5, .ref r6, .str "1", .ref r7]) eod15
    have u16 : Same H2 (upd G15 od (.lst ([V.ref o1, .ref o2, .ref o3, .ref o4, .ref o5, .ref o6, .non, .int f.1] ++ [V.ref r1, .ref r2, .ref r3, .ref r4, .ref r5, .ref r6, .str "1", .ref r7]))) := u15.mut od0
    have eod16 : (upd G15 od (.lst ([V.ref o1, .ref o2, .ref o3, .ref o4, .ref o5, .ref o6, .non, .int f.1] ++ [V.ref r1, .ref r2, .ref r3, .ref r4, .ref r5, .ref r6, .str "1", .ref r7]))) od = _ := upd_same
    generalize hod' : ([V.ref o1, .ref o2, .ref o3, .ref o4, .ref o5, .ref o6, .non, .int f.1] ++ [V.ref r1, .ref r2, .ref r3, .ref r4, .ref r5, .ref r6, .str "1", .ref r7]) = ods at I16 u16 eod16 ⊢
    have odl : ods.length = 16 := by rw [← hod']; rfl
    generalize upd G15 od (.lst ods) = G at I16 u16 eod16 ⊢
    clear hod' I15 J0 I14 eod14 eod15 u14 u15 eol hol hod od0
    have S16 : Stp p H G := S12.post u16
    have hS16 := u16.sqT hS2
    have IX : ∀ x ∈ xs, ItP K p G x := fun x hx => by
      obtain ⟨i, hi⟩ := List.getElem?_of_mem hx
      obtain ⟨g, hg, sa, rfl, hq⟩ := hx2.2 i x hi
      obtain ⟨b0, b1, b2, b3⟩ := spr72 spr l72 g (List.mem_of_getElem? hg)
      exact .pair (u16.sqT hq) (big _ (by omega) (by omega)) (big _ (by omega) (by omega))
    refine ⟨_, rfl, a, xs, rfl, .inr hS16, fun l1 hl1 => ?_⟩
    have l1p := np u16 hl1
    refine new_step hl1 fun G17 s17 e17 => ?_
    have q1 : ThP K p G17 (.ref l1) := ⟨none, .inr ⟨l1, rfl, l1p, .inl ⟨_, e17⟩⟩⟩
    refine ⟨_, rfl, by show 2 ≤ sizeLine; decide, fun z1 hz1 => ?_⟩
    refine new_step hz1 fun G18 s18 e18 => ?_
    refine ⟨by show 1 ≤ sizeLine; decide, fun z2 hz2 => ?_⟩
    refine new_step hz2 fun G19 s19 e19 => ?_
    have w19 := (s17.trans s18).trans s19
    refine catT (w19.sqT hS16) (SqT.of e19) (by rw [xl]; show many + 1 ≤ 1000; omega) fun c1 G20 s20 f20 => ?_
    have w20 := w19.trans s20
    have q2 : ThP K p G20 (.ref c1) := ThingP.of f20 (by rw [List.length_append, xl]; show many + 1 ≤ 24; omega) fun x hx => by
      rcases List.mem_append.mp hx with hx | hx
      · exact (IX x hx).same w20
      · rw [List.mem_singleton.mp hx]
        exact .pair (f := (0, 1)) ((s19.trans s20).sqT (SqT.of e18)) (big _ (by omega) (by omega)) (big _ (by omega) (by omega))
    refine ⟨_, rfl, ?_⟩
    unfold tNoPart
    refine ⟨_, rfl, _, rfl, slT (w20.sqT hS16) fun c2 G21 s21 f21 => ?_⟩
    have w21 := w20.trans s21
    have cl : ∀ lo hi, (cutV xs lo hi).length ≤ 12 := fun lo hi => Nat.le_trans (cutV_length _ _ _) (by omega)
    have q3 : ThP K p G21 (.ref c2) := ThingP.of f21 (Nat.le_trans (cl _ _) (by decide)) fun x hx => (IX x (mem_cutV hx)).same w21
    refine ⟨_, rfl, a, xs, rfl, w21.sqT hS16, fun c3 hc3 => ?_⟩
    refine new_step hc3 fun G22 s22 e22 => ?_
    have w22 := w21.trans s22
    have q4 : ThP K p G22 (.ref c3) := ThingP.of (SqT.of e22) (by rw [List.length_reverse]; omega) fun x hx => (IX x (List.mem_reverse.mp hx)).same w22
    refine ⟨by show 0 ≤ sizeLine; decide, fun c4 hc4 => ?_⟩
    refine new_step hc4 fun G23 s23 e23 => ?_
    have q5 : ThP K p G23 (.ref c4) := ThingP.of (SqT.of e23) (by decide) fun x hx => absurd hx List.not_mem_nil
    have w23 := w22.trans s23
    refine fun c5 hc5 => ?_
    have c5p := np (u16.trans w23) hc5
    refine new_step hc5 fun G24 s24 e24 => ?_
    have q6 : ThP K p G24 (.ref c5) := ⟨none, .inr ⟨c5, rfl, c5p, .inr ⟨_, e24⟩⟩⟩
    have w24 := w23.trans s24
    refine ⟨by show 9 ≤ sizeLine; decide, fun so hso => ?_⟩
    have sop := np (u16.trans w24) hso
    have so0 := (u16.trans w24).free hso
    have sH0 := S12.free so0
    have Q0 : ∀ x ∈ [V.ref l1, .ref c1, .ref c2, .ref c3, .non, .ref c4, .str "spread", .ref c5, .int 1], ThP K p G24 x := fun x hx => by
      simp only [List.mem_cons, List.not_mem_nil, or_false] at hx
      rcases hx with rfl | rfl | rfl | rfl | rfl | rfl | rfl | rfl | rfl
      · exact q1.same ((((((s18.trans s19).trans s20).trans s21).trans s22).trans s23).trans s24)
      · exact q2.same (((s21.trans s22).trans s23).trans s24)
      · exact q3.same ((s22.trans s23).trans s24)
      · exact q4.same (s23.trans s24)
      · exact ⟨none, .inl (.inl rfl)⟩
      · exact q5.same s24
      · exact ⟨none, .inl (.inr (.inl ⟨_, rfl⟩))⟩
      · exact q6
      · exact ⟨none, .inl (.inr (.inr ⟨_, rfl⟩))⟩
    clear q1 q2 q3 q4 q5 q6 e17 e18 e19 e22 e23 e24
    refine new_step hso fun G25 s25 eso => ?_
    have w25 := w24.trans s25
    have Q25 := fun x hx => (Q0 x hx).same s25
    have S25 : Stp p H G25 := S16.post w25
    refine ⟨_, rfl, .inl ⟨rfl, _, SqL.of eso⟩, _, rfl, p, rfl, S25.hand, fun dx G26 S26 D26 => ?_⟩
    have eso26 := S26.keep _ _ sop eso
    have Q26 := fun x hx => (Q25 x hx).stp S25.hand S26
    refine ⟨so, _, _, rfl, rfl, eso26, by show 9 < sizeLine; decide, ?_⟩
    have X26 : ∀ x ∈ ([V.ref l1, .ref c1, .ref c2, .ref c3, .non, .ref c4, .str "spread", .ref c5, .int 1] ++ [dx]), ThP K p G26 x := fun x hx => by
      rcases List.mem_append.mp hx with hx | hx
      · exact Q26 x hx
      · rw [List.mem_singleton.mp hx]
        exact D26.thing
    generalize hsm : ([V.ref l1, .ref c1, .ref c2, .ref c3, .non, .ref c4, .str "spread", .ref c5, .int 1] ++ [dx]) = sm at X26 ⊢
    have sml : sm.length = 10 := by rw [← hsm]; rfl
    clear hsm Q0 Q25 Q26
    have X27 := fun x hx => (X26 x hx).updL (ys := sm) eso26
    have IX27 : ∀ x ∈ xs, ItP K p (upd G26 so (.lst sm)) x := fun x hx => (((IX x hx).same w25).stp S25.hand S26).updL eso26
    have OX27 : ∀ x ∈ ods, ItP K p (upd G26 so (.lst sm)) x := fun x hx => (((I16 x hx).same w25).stp S25.hand S26).updL eso26
    have S27 : Stp p H (upd G26 so (.lst sm)) := Stp.mut hH (S25.trans S26) sH0
    have hS27 : SqT K (upd G26 so (.lst sm)) a xs := sqT_upd eso26 (S26.sqT S25.hand (w25.sqT hS16))
    have odso : od ≠ so := fun z => by rw [← z, w24 _ _ eod16] at hso; cases hso
    have eod27 : (upd G26 so (.lst sm)) od = some (.lst ods) := by rw [upd_ne odso]; exact S26.keep _ _ odp (w25 _ _ eod16)
    have eso27 : (upd G26 so (.lst sm)) so = some (.lst sm) := upd_same
    clear X26 eso26 IX I16 eod16 S25 S26 hS16 s17 s18 s19 s20 s21 s22 s23 s24 s25 w19 w20 w21 w22 w23 w24 w25 D26 eso u16 S16
    generalize upd G26 so (.lst sm) = G at X27 IX27 OX27 S27 hS27 eod27 eso27 ⊢
    refine ⟨_, rfl, a, xs, rfl, .inr hS27, fun lf hlf => ?_⟩
    have lf0 := S27.free hlf
    have lso : lf ≠ so := fun z => by rw [z, eso27] at hlf; cases hlf
    have lod : lf ≠ od := fun z => by rw [z, eod27] at hlf; cases hlf
    refine new_step hlf fun G1 s1 e1 => ?_
    have tl : to1 < xs.length := by omega
    refine ⟨_, rfl, _, rfl, lf, xs, _, xs[to1], rfl, rfl, SqL.of e1, atI_nat (List.getElem?_eq_getElem tl), _, rfl, _, rfl, lf, xs, _, xs[at1], rfl, rfl, SqL.of e1, atI_nat (List.getElem?_eq_getElem al), by show 2 ≤ sizeLine; decide, fun t ht => ?_⟩
    refine new_step ht fun G2 s2 e2 => ?_
    have elf2 := s2 _ _ e1
    refine ⟨t, _, rfl, SqT.of e2, rfl, _, _, rfl, ?_⟩
    refine ⟨_, rfl, _, rfl, lf, xs, _, at1, rfl, rfl, elf2, Evl.ixN_nat al, ?_⟩
    refine ⟨_, _, rfl, _, rfl, _, rfl, lf, _, _, to1, rfl, rfl, upd_same, Evl.ixN_nat (by rw [List.length_set]; exact tl), rfl, ?_⟩
    rw [upd_upd]
    have w2 := s1.trans s2
    have S2' : Stp p H (upd G2 lf (.lst ((xs.set at1 xs[to1]).set to1 xs[at1]))) := Stp.mut hH (S27.post w2) lf0
    have X2 : ∀ x ∈ sm, ThP K p (upd G2 lf (.lst ((xs.set at1 xs[to1]).set to1 xs[at1]))) x := fun x hx => ((X27 x hx).same w2).updL elf2
    have IX2 : ∀ x ∈ xs, ItP K p (upd G2 lf (.lst ((xs.set at1 xs[to1]).set to1 xs[at1]))) x := fun x hx => ((IX27 x hx).same w2).updL elf2
    have OX2 : ∀ x ∈ ods, ItP K p (upd G2 lf (.lst ((xs.set at1 xs[to1]).set to1 xs[at1]))) x := fun x hx => ((OX27 x hx).same w2).updL elf2
    have hS2' : SqT K (upd G2 lf (.lst ((xs.set at1 xs[to1]).set to1 xs[at1]))) a xs := sqT_upd elf2 (w2.sqT hS27)
    have eod2 : (upd G2 lf (.lst ((xs.set at1 xs[to1]).set to1 xs[at1]))) od = some (.lst ods) := by rw [upd_ne lod.symm]; exact w2 _ _ eod27
    have eso2 : (upd G2 lf (.lst ((xs.set at1 xs[to1]).set to1 xs[at1]))) so = some (.lst sm) := by rw [upd_ne lso.symm]; exact w2 _ _ eso27
    have elf3 : (upd G2 lf (.lst ((xs.set at1 xs[to1]).set to1 xs[at1]))) lf = _ := upd_same
    have ysm : ∀ x ∈ (xs.set at1 xs[to1]).set to1 xs[at1], x ∈ xs := fun x hx => by
      rcases List.mem_or_eq_of_mem_set hx with hx | rfl
      · rcases List.mem_or_eq_of_mem_set hx with hx | rfl
        · exact hx
        · exact List.getElem_mem _
      · exact List.getElem_mem _
    have ysl : ((xs.set at1 xs[to1]).set to1 xs[at1]).length ≤ 12 := by
      rw [List.length_set, List.length_set]
      omega
    clear e1 e2 elf2 s1 s2 w2 X27 IX27 OX27 S27 hS27 eod27 eso27 hlf ht
    generalize (xs.set at1 xs[to1]).set to1 xs[at1] = ys at *
    generalize upd G2 lf (.lst ys) = G at X2 IX2 OX2 S2' hS2' eod2 eso2 elf3 ⊢
    refine ⟨_, rfl, .inl ⟨rfl, _, SqL.of eso2⟩, ?_⟩
    refine ⟨_, rfl, lf, _, rfl, .inl ⟨SqL.of elf3, fun c1 hc1 => ?_⟩⟩
    refine new_step hc1 fun G3 s3 e3 => ?_
    have q1 : ThP K p G3 (.ref c1) := ThingP.of (SqT.of e3) (by omega) fun x hx => (IX2 x (ysm x hx)).same s3
    refine ⟨by show 1 ≤ sizeLine; decide, fun c2 hc2 => ?_⟩
    have c20 := (S2'.post s3).free hc2
    refine new_step hc2 fun G4 s4 e4 => ?_
    have w4 := s3.trans s4
    refine ⟨_, rfl, ?_⟩
    refine ⟨_, rfl, _, rfl, slT (w4.sqT hS2') fun c3 G5 s5 f5 => ?_⟩
    have S5 : Stp p H G5 := (S2'.post w4).post s5
    have w5 := w4.trans s5
    refine ⟨_, rfl, _, rfl, p, od, ods, rfl, .inl (SqL.of (w5 _ _ eod2)), by omega, by omega, S5.hand, fun i x G6 hi S6 => ?_⟩
    have IXx : ItP K p G6 x := ((OX2 x (List.mem_of_getElem? hi)).same w5).stp S5.hand S6
    refine ⟨by show 1 ≤ sizeLine; decide, fun c4 hc4 => ?_⟩
    refine new_step hc4 fun G7 s7 e7 => ?_
    have S56 := S5.trans S6
    refine catT ((S6.post s7).sqT S5.hand f5) (SqT.of e7) (Nat.le_trans (Nat.add_le_add (cl _ _) (Nat.le_refl 1)) (by decide)) fun c5 G8 s8 f8 => ?_
    refine ⟨_, rfl, _, rfl, _, _, rfl, rfl, _, rfl, ?_⟩
    have S8 := (S6.post s7).post s8
    refine slT (S8.sqT S5.hand (w5.sqT hS2')) fun c6 G9 s9 f9 => ?_
    have cl2 : ∀ lo hi lo' hi', (cutV xs lo hi ++ [x]).length + (cutV xs lo' hi').length ≤ 24 + 1 - 0 := fun lo hi lo' hi' => by
      rw [List.length_append]
      have := cl lo hi
      have := cl lo' hi'
      show (cutV xs lo hi).length + 1 + (cutV xs lo' hi').length ≤ 25
      omega
    have w9 := (s7.trans s8).trans s9
    refine catT (s9.sqT f8) f9 (Nat.le_trans (cl2 _ _ _ _) (by decide)) fun c7 G10 s10 f10 => ?_
    have S10 : Stp p H G10 := S56.post (w9.trans s10)
    have S510 : Stp p G5 G10 := S6.post (w9.trans s10)
    have w510 : Same G6 G10 := w9.trans s10
    have q2 : ThP K p G10 (.ref c7) := by
      refine ThingP.of f10 ?_ fun y hy => ?_
      · rw [List.length_append]
        show (cutV xs none (some (at1 : Int)) ++ [x]).length + (cutV xs (some ((at1 : Int) + 1)) none).length ≤ 24
        have e0 : ((at1 : Int) + 1) = ((at1 + 1 : Nat) : Int) := by rw [Int.natCast_add] <;> rfl
        rw [e0, List.length_append, cut_to (by omega), cut_from (by omega), List.length_take, List.length_drop, Nat.min_eq_left (by omega)]
        show at1 + 1 + (xs.length - (at1 + 1)) ≤ 24
        omega
      · rcases List.mem_append.mp hy with hy | hy
        · rcases List.mem_append.mp hy with hy | hy
          · exact (((IX2 y (mem_cutV hy)).same w5).stp S5.hand S6).same w510
          · rw [List.mem_singleton.mp hy]
            exact IXx.same w510
        · exact (((IX2 y (mem_cutV hy)).same w5).stp S5.hand S6).same w510
    have e2 : G10 c2 = some (.lst [.ref c1]) := S510.keep _ _ (fun z => by
      have y := S2'.hand.dk
      obtain ⟨ky, hy⟩ := y
      rw [z, s3 _ _ hy] at hc2
      cases hc2) (s5 _ _ e4)
    refine ⟨by show 1 ≤ sizeLine; decide, fun l3 hl3 => ?_⟩
    refine new_step hl3 fun G11 s11 e11 => ?_
    refine ⟨l3, 9, _, rfl, rfl, e11, by decide, by decide, by show 9 ≤ sizeLine; decide, fun l4 hl4 => ?_⟩
    refine new_step hl4 fun G12 s12 e12 => ?_
    have e12' : G12 l4 = some (.lst (List.replicate 9 (V.ref c7))) := e12
    refine ⟨c2, l4, _, _, rfl, rfl, s12 _ _ (s11 _ _ e2), e12', by show 10 ≤ sizeLine; decide, fun l5 hl5 => ?_⟩
    refine new_step hl5 fun G13 s13 e13 => ?_
    have w13 : Same G10 G13 := (s11.trans s12).trans s13
    have eso13 : G13 so = some (.lst sm) := w13 _ _ (S510.keep _ _ sop (w5 _ _ eso2))
    have XX : ∀ x ∈ sm ++ ([V.ref c1] ++ List.replicate 9 (V.ref c7)), ThP K p G13 x := fun y hy => by
      rcases List.mem_append.mp hy with hy | hy
      · exact ((((X2 y hy).same w5).stp S5.hand S6).same w510).same w13
      · rcases List.mem_append.mp hy with hy | hy
        · rw [List.mem_singleton.mp hy]
          exact (((q1.same (s4.trans s5)).stp S5.hand S6).same w510).same w13
        · rw [List.eq_of_mem_replicate hy]
          exact q2.same w13
    have smL : (sm ++ ([V.ref c1] ++ List.replicate 9 (V.ref c7))).length = 20 := by
      rw [List.length_append, sml]
      rfl
    refine ⟨so, l5, _, _, rfl, rfl, eso13, e13, by rw [sml]; show 20 ≤ sizeLine; decide, ?_⟩
    have S14 : Stp p H (upd G13 so (.lst (sm ++ ([V.ref c1] ++ List.replicate 9 (V.ref c7))))) := Stp.mut hH (S10.post w13) sH0
    have XY := fun x hx => (XX x hx).updL (ys := sm ++ ([V.ref c1] ++ List.replicate 9 (V.ref c7))) eso13
    have eso14 : (upd G13 so (.lst (sm ++ ([V.ref c1] ++ List.replicate 9 (V.ref c7))))) so = _ := upd_same
    generalize sm ++ ([V.ref c1] ++ List.replicate 9 (V.ref c7)) = sm2 at *
    refine ⟨_, rfl, _, rfl, p, so, sm2, rfl, .inl (SqL.of eso14), by omega, by omega, S14.hand, fun i x H' hi S => ?_⟩
    obtain ⟨o, ho⟩ := (XY x (List.mem_of_getElem? hi)).stp S14.hand S
    exact k x H' o (S14.trans S) ho
end
end Law

namespace Law
open PySem L2
/-! ### behind n moves, and m more -/
theorem itT_add {G : Nat → Nat → Int} {many : Nat} {T : Nat → Int} (n : Nat) : ∀ m, itT G many (itT G many T n) m = itT G many T (n + m)
  | 0 => rfl
  | m + 1 => by
    show (fun o => ((List.range many).map fun s => itT G many (itT G many T n) m s * G s o).sum) = fun o => ((List.range many).map fun s => itT G many T (n + m) s * G s o).sum
    rw [itT_add n m]
theorem itT_prop {G : Nat → Nat → Int} {many : Nat} {T U : Nat → Int} {D c : Int} (h : ∀ s, s < many → D * T s = c * U s) : ∀ m o, o < many → D * itT G many T m o = c * itT G many U m o
  | 0, o, ho => h o ho
  | m + 1, o, ho => by
    show D * ((List.range many).map fun s => itT G many T m s * G s o).sum = c * ((List.range many).map fun s => itT G many U m s * G s o).sum
    rw [← sum_mulF, ← sum_mulF]
    refine sum_congF fun s hs => ?_
    rw [← Int.mul_assoc, itT_prop h m s hs, Int.mul_assoc]
theorem beh_ws {many : Nat} {ms : List Mv} {fs : List Fr} (ok : SysOk many ms) (h : SprOk many fs) (n : Nat) : behF many ms fs n = ((List.range many).map (behT many ms fs n)).map fun x => lowP x ((List.range many).map (behT many ms fs n)).sum := by
  rw [beh_sum ok h n, List.map_map] <;> rfl
theorem beh_pos {many : Nat} {ms : List Mv} {fs : List Fr} (ok : SysOk many ms) (h : SprOk many fs) (n : Nat) : (0 : Int) < ((List.range many).map (behT many ms fs n)).sum := by
  rw [beh_sum ok h n]
  have := Nat.mul_pos h.lpos (Nat.pow_pos (n := n) (bm_pos ok))
  omega
theorem beh_nnL {many : Nat} {ms : List Mv} {fs : List Fr} (ok : SysOk many ms) (h : SprOk many fs) (n : Nat) : ∀ x ∈ (List.range many).map (behT many ms fs n), 0 ≤ x := fun x hx => by
  obtain ⟨s, _, rfl⟩ := List.mem_map.mp hx
  exact beh_nn ok h n s
/-- what is behind a spread is a spread -/
theorem beh_spr {many : Nat} {ms : List Mv} {fs : List Fr} (ok : SysOk many ms) (h : SprOk many fs) (n : Nat) : SprOk many (behF many ms fs n) := by
  rw [beh_ws ok h n]
  exact spr_of (by rw [List.length_map, List.length_range]) (beh_nnL ok h n) (beh_pos ok h n)
theorem beh_lcm {many : Nat} {ms : List Mv} {fs : List Fr} (ok : SysOk many ms) (h : SprOk many fs) (n : Nat) : lcmAll (behF many ms fs n) ∣ lcmAll fs * Bm ms ^ n := by
  have z := lcm_of (beh_nnL ok h n) (beh_pos ok h n)
  rw [← beh_ws ok h n, beh_sum ok h n, Int.natAbs_natCast] at z
  exact z
theorem top_cross {many : Nat} {ms : List Mv} {fs : List Fr} (ok : SysOk many ms) (h : SprOk many fs) (n : Nat) {s : Nat} (hs : s < many) : ((lcmAll fs * Bm ms ^ n : Nat) : Int) * topF (behF many ms fs n) s = ((lcmAll (behF many ms fs n) : Nat) : Int) * behT many ms fs n s := by
  have D0 : (0 : Int) < ((lcmAll fs * Bm ms ^ n : Nat) : Int) := by
    have := Nat.mul_pos h.lpos (Nat.pow_pos (n := n) (bm_pos ok))
    omega
  have hm : lowP (behT many ms fs n s) ((lcmAll fs * Bm ms ^ n : Nat) : Int) ∈ behF many ms fs n := List.mem_map.mpr ⟨s, List.mem_range.mpr hs, rfl⟩
  have d : (lowP (behT many ms fs n s) ((lcmAll fs * Bm ms ^ n : Nat) : Int)).2 ∣ ((lcmAll (behF many ms fs n) : Nat) : Int) := Int.ofNat_dvd_right.mpr (dvd_lcmAll hm)
  have e : topF (behF many ms fs n) s = (lowP (behT many ms fs n s) ((lcmAll fs * Bm ms ^ n : Nat) : Int)).1 * (((lcmAll (behF many ms fs n) : Nat) : Int) / (lowP (behT many ms fs n s) ((lcmAll fs * Bm ms ^ n : Nat) : Int)).2) := by
    unfold topF
    generalize ((lcmAll (behF many ms fs n) : Nat) : Int) = L
    unfold topsOf behF
    rw [List.map_map, List.getD_eq_getElem?_getD, List.getElem?_map, List.getElem?_range hs] <;> rfl
  rw [e, ← Int.mul_assoc, lowP_cross D0, Int.mul_assoc, Int.mul_ediv_cancel' d, Int.mul_comm]
/-- m moves behind what is behind n: n + m -/
theorem beh_more {many : Nat} {ms : List Mv} {fs : List Fr} (ok : SysOk many ms) (h : SprOk many fs) (n m : Nat) : behF many ms (behF many ms fs n) m = behF many ms fs (n + m) := by
  have bp := bm_pos ok
  have p1 := (beh_spr ok h n).lpos
  have p2 := h.lpos
  have D0 : (0 : Int) < ((lcmAll fs * Bm ms ^ n : Nat) : Int) := by
    have := Nat.mul_pos p2 (Nat.pow_pos (n := n) bp)
    omega
  show (List.range many).map _ = (List.range many).map _
  refine List.map_congr_left fun o ho => ?_
  have hm := List.mem_range.mp ho
  have key := itT_prop (G := cellF (tsM ms) (ms.map (·.2))) (T := topF (behF many ms fs n)) (U := behT many ms fs n) (fun s hs => top_cross ok h n hs) m o hm
  have e1 : behT many ms fs (n + m) o = itT (cellF (tsM ms) (ms.map (·.2))) many (behT many ms fs n) m o := by
    unfold behT
    rw [itT_add]
  have q1 : (0 : Int) < ((lcmAll (behF many ms fs n) * Bm ms ^ m : Nat) : Int) := by
    have := Nat.mul_pos p1 (Nat.pow_pos (n := m) bp)
    omega
  have q2 : (0 : Int) < ((lcmAll fs * Bm ms ^ (n + m) : Nat) : Int) := by
    have := Nat.mul_pos p2 (Nat.pow_pos (n := n + m) bp)
    omega
  refine lowP_eq q1 q2 ?_
  rw [e1]
  show itT (cellF (tsM ms) (ms.map (·.2))) many (topF (behF many ms fs n)) m o * _ = _
  generalize itT (cellF (tsM ms) (ms.map (·.2))) many (topF (behF many ms fs n)) m o = x at key ⊢
  generalize itT (cellF (tsM ms) (ms.map (·.2))) many (behT many ms fs n) m o = y at key ⊢
  rw [Nat.pow_add, ← Nat.mul_assoc, Int.natCast_mul (lcmAll fs * Bm ms ^ n), Int.natCast_mul (lcmAll (behF many ms fs n)), ← Int.mul_assoc, Int.mul_comm x, key, Int.mul_comm _ y, Int.mul_assoc]
end Law
namespace Law
open PySem L2
theorem lcm_200 : ∀ {fs : List Fr}, (∀ f ∈ fs, 0 < f.2 ∧ f.2.natAbs < 2 ^ 40) → fs.length ≤ 5 → lcmAll fs < 2 ^ 200 := fun {fs} h hl => by
  have key : ∀ (c : Nat) (gs : List Fr) (m : Nat), 0 < m → (∀ f ∈ gs, 0 < f.2 ∧ f.2.natAbs ≤ c) → gs.foldl (fun m f => Nat.lcm m f.2.natAbs) m ≤ m * c ^ gs.length := fun c gs => by
    induction gs with
    | nil => exact fun m hm _ => by rw [List.length_nil, Nat.pow_zero, Nat.mul_one]; exact Nat.le_refl _
    | cons f gs ih =>
      intro m hm hg
      obtain ⟨h1, h2⟩ := hg f List.mem_cons_self
      have p : 0 < f.2.natAbs := by omega
      have i2 := ih _ (Nat.lcm_pos hm p) fun g hg' => hg g (List.mem_cons_of_mem _ hg')
      refine Nat.le_trans i2 ?_
      rw [List.length_cons, Nat.pow_succ, Nat.mul_comm (c ^ _), ← Nat.mul_assoc]
      exact Nat.mul_le_mul_right _ (Nat.le_trans (lcm_le _ _ p hm) (Nat.mul_le_mul_left _ h2))
  have z := key (2 ^ 40 - 1) fs 1 (by decide) fun f hf => ⟨(h f hf).1, by have := (h f hf).2; omega⟩
  rw [Nat.one_mul] at z
  have y : (2 ^ 40 - 1) ^ fs.length ≤ (2 ^ 40 - 1) ^ 5 := Nat.pow_le_pow_right (by decide) hl
  have x : (2 ^ 40 - 1) ^ 5 < 2 ^ 200 := by decide +kernel
  exact Nat.lt_of_le_of_lt z (Nat.lt_of_le_of_lt y x)
theorem mk_same {C : Addr} {H H' : Hp} {y dy : Addr} (hy : H y = none) (hdy : H dy = none) (kC : ∀ b o, b ≠ y → (upd (upd H dy (.own y)) y (.ins C dy [])) b = some o → H' b = some o) : Same H H' := fun b o e =>
  kC b o (ne_of_none e hy) (by rw [upd_ne (ne_of_none e hy), upd_ne (ne_of_none e hdy)]; exact e)
theorem mk_same0 {C : Addr} {H : Hp} {y dy : Addr} (hy : H y = none) (hdy : H dy = none) : Same H (upd (upd H dy (.own y)) y (.ins C dy [])) := fun b o e => by
  rw [upd_ne (ne_of_none e hy), upd_ne (ne_of_none e hdy)]
  exact e
theorem Stp.sys {K : PySem.W.Frag} {p : Addr} {C : Addr} {H H' : Hp} {q : Addr} {many : Nat} {ms : List Mv} (S : Stp p H H') (hp : HandAt H p) (h : SysAt K C H q many ms) : SysAt K C H' q many ms := by
  obtain ⟨ks, hk⟩ := hp.dk
  obtain ⟨dx, mv, h1, h2⟩ := h
  exact ⟨dx, mv, S.keep _ _ (ne_of h1 hk (by intro z; cases z)) h1, S.mvs hp h2⟩
theorem Stp.lst {p l : Addr} {H H' : Hp} {xs : List V} (S : Stp p H H') (hp : HandAt H p) (h : H l = some (.lst xs)) : H' l = some (.lst xs) := by
  obtain ⟨ks, hk⟩ := hp.dk
  exact S.keep _ _ (ne_of h hk (by intro z; cases z)) h
theorem Stp.rows {K : PySem.W.Frag} {p : Addr} {H H' : Hp} {vs : List V} {rows : List (List Fr)} (S : Stp p H H') (hp : HandAt H p) (h : RowsL K H vs rows) : RowsL K H' vs rows := ⟨h.1, fun i v hv => by
  obtain ⟨fs, h1, l, xs, h2, h3, h4⟩ := h.2 i v hv
  exact ⟨fs, h1, l, xs, h2, S.lst hp h3, S.fr hp h4⟩⟩
theorem beh_zero {many : Nat} {ms : List Mv} {fs : List Fr} (ok : SysOk many ms) (h : SprOk many fs) : behF many ms fs 0 = fs := by
  have z := over_all (fs := fs) fun f hf => ⟨(h.fr f hf).1, (h.fr f hf).2.1, (h.fr f hf).2.2⟩
  rw [h.list, List.map_map] at z
  unfold behF
  rw [Nat.pow_zero, Nat.mul_one]
  exact z.symm
theorem spr_small {many : Nat} {fs : List Fr} (h : SprOk many fs) (l : lcmAll fs ≤ 72) (f : Fr) (hf : f ∈ fs) : f.1.natAbs < 2 ^ 62 ∧ f.2.natAbs < 2 ^ 62 := by
  obtain ⟨a, b, _⟩ := h.fr f hf
  have lp := h.lpos
  have d := Nat.le_of_dvd lp (dvd_lcmAll hf)
  obtain ⟨c, hc⟩ := dvd_lcmAll hf
  have e := le_sum h.tnn _ (List.mem_map.mpr ⟨f, hf, rfl⟩)
  rw [h.sum] at e
  have fa : ((f.2.natAbs : Nat) : Int) = f.2 := Int.natAbs_of_nonneg (Int.le_of_lt a)
  have q : ((lcmAll fs : Nat) : Int) / f.2 = (c : Int) := by
    rw [hc, Int.natCast_mul, fa]
    exact Int.mul_ediv_cancel_left _ (by omega)
  have c0 : 0 < c := Nat.pos_of_ne_zero fun z => by
    rw [z, Nat.mul_zero] at hc
    omega
  rw [q] at e
  have g : f.1 * 1 ≤ f.1 * (c : Int) := Int.mul_le_mul_of_nonneg_left (by omega) b
  omega
theorem fits_small {o : Option (List (Option Fr))} (h : Small o) : Fits o := fun rs e hg => by
  obtain ⟨l24, sz⟩ := h rs e
  have es := all_some hg
  have fr : ∀ f ∈ rs.filterMap id, 0 < f.2 ∧ f.2.natAbs < 2 ^ 62 ∧ f.1.natAbs < 2 ^ 62 := fun f hf => by
    have m : some f ∈ rs := by rw [es]; exact List.mem_map.mpr ⟨f, hf, rfl⟩
    have z := List.all_eq_true.mp hg _ m
    change ((decide (0 < f.2) && (Nat.gcd f.1.natAbs f.2.natAbs == 1)) && decide (0 ≤ f.1)) = true at z
    rw [Bool.and_eq_true, Bool.and_eq_true] at z
    obtain ⟨a1, a2⟩ := sz f m
    exact ⟨of_decide_eq_true z.1.1, a2, a1⟩
  have fl : (rs.filterMap id).length ≤ 24 := Nat.le_trans (List.length_filterMap_le _ _) l24
  exact ⟨lcmAll (rs.filterMap id), lcmAll_pos fr, pow_mono (lcmAll_lt fr fl) (by decide), fun f hf => ⟨(fr f hf).1, dvd_lcmAll hf, pow_mono (fr f hf).2.2 (by decide)⟩, fl⟩
/-- what stands in the heap all along -/
structure Wd (K : PySem.W.Frag) (C p y mv R : Addr) (us : List V) (b : Addr) (many : Nat) (ms : List Mv) (fs : List Fr) (H : Hp) : Prop where
  hand : HandAt H p
  sys : SysAt K C H y many ms
  mvs : MvsAt K H mv ms
  lst : H R = some (.lst us)
  rows : RowsL K H us (stepsF many ms)
  spr : FrTA K H b fs
theorem Wd.same {K : PySem.W.Frag} {C p y mv R : Addr} {us : List V} {b : Addr} {many : Nat} {ms : List Mv} {fs : List Fr} {H H' : Hp} (w : Wd K C p y mv R us b many ms fs H) (s : Same H H') : Wd K C p y mv R us b many ms fs H' := ⟨w.hand.same s, w.sys.same s, w.mvs.same s, s _ _ w.lst, w.rows.same s, w.spr.same s⟩
theorem Wd.stp {K : PySem.W.Frag} {C p y mv R : Addr} {us : List V} {b : Addr} {many : Nat} {ms : List Mv} {fs : List Fr} {H H' : Hp} (w : Wd K C p y mv R us b many ms fs H) (s : Stp p H H') : Wd K C p y mv R us b many ms fs H' := ⟨s.hand, s.sys w.hand w.sys, s.mvs w.hand w.mvs, s.lst w.hand w.lst, s.rows w.hand w.rows, by
  obtain ⟨xs, h1, h2⟩ := w.spr
  exact ⟨xs, s.sqT w.hand h1, s.fr w.hand h2⟩⟩
section
variable {P : Program} {w : World} {K : PySem.W.Frag} {mg : Str → Option Value} {base : Heap}
def spLaw (K : PySem.W.Frag) : Sp := fun vs H Q _ => ∃ (a : Addr) (ns : List Int), vs = [.ref a] ∧ SqL K H a (ns.map V.int) ∧ ns.length ≤ 63 ∧ ∀ H', Q (.bl true) H'
abbrev nLaw : List Str := ["_law_script", "_law_hand_here", "_law_turn", "_law_many", "_law_moves_here", "_law_system", "_law_rows", "_law_begin", "_law_depth", "_law_more", "_law_due", "_law_step", "_law_told", "_law_few", "_law_again", "_law_thing", "_law_flag", "_law_row"]
theorem scLaw : FnScope nLaw ["_law_script"] (defScope s_law) := ⟨rfl, rfl, rfl, by decide +kernel, rfl, by decide +kernel, by decide +kernel⟩
theorem ok_law {f : Addr} {fd : FuncData} {fcHand : Addr} {fdcHand : FuncData} {fcSize : Addr} {fdcSize : FuncData} {fcMoves : Addr} {fdcMoves : FuncData} {fcSys : Addr} {fdcSys : FuncData} {fcStepsL : Addr} {fdcStepsL : FuncData} {fcSteps : Addr} {fdcSteps : FuncData} {fcSome : Addr} {fdcSome : FuncData} {fA : Addr} {fdA : FuncData} {fD : Addr} {fdD : FuncData} {fcNext : Addr} {fdcNext : FuncData} {fcBehS : Addr} {fdcBehS : FuncData} {fcByRows : Addr} {fdcByRows : FuncData} {fcBent : Addr} {fdcBent : FuncData} {fcSpread : Addr} {fdcSpread : FuncData} {fcIsSprL : Addr} {fdcIsSprL : FuncData} {C : Addr} (F : Fun K "law" "law" s_law f fd) (T : NmA mg) (cHand : Cl P w K mg base CX0 1 "_law_hand" fcHand fdcHand ["_law_script"] (spHand K)) (cSize : Cl P w K mg base CX0 3 "_law_size" fcSize fdcSize ["_law_hand_here"] spSize) (cMoves : Cl P w K mg base CX0 36 "_law_moves" fcMoves fdcMoves ["_law_hand_here", "_law_many", "_law_most"] (spMovesN K)) (McSys : Mk K C fcSys) (GcSys : FnOk P w K mg base CX0 5 fcSys fdcSys ["self", "many", "moves"] (spSInit K C)) (BcSys : Binds K fdcSys ["self", "many", "moves"] []) (YcSys : SysT K mg C) (cStepsL : Cl P w K mg base CX0 36 "_law_steps" fcStepsL fdcStepsL ["_law_many", "_law_moves_here"] (spStepsL K)) (cSteps : Cl P w K mg base CX0 35 "steps" fcSteps fdcSteps ["system"] (spSteps K C)) (cSome : Cl P w K mg base CX0 35 "_law_some_spread" fcSome fdcSome ["_law_hand_here", "_law_many"] (spSome K)) (A : Cl P w K mg base CX0 2 "_law_any" fA fdA ["_law_hand_here", "_law_things"] (spAny K)) (D : Cl P w K mg base CX0 1 "_law_draw" fD fdD ["_law_hand_here", "_law_many"] spDraw) (cNext : Cl P w K mg base CX0 37 "_law_next" fcNext fdcNext ["_law_rows", "_law_here_now"] (spNext K)) (cBehS : Cl P w K mg base CX0 37 "spread_behind" fcBehS fdcBehS ["system", "spread", "depth"] (spBehS K C)) (cByRows : Cl P w K mg base CX0 36 "_law_by_rows" fcByRows fdcByRows ["_law_many", "_law_moves_here", "_law_here_now", "_law_depth"] (spByRows K)) (cBent : Cl P w K mg base CX0 3 "_law_bent" fcBent fdcBent ["_law_hand_here", "_law_here_now"] (spBent K)) (cSpread : Cl P w K mg base CX0 36 "is_spread" fcSpread fdcSpread ["many", "thing"] (spSpread K)) (cIsSprL : Cl P w K mg base CX0 37 "_law_is_spread" fcIsSprL fdcIsSprL ["_law_many", "_law_thing"] (spIsSprL K)) : FnOk P w K mg base CX0 38 f fd ["_law_script"] (spLaw K) := by
  refine F.ok scLaw (fun vs H Q E h => ?_) (fun cdv A' outer s H vs Q E hr h => ?_)
  · obtain ⟨a, ns, rfl, _⟩ := h
    rfl
  · obtain ⟨a, ns, rfl, hN, h63, k⟩ := h
    have hu := hu_of hr
    refine ⟨_, pss_cons (ps_set (i := 1) scLaw.nd rfl (Or.inl rfl) (cHand.call (hr.mono (by decide)) (pa_cons (pv 0) pa_nil)))
      (pss_cons (ps_for PassesOwn.never rfl (pi_range1 (by rfl) T.range (pa_cons pe_int pa_nil)) (pg_name (i := 2) scLaw.nd rfl (Or.inl rfl))
        (pss_cons (ps_set (i := 3) scLaw.nd rfl (Or.inl rfl) (cSize.call (hr.mono (by decide)) (pa_cons (pv 1) pa_nil)))
        (pss_cons (ps_set (i := 4) scLaw.nd rfl (Or.inl rfl) (cMoves.call (hr.mono (by decide)) (pa_cons (pv 1) (pa_cons (pv 3) (pa_cons pe_int pa_nil)))))
        (pss_cons (ps_par (i := 5) (j := 6) (by rfl) scLaw.nd rfl rfl (by decide) rfl rfl (pa_cons (pe_make McSys GcSys (hr.mono (by decide)) (by rfl) YcSys.mgC BcSys .nil pass0 (pa_cons (pv 3) (pa_cons (pv 4) pa_nil))) (pa_cons (cStepsL.call (hr.mono (by decide)) (pa_cons (pv 3) (pa_cons (pv 4) pa_nil))) pa_nil)) (by rfl))
        (pss_cons (ps_if (pt_cmpR (op_neD hr.units) (cSteps.call (hr.mono (by decide)) (pa_cons (pv 5) pa_nil)) (pe_callTy call_tuple_of (by rfl) T.tuple (by decide +kernel) (pa_cons (pe_lc (own := [("_law_row", 17)]) (g := (gName 17)) (tt := tYes) rfl scLaw.nd  (pi_list (pv 6)) (blkOk_by (own := [("_law_row", 17)]) (N := nLaw) (sc := defScope s_law) (by decide +kernel)) (fun _ _ _ _ _ => (pg_name (i := 17) scLaw.nd rfl (Or.inl rfl))) (fun _ _ _ _ _ => pts_nil) (fun _ _ _ _ _ => (pe_callTy (r := rTupOf K) (show CallR _ (.type "tuple") (rTupOf K) from call_tuple_of) (by rfl) T.tuple (by decide +kernel) (pa_cons (pv 17) pa_nil)))) pa_nil)) (nomark _))
          (pss_one (ps_ret pe_bl)) pss_nil)
        (pss_cons (ps_set (i := 7) scLaw.nd rfl (Or.inl rfl) (cSome.call (hr.mono (by decide)) (pa_cons (pv 1) (pa_cons (pv 3) pa_nil))))
        (pss_cons (ps_par (i := 8) (j := 9) (by rfl) scLaw.nd rfl rfl (by decide) rfl rfl (pa_cons (A.call (hr.mono (by decide)) (pa_cons (pv 1) (pa_cons (pe_lst (pa_cons pe_int (pa_cons pe_int (pa_cons pe_int (pa_cons pe_int (pa_cons pe_int (pa_cons pe_int pa_nil))))))) pa_nil))) (pa_cons (A.call (hr.mono (by decide)) (pa_cons (pv 1) (pa_cons (pe_lst (pa_cons pe_int (pa_cons pe_int (pa_cons pe_int pa_nil)))) pa_nil))) pa_nil)) (by rfl))
        (Evl.pss_cut (ps_if (pt_cmpR op_eq (D.call (hr.mono (by decide)) (pa_cons (pv 1) (pa_cons pe_int pa_nil))) pe_int (nomark _))
          (pss_one (ps_set (i := 8) scLaw.nd rfl (Or.inl rfl) (A.call (hr.mono (by decide)) (pa_cons (pv 1) (pa_cons (pe_lst (pa_cons pe_int (pa_cons pe_int (pa_cons (pe_op op_sub pe_int (pv 9)) pa_nil)))) pa_nil))))) pss_nil)
        (pss_cons (ps_set (i := 10) scLaw.nd rfl (Or.inl rfl) (pv 7))
        (pss_cons (ps_for PassesOwn.never rfl (pi_range1 (by rfl) T.range (pa_cons (pv 8) pa_nil)) (pg_name (i := 11) scLaw.nd rfl (Or.inl rfl))
          (pss_one (ps_set (i := 10) scLaw.nd rfl (Or.inl rfl) (cNext.call (hr.mono (by decide)) (pa_cons (pv 6) (pa_cons (pv 10) pa_nil))))))
        (pss_cons (ps_set (i := 12) scLaw.nd rfl (Or.inl rfl) (cBehS.call (hr.mono (by decide)) (pa_cons (pv 5) (pa_cons (pv 7) (pa_cons (pv 8) pa_nil)))))
        (pss_cons (ps_if (PW.pt (pw_or (pt_cmpR (op_neD hr.units) (pv 12) (pv 10) (nomark _)) (pw_or1 (pt_cmpR (op_neD hr.units) (cBehS.call (hr.mono (by decide)) (pa_cons (pv 5) (pa_cons (pv 7) (pa_cons (pe_op op_add (pv 8) (pv 9)) pa_nil)))) (cBehS.call (hr.mono (by decide)) (pa_cons (pv 5) (pa_cons (pv 12) (pa_cons (pv 9) pa_nil)))) (nomark _)))))
          (pss_one (ps_ret pe_bl)) pss_nil)
        (pss_cons (ps_set (i := 13) scLaw.nd rfl (Or.inl rfl) (pe_callB (call_min2 rfl) (by rfl) T.min (by decide +kernel) (pa_cons (pv 8) (pa_cons pe_int pa_nil))))
        (Evl.pss_cut (ps_if (PW.pt (pw_and (pt_cmpR op_lt (pv 3) pe_int (nomark _)) (pw_and1 (pt_cmpR (op_neD hr.units) (cByRows.call (hr.mono (by decide)) (pa_cons (pv 3) (pa_cons (pv 4) (pa_cons (pv 7) (pa_cons (pv 13) pa_nil))))) (cBehS.call (hr.mono (by decide)) (pa_cons (pv 5) (pa_cons (pv 7) (pa_cons (pv 13) pa_nil)))) (nomark _)))))
          (pss_one (ps_ret pe_bl)) pss_nil)
        (pss_one (ps_for PassesOwn.never rfl (pi_range1 (by rfl) T.range (pa_cons pe_int pa_nil)) (pg_name (i := 14) scLaw.nd rfl (Or.inl rfl))
          (pss_cons (ps_set (i := 15) scLaw.nd rfl (Or.inl rfl) (pe_ifExp (pt_cmpR op_gt (pv 14) pe_int (nomark _)) (cBent.call (hr.mono (by decide)) (pa_cons (pv 1) (pa_cons (pv 7) pa_nil))) (pv 7)))
          (pss_cons (ps_set (i := 16) scLaw.nd rfl (Or.inl rfl) (cSpread.call (hr.mono (by decide)) (pa_cons (pv 3) (pa_cons (pv 15) pa_nil))))
          (pss_one (ps_if (PW.pt (pw_or (pt_not (pt_val (pe_callB call_isi (by rfl) T.isi (by decide +kernel) (pa_cons (pv 16) (pa_cons (pe_bltn (v := .ty "bool") (u := .type "bool") (by rfl) T.bool (by decide +kernel) rfl) pa_nil))))) (pw_or1 (pt_cmpR op_ne (pv 16) (cIsSprL.call (hr.mono (by decide)) (pa_cons (pv 3) (pa_cons (pv 15) pa_nil))) (nomark _)))))
            (pss_one (ps_ret pe_bl)) pss_nil))))))))))))))))))))
      (pss_one (ps_ret pe_bl))), ?_⟩
    refine ⟨_, rfl, a, ns, rfl, hN, h63, fun p H1 hp s1 hH1 => ?_⟩
    refine ⟨2, rfl, by decide, by decide, ?_⟩
    refine for_range (lo := 0) (n := 2) (fun i σ H' => HandAt H' p ∧ ∃ u2 u3 u4 u5 u6 u7 u8 u9 u10 u11 u12 u13 u14 u15 u16 : Option V, σ = [some (.ref a), some (.ref p), u2, u3, u4, u5, u6, u7, u8, u9, u10, u11, u12, u13, u14, u15, u16, none]) ⟨hH1, _, _, _, _, _, _, _, _, _, _, _, _, _, _, _, rfl⟩ ?_ ?_
    · rintro i σ H2 hi ⟨hH2, u2, u3, u4, u5, u6, u7, u8, u9, u10, u11, u12, u13, u14, u15, u16, rfl⟩
      refine ⟨_, rfl, p, rfl, hH2, fun many H3 m1 m12 S3 => ?_⟩
      refine ⟨_, rfl, _, rfl, p, many, 5, rfl, m1, m12, by decide, by decide, S3.hand, fun mv H4 ms S4 hM mok l5 => ?_⟩
      have hH4 := S4.hand
      have ok := mok.ok
      have b200 : Bm ms < 2 ^ 200 := lcm_200 (fun f hf => by
        obtain ⟨m, hm, rfl⟩ := List.mem_map.mp hf
        obtain ⟨⟨c1, c2, c3⟩, _⟩ := ok.mv m hm
        exact ⟨c1, by have := (mok.lt m hm).2; omega⟩) (by unfold frs; rw [List.length_map]; exact l5)
      have bp := bm_pos ok
      refine ⟨_, rfl, _, rfl, ?_⟩
      intro y dy hy hdy ney
      refine ⟨y, dy, many, mv, ms, rfl, upd_same, hM.same (mk_same0 hy hdy), ok, fun H6 k6 h6 => ⟨rfl, ?_⟩⟩
      have c6 : Same H4 H6 := mk_same hy hdy k6
      have hS6 : SysAt K C H6 y many ms := ⟨dy, mv, h6, hM.same c6⟩
      have hM6 := hM.same c6
      have hH6 := hH4.same c6
      refine ⟨_, rfl, _, rfl, mv, many, ms, rfl, hM6, ok, fun R us H7 s7 hR7 hRL => ?_⟩
      have hS7 := hS6.same s7
      have hM7 := hM6.same s7
      have hH7 := hH6.same s7
      -- steps(system) != tuple([tuple(row) for row in rows])
      refine ⟨_, _, rfl, _, rfl, y, many, ms, rfl, hS7, ok, fun t xs H8 s8 h8 hRI => ?_⟩
      refine ⟨_, rfl, R, rfl, ⟨_, SqL.of (s8 _ _ hR7)⟩, fun D hD => ?_⟩
      have hRL8 := hRL.same s8
      refine lc_list (K := K) (a := R) (xs := us) (fun j H' => Same H8 H' ∧ ∃ acc, H' D = some (.lst acc) ∧ RowsIn K H' acc ((stepsF many ms).take j)) ⟨Same.new hD, [], upd_same, by rw [List.take_zero]; exact RowsIn.nil⟩ (fun j H' _ g => SqL.of (g.1 _ _ (s8 _ _ hR7))) (fun j x H9 hj g => ?_) fun H9 g => ?_
      · obtain ⟨s9, acc, g1, g2⟩ := g
        obtain ⟨fs, e1, l, ys, rfl, e3, e4⟩ := hRL8.2 j x hj
        have jl := (List.getElem?_eq_some_iff.mp e1).1
        have sl : (stepsF many ms).length = many := by unfold stepsF; rw [List.length_map, List.length_range]
        have al : acc.length = j := by rw [g2.1, List.length_take]; omega
        refine ⟨rfl, _, rfl, l, _, rfl, .inl ⟨SqL.of (s9 _ _ e3), fun q hq => ⟨acc, Same.new hq _ _ g1, small1000 (by omega), (s9.trans (Same.new hq)).mut hD, _, upd_same, ?_⟩⟩⟩
        rw [List.take_add_one, e1]
        exact (g2.same (Same.new hq)).snoc (Same.new hq _ _ g1) ⟨q, ys, rfl, SqT.of upd_same, (e4.same s9).same (Same.new hq)⟩
      obtain ⟨s9, acc, g1, g2⟩ := g
      rw [hRL8.1, List.take_length] at g2
      refine ⟨D, _, rfl, .inl ⟨SqL.of g1, fun q hq => ?_⟩⟩
      have s10 := s9.trans (Same.new (o := .tup acc) hq)
      refine ⟨rowsD (stepsF many ms), rowsD (stepsF many ms), dp_rows (s10.sqT (SqT.of h8)) (hRI.same s10), dp_rows (SqT.of upd_same) (g2.same (Same.new hq)), sh_rows _, sh_rows _, _, rfl, ?_⟩
      rw [eqv_rowsD, decide_eq_true rfl]
      refine iteF ?_
      have s7q := ((s7.trans s8).trans s10)
      have hH9 := hH6.same s7q
      have hS9 := hS6.same s7q
      have hM9 := hM6.same s7q
      have hR9 := (s8.trans s10) _ _ hR7
      have hRL9 := hRL8.same s10
      generalize upd H9 q (.tup acc) = H10 at hH9 hS9 hM9 hR9 hRL9 ⊢
      refine ⟨_, rfl, _, rfl, p, many, rfl, hH9, m1, m12, fun b H11 fs S11 hF spr l72 => ?_⟩
      have w11 : Wd K C p y mv R us b many ms fs H11 := ⟨S11.hand, S11.sys hH9 hS9, S11.mvs hH9 hM9, S11.lst hH9 hR9, S11.rows hH9 hRL9, hF⟩
      clear hH9 hS9 hM9 hR9 hRL9 hF hH6 hS6 hM6 hH7 hS7 hM7 hRL8 hRL
      refine ⟨_, rfl, by show 6 ≤ sizeLine; decide, fun q1 hq1 => ⟨p, q1, _, rfl, .inl (SqL.of upd_same), by show 0 < 6; decide, by show 6 < _; decide, w11.hand.same (Same.new hq1), fun j1 x1 H12 hj1 S12 => ?_⟩⟩
      have ex1 : ∃ n : Nat, x1 = .int (n : Int) ∧ n ≤ 6 := by
        have hx := List.mem_of_getElem? hj1
        simp only [List.mem_cons, List.not_mem_nil, or_false] at hx
        rcases hx with rfl | rfl | rfl | rfl | rfl | rfl
        · exact ⟨0, rfl, by decide⟩
        · exact ⟨1, rfl, by decide⟩
        · exact ⟨2, rfl, by decide⟩
        · exact ⟨3, rfl, by decide⟩
        · exact ⟨4, rfl, by decide⟩
        · exact ⟨6, rfl, by decide⟩
      obtain ⟨n0, rfl, n6⟩ := ex1
      have w12 := (w11.same (Same.new hq1)).stp S12
      refine ⟨_, rfl, by show 3 ≤ sizeLine; decide, fun q2 hq2 => ⟨p, q2, _, rfl, .inl (SqL.of upd_same), by show 0 < 3; decide, by show 3 < _; decide, w12.hand.same (Same.new hq2), fun j2 x2 H13 hj2 S13 => ?_⟩⟩
      have ex2 : ∃ n : Nat, x2 = .int (n : Int) ∧ n ≤ 3 := by
        have hx := List.mem_of_getElem? hj2
        simp only [List.mem_cons, List.not_mem_nil, or_false] at hx
        rcases hx with rfl | rfl | rfl
        · exact ⟨0, rfl, by decide⟩
        · exact ⟨1, rfl, by decide⟩
        · exact ⟨3, rfl, by decide⟩
      obtain ⟨m, rfl, m3⟩ := ex2
      have w13 := (w12.same (Same.new hq2)).stp S13
      refine ⟨_, _, rfl, ?_⟩
      refine ⟨fun σ' H' => Wd K C p y mv R us b many ms fs H' ∧ ∃ n : Nat, n + m ≤ 60 ∧ σ' = [some (.ref a), some (.ref p), some (.int (0 + (i : Int))), some (.int (many : Int)), some (.ref mv), some (.ref y), some (.ref R), some (.ref b), some (.int (n : Int)), some (.int (m : Int)), u10, u11, u12, u13, u14, u15, u16, none], ?_, ?_⟩
      · refine ⟨_, rfl, p, 10, rfl, by decide, by decide, w13.hand, fun d0 H14 d1 d2 S14 => ⟨rfl, _, rfl, ite2 (fun _ => ?_) (fun _ => ⟨w13.stp S14, n0, by omega, rfl⟩)⟩⟩
        have w14 := w13.stp S14
        refine ⟨_, rfl, _, rfl, _, _, rfl, rfl, by show 3 ≤ sizeLine; decide, fun q3 hq3 => ⟨p, q3, _, rfl, .inl (SqL.of upd_same), by show 0 < 3; decide, by show 3 < _; decide, w14.hand.same (Same.new hq3), fun j3 x3 H15 hj3 S15 => ?_⟩⟩
        have ex3 : ∃ n : Nat, x3 = .int (n : Int) ∧ n + m ≤ 60 := by
          have hx := List.mem_of_getElem? hj3
          simp only [List.mem_cons, List.not_mem_nil, or_false] at hx
          rcases hx with rfl | rfl | rfl
          · exact ⟨30, rfl, by omega⟩
          · exact ⟨57, rfl, by omega⟩
          · exact ⟨60 - m, congrArg V.int (by omega), by omega⟩
        obtain ⟨n, rfl, n60⟩ := ex3
        exact ⟨(w14.same (Same.new hq3)).stp S15, n, n60, rfl⟩
      rintro σ' H15 ⟨w15, n, n60, rfl⟩
      clear w11 w12 w13
      have big : ∀ j, j ≤ 60 → lcmAll fs * Bm ms ^ j < 2 ^ 12100 := fun j hj => by
        have z1 : Bm ms ^ j ≤ (2 ^ 200) ^ 60 := Nat.le_trans (Nat.pow_le_pow_left (Nat.le_of_lt b200) j) (Nat.pow_le_pow_right (by decide) hj)
        rw [← Nat.pow_mul] at z1
        have z2 : lcmAll fs * Bm ms ^ j ≤ 2 ^ 7 * 2 ^ (200 * 60) := Nat.mul_le_mul (by omega) z1
        rw [← Nat.pow_add] at z2
        exact Nat.lt_of_le_of_lt z2 (Nat.pow_lt_pow_right (by decide) (by decide))
      have bg : ∀ j, j ≤ 60 → lcmAll fs * Bm ms ^ j < 2 ^ 13000 := fun j hj => pow_mono (big j hj) (by decide)
      have G0 : ∀ s o, 0 ≤ cellF (tsM ms) (ms.map (·.2)) s o := cell_nn (ts_nn ok)
      refine ⟨_, rfl, ?_⟩
      refine ⟨_, rfl, (n : Int), rfl, by omega, by omega, ?_⟩
      rw [Int.toNat_natCast]
      refine for_range (lo := 0) (n := n) (fun j σ H' => Wd K C p y mv R us b many ms fs H' ∧ ∃ (e : Addr) (xs : List V) (v11 : Option V), SqT K H' e xs ∧ FrsIn K H' xs (behF many ms fs j) ∧ σ = [some (.ref a), some (.ref p), some (.int (0 + (i : Int))), some (.int (many : Int)), some (.ref mv), some (.ref y), some (.ref R), some (.ref b), some (.int (n : Int)), some (.int (m : Int)), some (.ref e), v11, u12, u13, u14, u15, u16, none]) ⟨w15, ?_⟩ ?_ ?_
      · obtain ⟨xs, h1, h2⟩ := w15.spr
        refine ⟨b, xs, u11, h1, ?_, rfl⟩
        rw [beh_zero ok spr]
        exact h2
      · rintro j σ H' hj ⟨w, e, xs, v11, hS, hF, rfl⟩
        refine ⟨_, rfl, _, rfl, R, e, us, xs, many, behT many ms fs j, cellF (tsM ms) (ms.map (·.2)), lcmAll fs * Bm ms ^ j, Bm ms, rfl, w.lst, w.rows, hS, hF, m12, Nat.mul_pos spr.lpos (Nat.pow_pos bp), bp, bg j (by omega), pow_mono b200 (by decide), fun s hs => ⟨beh_nn ok spr j s, beh_le ok spr hs⟩, fun s o hs ho => ⟨G0 s o, cell_le ok hs ho⟩, fun o ho => ?_, fun t xs' H'' s h hF' => ⟨w.same s, t, xs', _, SqT.of h, ?_, rfl⟩⟩
        · show (behT many ms fs (j + 1) o).natAbs < 2 ^ 26000
          exact wide_le (beh_nn ok spr (j + 1) o) (beh_le ok spr ho) (by rw [Int.natAbs_natCast]; exact pow_mono (bg (j + 1) (by omega)) (by decide))
        · refine (congrArg (fun z => FrsIn K H'' xs' z) (List.map_congr_left fun o _ => ?_)).mp hF'
          rw [Nat.mul_assoc, ← Nat.pow_succ] <;> rfl
      rintro σ H16 ⟨w16, e, xs, v11, hS, hF, rfl⟩
      refine ⟨_, rfl, _, rfl, _, rfl, y, b, n, many, ms, fs, rfl, w16.sys, ok, w16.spr, spr, by omega, bg n (by omega), fun t1 ys1 H17 s17 g17 F17 => ?_⟩
      have w17 := w16.same s17
      have told : FrTA K H17 t1 (behF many ms fs n) := ⟨ys1, SqT.of g17, F17⟩
      refine ⟨_, rfl, _, rfl, frsD (behF many ms fs n), frsD (behF many ms fs n), dp_frs (SqT.of g17) F17, dp_frs (s17.sqT hS) (hF.same s17), sh_frs _, sh_frs _, _, rfl, ?_⟩
      rw [eqv_frsD, decide_eq_true rfl]
      refine iteF ⟨_, rfl, _, rfl, _, rfl, _, rfl, _, _, rfl, rfl, y, b, n + m, many, ms, fs, rfl, w17.sys, ok, w17.spr, spr, n60, bg (n + m) n60, fun t2 ys2 H18 s18 g18 F18 => ?_⟩
      have w18 := w17.same s18
      refine ⟨_, rfl, _, rfl, _, rfl, y, t1, m, many, ms, behF many ms fs n, rfl, w18.sys, ok, told.same s18, beh_spr ok spr n, by omega, ?_, fun t3 ys3 H19 s19 g19 F19 => ?_⟩
      · have z := Nat.le_of_dvd (Nat.mul_pos spr.lpos (Nat.pow_pos bp)) (beh_lcm ok spr n)
        refine Nat.lt_of_le_of_lt (Nat.mul_le_mul_right _ z) ?_
        rw [Nat.mul_assoc, ← Nat.pow_add]
        exact bg (n + m) n60
      have w19 := w18.same s19
      rw [beh_more ok spr] at F19
      refine ⟨frsD (behF many ms fs (n + m)), frsD (behF many ms fs (n + m)), dp_frs (s19.sqT (SqT.of g18)) (F18.same s19), dp_frs (SqT.of g19) F19, sh_frs _, sh_frs _, _, rfl, ?_⟩
      rw [eqv_frsD, decide_eq_true rfl]
      refine iteF ?_
      refine ⟨_, rfl, _, _, rfl, ?_⟩
      have few : (if (3 : Int) < (n : Int) then (3 : Int) else (n : Int)) = ((min n 3 : Nat) : Int) := by
        by_cases z : 3 < n
        · rw [if_pos (by omega)]
          omega
        · rw [if_neg (by omega)]
          omega
      rw [few]
      clear hS hF told g17 F17 g18 F18 g19 F19
      refine ⟨fun σ' H' => Wd K C p y mv R us b many ms fs H' ∧ ∃ v10 v11 v12 v13 : Option V, σ' = [some (.ref a), some (.ref p), some (.int (0 + (i : Int))), some (.int (many : Int)), some (.ref mv), some (.ref y), some (.ref R), some (.ref b), some (.int (n : Int)), some (.int (m : Int)), v10, v11, v12, v13, u14, u15, u16, none], ?_, ?_⟩
      · refine ⟨_, rfl, _, _, rfl, rfl, _, rfl, ite2 (fun _ => ?_) (fun _ => ⟨w19, _, _, _, _, rfl⟩)⟩
        refine ⟨_, rfl, _, rfl, _, rfl, _, rfl, mv, b, many, min n 3, ms, fs, rfl, w19.mvs, ok, l5, w19.spr, spr, Nat.min_le_right _ _, l72, b200, fun t4 ys4 H20 s20 g20 F20 => ?_⟩
        have w20 := w19.same s20
        refine ⟨_, rfl, _, rfl, _, rfl, y, b, min n 3, many, ms, fs, rfl, w20.sys, ok, w20.spr, spr, by omega, bg _ (by omega), fun t5 ys5 H21 s21 g21 F21 => ?_⟩
        refine ⟨frsD (behF many ms fs (min n 3)), frsD (behF many ms fs (min n 3)), dp_frs (s21.sqT (SqT.of g20)) (F20.same s21), dp_frs (SqT.of g21) F21, sh_frs _, sh_frs _, _, rfl, ?_⟩
        rw [eqv_frsD, decide_eq_true rfl]
        exact iteF ⟨w20.same s21, _, _, _, _, rfl⟩
      rintro σ' H20 ⟨w20, v10, v11, v12, v13, rfl⟩
      refine ⟨5, rfl, by decide, by decide, ?_⟩
      refine for_range (lo := 0) (n := 5) (fun j σ H' => Wd K C p y mv R us b many ms fs H' ∧ ∃ v14 v15 v16 : Option V, σ = [some (.ref a), some (.ref p), some (.int (0 + (i : Int))), some (.int (many : Int)), some (.ref mv), some (.ref y), some (.ref R), some (.ref b), some (.int (n : Int)), some (.int (m : Int)), v10, v11, v12, v13, v14, v15, v16, none]) ⟨w20, _, _, _, rfl⟩ ?_ ?_
      · rintro j σ H' hj ⟨w, v14, v15, v16, rfl⟩
        refine ⟨_, rfl, _, _, rfl, rfl, _, rfl, ite2 (fun _ => ?_) (fun _ => ?_)⟩
        refine ⟨_, rfl, _, rfl, p, b, many, fs, rfl, w.hand, w.spr, spr, m1, m12, l72, fun x H2 o S2 hT => ?_⟩
        have w2 := w.stp S2
        obtain ⟨tA, tS⟩ := hT.thing
        rotate_left
        have two : ∃ (x : V) (H2 : Hp) (o : Option (List (Option Fr))), x = .ref b ∧ H2 = H' ∧ Wd K C p y mv R us b many ms fs H2 ∧ ThingAt K H2 x o ∧ Small o := ⟨.ref b, H', some (fs.map some), rfl, rfl, w, w.spr.thing, fun rs e => by
          have e := Option.some.inj e
          subst e
          refine ⟨by rw [List.length_map, spr.len]; omega, fun f hf => ?_⟩
          obtain ⟨g, hg, eg⟩ := List.mem_map.mp hf
          have eg := Option.some.inj eg
          subst eg
          exact spr_small spr l72 g hg⟩
        obtain ⟨x, H2, o, ex, eH, w2, tA, tS⟩ := two
        rw [← eH]
        refine ⟨_, rfl, ?_⟩
        rw [← ex]
        all_goals
          refine ⟨_, rfl, _, rfl, many, x, o, rfl, tA, fun rs e => by have := (tS rs e).1; omega, fits_small tS, fun H3 s3 => ?_⟩
          have kb : PySem.W.kitOne K (.type "bool") (.type "bool") = some true := kit_ty (by decide +kernel)
          refine ⟨_, rfl, _, _, _, _, _, rfl, .ty "bool", .base (.bl _), kb, _, rfl, iteF ⟨_, rfl, _, rfl, _, rfl, many, x, o, rfl, tA.same s3, tS, fun H4 s4 => ⟨rfl, _, rfl, ?_⟩⟩⟩
          rw [decide_eq_true rfl]
          exact iteF ⟨(w2.same s3).same s4, _, _, _, rfl⟩
      · rintro σ H' ⟨w, v14, v15, v16, rfl⟩
        exact ⟨w.hand, _, _, _, _, _, _, _, _, _, _, _, _, _, _, _, rfl⟩
    · rintro σ H2 ⟨hH2, u2, u3, u4, u5, u6, u7, u8, u9, u10, u11, u12, u13, u14, u15, u16, rfl⟩
      exact k H2
end
end Law

set_option maxHeartbeats 0
namespace Law
open PySem PySem.Spec PyProof.Rows L2
theorem ba3 {a b : Bool} (h : (a && b) = true) : a = true ∧ b = true := Bool.and_eq_true_iff.mp h
theorem optT_ok {o : Option Bool} (h : optT o = true) : o = some true := by
  cases o with
  | none => cases h
  | some b =>
    cases b with
    | true => rfl
    | false => cases h
section
variable {P : Program} {w : World} {K : PySem.W.Frag} {h : Heap} {mg : Str → Option Value} {base : Heap}
theorem facts {f : Addr} (tr : P.given.tree = none) (X : K.In h) (G : h.Ns mainGlobals mg) (hfa : mg ("law" : Str) = some (.ref f)) (c : He.SaysD fas fns K) (e : exK K = true) :
    ∃ fd : FuncData, (∀ (s : Shared) (v : Value), BindsTo s fd ⟨[v], []⟩ [("_law_script", v)]) ∧ ∀ base : Heap, K.In base → base.Ns mainGlobals mg → FnOk P w K mg base CX0 38 f fd ["_law_script"] (spLaw K) := by
  have eL := hfa.symm.trans (He.glo_ok X G (c.fact 37 (f := .glo "law") rfl))
  cases eL
  obtain ⟨e1, e5⟩ := ba3 e
  obtain ⟨e5, e6⟩ := ba3 e5
  obtain ⟨x1, x2⟩ := ba3 e5
  obtain ⟨x2, x3⟩ := ba3 x2
  obtain ⟨x3, x4⟩ := ba3 x3
  obtain ⟨y1, y2⟩ := ba3 e1
  have T : NmA mg := ⟨He.free_ok X G (c.fact 39 (f := .free "abs") rfl), He.free_ok X G (c.fact 40 (f := .free "all") rfl), He.free_ok X G (c.fact 41 (f := .free "bool") rfl), He.free_ok X G (c.fact 42 (f := .free "enumerate") rfl), He.free_ok X G (c.fact 43 (f := .free "int") rfl), He.free_ok X G (c.fact 44 (f := .free "isinstance") rfl), He.free_ok X G (c.fact 45 (f := .free "len") rfl), He.free_ok X G (c.fact 46 (f := .free "list") rfl), He.free_ok X G (c.fact 47 (f := .free "min") rfl), He.free_ok X G (c.fact 48 (f := .free "range") rfl), He.free_ok X G (c.fact 49 (f := .free "sum") rfl), He.free_ok X G (c.fact 50 (f := .free "tuple") rfl), He.free_ok X G (c.fact 51 (f := .free "zip") rfl), PySem.W.mg_of X G (He.eqO_ok y1), PySem.W.mg_of X G (He.eqO_ok y2)⟩
  have Y : SysT K mg (He.ga K "System") := ⟨He.cls_ok (c.fact 52 (f := .cls "System") rfl), He.noat_ok (c.fact 53 (f := .noat "System" "many") rfl), He.noat_ok (c.fact 54 (f := .noat "System" "moves") rfl), He.glo_ok X G (c.fact 12 (f := .glo "System") rfl), He.eqO_ok x1, He.eqO_ok x2, optT_ok x3, optT_ok x4⟩
  obtain ⟨fd_law, F_law⟩ := c.def_ 37 rfl
  have FD_law := F_law
  have F_law := funD_fun (st := s_law) F_law
  have B_law := F_law.binds (ps := ["_law_script"]) fun _ _ _ _ _ _ us hl => match us, hl with | [_], _ => rfl
  have M_law := He.glo_ok X G (c.fact 37 (f := .glo "law") rfl)
  obtain ⟨fd__law_hand, F__law_hand⟩ := c.def_ 18 rfl
  have FD__law_hand := F__law_hand
  have F__law_hand := funD_fun (st := s_law_hand) F__law_hand
  have B__law_hand := F__law_hand.binds (ps := ["_law_script"]) fun _ _ _ _ _ _ us hl => match us, hl with | [_], _ => rfl
  have M__law_hand := He.glo_ok X G (c.fact 18 (f := .glo "_law_hand") rfl)
  obtain ⟨fd__law_size, F__law_size⟩ := c.def_ 28 rfl
  have FD__law_size := F__law_size
  have F__law_size := funD_fun (st := s_law_size) F__law_size
  have B__law_size := F__law_size.binds (ps := ["_law_hand_here"]) fun _ _ _ _ _ _ us hl => match us, hl with | [_], _ => rfl
  have M__law_size := He.glo_ok X G (c.fact 28 (f := .glo "_law_size") rfl)
  obtain ⟨fd__law_draw, F__law_draw⟩ := c.def_ 19 rfl
  have FD__law_draw := F__law_draw
  have F__law_draw := funD_fun (st := s_law_draw) F__law_draw
  have B__law_draw := F__law_draw.binds (ps := ["_law_hand_here", "_law_many"]) fun _ _ _ _ _ _ us hl => match us, hl with | [_, _], _ => rfl
  have M__law_draw := He.glo_ok X G (c.fact 19 (f := .glo "_law_draw") rfl)
  obtain ⟨fd__law_any, F__law_any⟩ := c.def_ 20 rfl
  have FD__law_any := F__law_any
  have F__law_any := funD_fun (st := s_law_any) F__law_any
  have B__law_any := F__law_any.binds (ps := ["_law_hand_here", "_law_things"]) fun _ _ _ _ _ _ us hl => match us, hl with | [_, _], _ => rfl
  have M__law_any := He.glo_ok X G (c.fact 20 (f := .glo "_law_any") rfl)
  obtain ⟨fd__law_moves, F__law_moves⟩ := c.def_ 27 rfl
  have FD__law_moves := F__law_moves
  have F__law_moves := funD_fun (st := s_law_moves) F__law_moves
  have B__law_moves := F__law_moves.binds (ps := ["_law_hand_here", "_law_many", "_law_most"]) fun _ _ _ _ _ _ us hl => match us, hl with | [_, _, _], _ => rfl
  have M__law_moves := He.glo_ok X G (c.fact 27 (f := .glo "_law_moves") rfl)
  obtain ⟨fd__law_shares, F__law_shares⟩ := c.def_ 25 rfl
  have FD__law_shares := F__law_shares
  have F__law_shares := funD_fun (st := s_law_shares) F__law_shares
  have B__law_shares := F__law_shares.binds (ps := ["_law_hand_here", "_law_many"]) fun _ _ _ _ _ _ us hl => match us, hl with | [_, _], _ => rfl
  have M__law_shares := He.glo_ok X G (c.fact 25 (f := .glo "_law_shares") rfl)
  obtain ⟨fd__law_low, F__law_low⟩ := c.def_ 21 rfl
  have FD__law_low := F__law_low
  have F__law_low := funD_fun (st := s_law_low) F__law_low
  have B__law_low := F__law_low.binds (ps := ["_law_top", "_law_bottom"]) fun _ _ _ _ _ _ us hl => match us, hl with | [_, _], _ => rfl
  have M__law_low := He.glo_ok X G (c.fact 21 (f := .glo "_law_low") rfl)
  obtain ⟨fd__law_leads, F__law_leads⟩ := c.def_ 26 rfl
  have FD__law_leads := F__law_leads
  have F__law_leads := funD_fun (st := s_law_leads) F__law_leads
  have B__law_leads := F__law_leads.binds (ps := ["_law_hand_here", "_law_many"]) fun _ _ _ _ _ _ us hl => match us, hl with | [_, _], _ => rfl
  have M__law_leads := He.glo_ok X G (c.fact 26 (f := .glo "_law_leads") rfl)
  obtain ⟨fd_System___init__, F_System___init__⟩ := c.def_ 11 rfl
  have FD_System___init__ := F_System___init__
  have F_System___init__ := funD_fun (st := s_System_init) F_System___init__
  have B_System___init__ := F_System___init__.binds (ps := ["self", "many", "moves"]) fun _ _ _ _ _ _ us hl => match us, hl with | [_, _, _], _ => rfl
  obtain ⟨fd_is_within, F_is_within⟩ := c.def_ 1 rfl
  have FD_is_within := F_is_within
  have F_is_within := funD_fun (st := s_is_within) F_is_within
  have B_is_within := F_is_within.binds (ps := ["low", "high", "thing"]) fun _ _ _ _ _ _ us hl => match us, hl with | [_, _, _], _ => rfl
  have M_is_within := He.glo_ok X G (c.fact 1 (f := .glo "is_within") rfl)
  obtain ⟨fd_is_integer, F_is_integer⟩ := c.def_ 0 rfl
  have FD_is_integer := F_is_integer
  have F_is_integer := funD_fun (st := s_is_integer) F_is_integer
  have B_is_integer := F_is_integer.binds (ps := ["thing"]) fun _ _ _ _ _ _ us hl => match us, hl with | [_], _ => rfl
  have M_is_integer := He.glo_ok X G (c.fact 0 (f := .glo "is_integer") rfl)
  obtain ⟨fd_is_move, F_is_move⟩ := c.def_ 13 rfl
  have FD_is_move := F_is_move
  have F_is_move := funD_fun (st := s_is_move) F_is_move
  have B_is_move := F_is_move.binds (ps := ["many", "thing"]) fun _ _ _ _ _ _ us hl => match us, hl with | [_, _], _ => rfl
  have M_is_move := He.glo_ok X G (c.fact 13 (f := .glo "is_move") rfl)
  obtain ⟨fd_is_fraction, F_is_fraction⟩ := c.def_ 3 rfl
  have FD_is_fraction := F_is_fraction
  have F_is_fraction := funD_fun (st := s_is_fraction) F_is_fraction
  have B_is_fraction := F_is_fraction.binds (ps := ["thing"]) fun _ _ _ _ _ _ us hl => match us, hl with | [_], _ => rfl
  have M_is_fraction := He.glo_ok X G (c.fact 3 (f := .glo "is_fraction") rfl)
  obtain ⟨fd_is_row_below, F_is_row_below⟩ := c.def_ 2 rfl
  have FD_is_row_below := F_is_row_below
  have F_is_row_below := funD_fun (st := s_is_row_below) F_is_row_below
  have B_is_row_below := F_is_row_below.binds (ps := ["bound", "thing"]) fun _ _ _ _ _ _ us hl => match us, hl with | [_, _], _ => rfl
  have M_is_row_below := He.glo_ok X G (c.fact 2 (f := .glo "is_row_below") rfl)
  obtain ⟨fd_are_one_together, F_are_one_together⟩ := c.def_ 7 rfl
  have FD_are_one_together := F_are_one_together
  have F_are_one_together := funD_fun (st := s_are_one_together) F_are_one_together
  have B_are_one_together := F_are_one_together.binds (ps := ["fractions"]) fun _ _ _ _ _ _ us hl => match us, hl with | [_], _ => rfl
  have M_are_one_together := He.glo_ok X G (c.fact 7 (f := .glo "are_one_together") rfl)
  obtain ⟨fd_common_bottom, F_common_bottom⟩ := c.def_ 5 rfl
  have FD_common_bottom := F_common_bottom
  have F_common_bottom := funD_fun (st := s_common_bottom) F_common_bottom
  have B_common_bottom := F_common_bottom.binds (ps := ["fractions"]) fun _ _ _ _ _ _ us hl => match us, hl with | [_], _ => rfl
  have M_common_bottom := He.glo_ok X G (c.fact 5 (f := .glo "common_bottom") rfl)
  obtain ⟨fd_tops_over, F_tops_over⟩ := c.def_ 6 rfl
  have FD_tops_over := F_tops_over
  have F_tops_over := funD_fun (st := s_tops_over) F_tops_over
  have B_tops_over := F_tops_over.binds (ps := ["fractions", "bottom"]) fun _ _ _ _ _ _ us hl => match us, hl with | [_, _], _ => rfl
  have M_tops_over := He.glo_ok X G (c.fact 6 (f := .glo "tops_over") rfl)
  obtain ⟨fd__law_steps, F__law_steps⟩ := c.def_ 29 rfl
  have FD__law_steps := F__law_steps
  have F__law_steps := funD_fun (st := s_law_steps) F__law_steps
  have B__law_steps := F__law_steps.binds (ps := ["_law_many", "_law_moves_here"]) fun _ _ _ _ _ _ us hl => match us, hl with | [_, _], _ => rfl
  have M__law_steps := He.glo_ok X G (c.fact 29 (f := .glo "_law_steps") rfl)
  obtain ⟨fd__law_plus, F__law_plus⟩ := c.def_ 22 rfl
  have FD__law_plus := F__law_plus
  have F__law_plus := funD_fun (st := s_law_plus) F__law_plus
  have B__law_plus := F__law_plus.binds (ps := ["_law_one", "_law_other"]) fun _ _ _ _ _ _ us hl => match us, hl with | [_, _], _ => rfl
  have M__law_plus := He.glo_ok X G (c.fact 22 (f := .glo "_law_plus") rfl)
  obtain ⟨fd_steps, F_steps⟩ := c.def_ 16 rfl
  have FD_steps := F_steps
  have F_steps := funD_fun (st := s_steps) F_steps
  have B_steps := F_steps.binds (ps := ["system"]) fun _ _ _ _ _ _ us hl => match us, hl with | [_], _ => rfl
  have M_steps := He.glo_ok X G (c.fact 16 (f := .glo "steps") rfl)
  obtain ⟨fd_step_tops, F_step_tops⟩ := c.def_ 15 rfl
  have FD_step_tops := F_step_tops
  have F_step_tops := funD_fun (st := s_step_tops) F_step_tops
  have B_step_tops := F_step_tops.binds (ps := ["system"]) fun _ _ _ _ _ _ us hl => match us, hl with | [_], _ => rfl
  have M_step_tops := He.glo_ok X G (c.fact 15 (f := .glo "step_tops") rfl)
  obtain ⟨fd_fraction, F_fraction⟩ := c.def_ 4 rfl
  have FD_fraction := F_fraction
  have F_fraction := funD_fun (st := s_fraction) F_fraction
  have B_fraction := F_fraction.binds (ps := ["top", "bottom"]) fun _ _ _ _ _ _ us hl => match us, hl with | [_, _], _ => rfl
  have M_fraction := He.glo_ok X G (c.fact 4 (f := .glo "fraction") rfl)
  obtain ⟨fd__law_some_spread, F__law_some_spread⟩ := c.def_ 31 rfl
  have FD__law_some_spread := F__law_some_spread
  have F__law_some_spread := funD_fun (st := s_law_some_spread) F__law_some_spread
  have B__law_some_spread := F__law_some_spread.binds (ps := ["_law_hand_here", "_law_many"]) fun _ _ _ _ _ _ us hl => match us, hl with | [_, _], _ => rfl
  have M__law_some_spread := He.glo_ok X G (c.fact 31 (f := .glo "_law_some_spread") rfl)
  obtain ⟨fd__law_next, F__law_next⟩ := c.def_ 32 rfl
  have FD__law_next := F__law_next
  have F__law_next := funD_fun (st := s_law_next) F__law_next
  have B__law_next := F__law_next.binds (ps := ["_law_rows", "_law_here_now"]) fun _ _ _ _ _ _ us hl => match us, hl with | [_, _], _ => rfl
  have M__law_next := He.glo_ok X G (c.fact 32 (f := .glo "_law_next") rfl)
  obtain ⟨fd__law_sum, F__law_sum⟩ := c.def_ 24 rfl
  have FD__law_sum := F__law_sum
  have F__law_sum := funD_fun (st := s_law_sum) F__law_sum
  have B__law_sum := F__law_sum.binds (ps := ["_law_some"]) fun _ _ _ _ _ _ us hl => match us, hl with | [_], _ => rfl
  have M__law_sum := He.glo_ok X G (c.fact 24 (f := .glo "_law_sum") rfl)
  obtain ⟨fd__law_times, F__law_times⟩ := c.def_ 23 rfl
  have FD__law_times := F__law_times
  have F__law_times := funD_fun (st := s_law_times) F__law_times
  have B__law_times := F__law_times.binds (ps := ["_law_one", "_law_other"]) fun _ _ _ _ _ _ us hl => match us, hl with | [_, _], _ => rfl
  have M__law_times := He.glo_ok X G (c.fact 23 (f := .glo "_law_times") rfl)
  obtain ⟨fd_spread_behind, F_spread_behind⟩ := c.def_ 17 rfl
  have FD_spread_behind := F_spread_behind
  have F_spread_behind := funD_fun (st := s_spread_behind) F_spread_behind
  have B_spread_behind := F_spread_behind.binds (ps := ["system", "spread", "depth"]) fun _ _ _ _ _ _ us hl => match us, hl with | [_, _, _], _ => rfl
  have M_spread_behind := He.glo_ok X G (c.fact 17 (f := .glo "spread_behind") rfl)
  obtain ⟨fd_is_spread, F_is_spread⟩ := c.def_ 14 rfl
  have FD_is_spread := F_is_spread
  have F_is_spread := funD_fun (st := s_is_spread) F_is_spread
  have B_is_spread := F_is_spread.binds (ps := ["many", "thing"]) fun _ _ _ _ _ _ us hl => match us, hl with | [_, _], _ => rfl
  have M_is_spread := He.glo_ok X G (c.fact 14 (f := .glo "is_spread") rfl)
  obtain ⟨fd__law_by_rows, F__law_by_rows⟩ := c.def_ 33 rfl
  have FD__law_by_rows := F__law_by_rows
  have F__law_by_rows := funD_fun (st := s_law_by_rows) F__law_by_rows
  have B__law_by_rows := F__law_by_rows.binds (ps := ["_law_many", "_law_moves_here", "_law_here_now", "_law_depth"]) fun _ _ _ _ _ _ us hl => match us, hl with | [_, _, _, _], _ => rfl
  have M__law_by_rows := He.glo_ok X G (c.fact 33 (f := .glo "_law_by_rows") rfl)
  obtain ⟨fd__law_bent, F__law_bent⟩ := c.def_ 36 rfl
  have FD__law_bent := F__law_bent
  have F__law_bent := funD_fun (st := s_law_bent) F__law_bent
  have B__law_bent := F__law_bent.binds (ps := ["_law_hand_here", "_law_here_now"]) fun _ _ _ _ _ _ us hl => match us, hl with | [_, _], _ => rfl
  have M__law_bent := He.glo_ok X G (c.fact 36 (f := .glo "_law_bent") rfl)
  obtain ⟨fd__law_deep, F__law_deep⟩ := c.def_ 30 rfl
  have FD__law_deep := F__law_deep
  have F__law_deep := funD_fun (st := s_law_deep) F__law_deep
  have B__law_deep := F__law_deep.binds (ps := ["_law_hand_here"]) fun _ _ _ _ _ _ us hl => match us, hl with | [_], _ => rfl
  have M__law_deep := He.glo_ok X G (c.fact 30 (f := .glo "_law_deep") rfl)
  obtain ⟨fd__law_is_spread, F__law_is_spread⟩ := c.def_ 35 rfl
  have FD__law_is_spread := F__law_is_spread
  have F__law_is_spread := funD_fun (st := s_law_is_spread) F__law_is_spread
  have B__law_is_spread := F__law_is_spread.binds (ps := ["_law_many", "_law_thing"]) fun _ _ _ _ _ _ us hl => match us, hl with | [_, _], _ => rfl
  have M__law_is_spread := He.glo_ok X G (c.fact 35 (f := .glo "_law_is_spread") rfl)
  obtain ⟨fd__law_is_int, F__law_is_int⟩ := c.def_ 34 rfl
  have FD__law_is_int := F__law_is_int
  have F__law_is_int := funD_fun (st := s_law_is_int) F__law_is_int
  have B__law_is_int := F__law_is_int.binds (ps := ["_law_thing"]) fun _ _ _ _ _ _ us hl => match us, hl with | [_], _ => rfl
  have M__law_is_int := He.glo_ok X G (c.fact 34 (f := .glo "_law_is_int") rfl)
  have MK := He.mkr_ok (c.fact 55 (f := .mkr "System") rfl)
  have LG : Lg P K := ⟨e6, tr⟩
  have bla := FunD.bindsA (ps := ["_law_script"]) FD_law fun _ _ _ _ _ _ us hl => match us, hl with | [_], _ => rfl
  refine ⟨fd_law, fun s v => bla s [v] rfl, fun base KB GB => ?_⟩
  have k_hand : Cl P w K mg base CX0 1 "_law_hand" _ fd__law_hand ["_law_script"] (spHand K) := ⟨ok_hand F__law_hand T, B__law_hand, M__law_hand, F__law_hand.kp⟩
  have k_draw : Cl P w K mg base CX0 1 "_law_draw" _ fd__law_draw ["_law_hand_here", "_law_many"] spDraw := ⟨ok_draw F__law_draw T, B__law_draw, M__law_draw, F__law_draw.kp⟩
  have k_any : Cl P w K mg base CX0 2 "_law_any" _ fd__law_any ["_law_hand_here", "_law_things"] (spAny K) := ⟨ok_any F__law_any T k_draw, B__law_any, M__law_any, F__law_any.kp⟩
  have k_size : Cl P w K mg base CX0 3 "_law_size" _ fd__law_size ["_law_hand_here"] spSize := ⟨ok_size F__law_size k_draw k_any, B__law_size, M__law_size, F__law_size.kp⟩
  have k_low : Cl P w K mg base CX0 34 "_law_low" _ fd__law_low ["_law_top", "_law_bottom"] spLow := ⟨ok_low F__law_low T LG, B__law_low, M__law_low, F__law_low.kp⟩
  have k_shares : Cl P w K mg base CX0 35 "_law_shares" _ fd__law_shares ["_law_hand_here", "_law_many"] (spShares K) := ⟨ok_shares F__law_shares T k_draw k_any k_low, B__law_shares, M__law_shares, F__law_shares.kp⟩
  have k_leads : Cl P w K mg base CX0 3 "_law_leads" _ fd__law_leads ["_law_hand_here", "_law_many"] (spLeads K) := ⟨ok_leads F__law_leads T k_draw k_any, B__law_leads, M__law_leads, F__law_leads.kp⟩
  have k_moves : Cl P w K mg base CX0 36 "_law_moves" _ fd__law_moves ["_law_hand_here", "_law_many", "_law_most"] (spMovesN K) := ⟨ok_moves F__law_moves T k_draw k_shares k_leads, B__law_moves, M__law_moves, F__law_moves.kp⟩
  have k_isint : Cl P w K mg base CX0 1 "is_integer" _ fd_is_integer ["thing"] (spIsInt K) := ⟨ok_isint F_is_integer T, B_is_integer, M_is_integer, F_is_integer.kp⟩
  have k_within : Cl P w K mg base CX0 2 "is_within" _ fd_is_within ["low", "high", "thing"] (spWithin K) := ⟨ok_within F_is_within k_isint, B_is_within, M_is_within, F_is_within.kp⟩
  have k_frac : Cl P w K mg base CX0 2 "is_fraction" _ fd_is_fraction ["thing"] (spFrac K) := ⟨ok_frac F_is_fraction T k_isint, B_is_fraction, M_is_fraction, F_is_fraction.kp⟩
  have k_rowb : Cl P w K mg base CX0 3 "is_row_below" _ fd_is_row_below ["bound", "thing"] (spRowB K) := ⟨ok_rowb F_is_row_below T k_within, B_is_row_below, M_is_row_below, F_is_row_below.kp⟩
  have k_move : Cl P w K mg base CX0 4 "is_move" _ fd_is_move ["many", "thing"] (spMove K) := ⟨ok_move F_is_move T k_frac k_rowb, B_is_move, M_is_move, F_is_move.kp⟩
  have k_comb : Cl P w K mg base CX0 1 "common_bottom" _ fd_common_bottom ["fractions"] (spComB K) := ⟨ok_comb F_common_bottom T, B_common_bottom, M_common_bottom, F_common_bottom.kp⟩
  have k_tops : Cl P w K mg base CX0 1 "tops_over" _ fd_tops_over ["fractions", "bottom"] (spTops K) := ⟨ok_tops F_tops_over, B_tops_over, M_tops_over, F_tops_over.kp⟩
  have k_one : Cl P w K mg base CX0 2 "are_one_together" _ fd_are_one_together ["fractions"] (spOne K) := ⟨ok_one F_are_one_together T k_comb k_tops, B_are_one_together, M_are_one_together, F_are_one_together.kp⟩
  have g_sinit := ok_sinit (P := P) (w := w) (base := base) F_System___init__ T Y k_within k_move k_one
  have k_plus : Cl P w K mg base CX0 35 "_law_plus" _ fd__law_plus ["_law_one", "_law_other"] (spPlus K) := ⟨ok_plus F__law_plus T k_low, B__law_plus, M__law_plus, F__law_plus.kp⟩
  have k_stepsL : Cl P w K mg base CX0 36 "_law_steps" _ fd__law_steps ["_law_many", "_law_moves_here"] (spStepsL K) := ⟨ok_stepsL F__law_steps T k_plus, B__law_steps, M__law_steps, F__law_steps.kp⟩
  have k_step_tops : Cl P w K mg base CX0 2 "step_tops" _ fd_step_tops ["system"] (spStepT K (He.ga K "System")) := ⟨ok_step_tops F_step_tops T k_comb k_tops Y, B_step_tops, M_step_tops, F_step_tops.kp⟩
  have k_fraction : Cl P w K mg base CX0 34 "fraction" _ fd_fraction ["top", "bottom"] spLow := ⟨ok_fraction F_fraction T LG, B_fraction, M_fraction, F_fraction.kp⟩
  have k_steps : Cl P w K mg base CX0 35 "steps" _ fd_steps ["system"] (spSteps K (He.ga K "System")) := ⟨ok_steps F_steps T k_step_tops k_fraction, B_steps, M_steps, F_steps.kp⟩
  have k_some_spread : Cl P w K mg base CX0 35 "_law_some_spread" _ fd__law_some_spread ["_law_hand_here", "_law_many"] (spSome K) := ⟨ok_some_spread F__law_some_spread T k_draw k_low, B__law_some_spread, M__law_some_spread, F__law_some_spread.kp⟩
  have k_sumL : Cl P w K mg base CX0 36 "_law_sum" _ fd__law_sum ["_law_some"] (spSumL K) := ⟨ok_sumL F__law_sum T k_plus, B__law_sum, M__law_sum, F__law_sum.kp⟩
  have k_times : Cl P w K mg base CX0 35 "_law_times" _ fd__law_times ["_law_one", "_law_other"] (spTimes K) := ⟨ok_times F__law_times k_low, B__law_times, M__law_times, F__law_times.kp⟩
  have k_next : Cl P w K mg base CX0 37 "_law_next" _ fd__law_next ["_law_rows", "_law_here_now"] (spNext K) := ⟨ok_next F__law_next T k_sumL k_times, B__law_next, M__law_next, F__law_next.kp⟩
  have k_fracA : Cl P w K mg base CX0 2 "is_fraction" _ fd_is_fraction ["thing"] (spFracA K) := ⟨ok_fracA F_is_fraction T k_isint, B_is_fraction, M_is_fraction, F_is_fraction.kp⟩
  have k_comG : Cl P w K mg base CX0 1 "common_bottom" _ fd_common_bottom ["fractions"] (spComG K) := ⟨ok_comG F_common_bottom T, B_common_bottom, M_common_bottom, F_common_bottom.kp⟩
  have k_topsG : Cl P w K mg base CX0 34 "tops_over" _ fd_tops_over ["fractions", "bottom"] (spTopsG K) := ⟨ok_topsG F_tops_over T LG, B_tops_over, M_tops_over, F_tops_over.kp⟩
  have k_oneG : Cl P w K mg base CX0 35 "are_one_together" _ fd_are_one_together ["fractions"] (spOneG K) := ⟨ok_oneG F_are_one_together T k_comG k_topsG, B_are_one_together, M_are_one_together, F_are_one_together.kp⟩
  have k_is_spread : Cl P w K mg base CX0 36 "is_spread" _ fd_is_spread ["many", "thing"] (spSpread K) := ⟨ok_is_spread F_is_spread T k_fracA k_oneG, B_is_spread, M_is_spread, F_is_spread.kp⟩
  have k_spread_behind : Cl P w K mg base CX0 37 "spread_behind" _ fd_spread_behind ["system", "spread", "depth"] (spBehS K (He.ga K "System")) := ⟨ok_spread_behind F_spread_behind T k_is_spread k_within k_step_tops k_comG k_topsG k_fraction Y, B_spread_behind, M_spread_behind, F_spread_behind.kp⟩
  have k_by_rows : Cl P w K mg base CX0 36 "_law_by_rows" _ fd__law_by_rows ["_law_many", "_law_moves_here", "_law_here_now", "_law_depth"] (spByRows K) := ⟨ok_by_rows F__law_by_rows T k_times k_plus, B__law_by_rows, M__law_by_rows, F__law_by_rows.kp⟩
  have k_deep : Cl P w K mg base CX0 2 "_law_deep" _ fd__law_deep ["_law_hand_here"] (spDq K) := ⟨ok_deep F__law_deep T k_draw, B__law_deep, M__law_deep, F__law_deep.kp⟩
  have k_bent : Cl P w K mg base CX0 3 "_law_bent" _ fd__law_bent ["_law_hand_here", "_law_here_now"] (spBent K) := ⟨ok_bent F__law_bent T k_draw k_deep k_any, B__law_bent, M__law_bent, F__law_bent.kp⟩
  have k_is_int : Cl P w K mg base CX0 1 "_law_is_int" _ fd__law_is_int ["_law_thing"] (fun vs H Q _ => ∃ x bi bb, vs = [x] ∧ Ty3 K H x bi bb ∧ Q (.bl (bi && !bb)) H) := ⟨ok_is_int F__law_is_int T, B__law_is_int, M__law_is_int, F__law_is_int.kp⟩
  have k_sumT : Cl P w K mg base CX0 36 "_law_sum" _ fd__law_sum ["_law_some"] (spSumT K) := ⟨ok_sumT F__law_sum T k_plus, B__law_sum, M__law_sum, F__law_sum.kp⟩
  have k_isSprL : Cl P w K mg base CX0 37 "_law_is_spread" _ fd__law_is_spread ["_law_many", "_law_thing"] (spIsSprL K) := ⟨ok_isSprL F__law_is_spread T k_is_int k_low k_sumT, B__law_is_spread, M__law_is_spread, F__law_is_spread.kp⟩
  exact ok_law F_law T k_hand k_size k_moves MK g_sinit B_System___init__ Y k_stepsL k_steps k_some_spread k_any k_draw k_next k_spread_behind k_by_rows k_bent k_is_spread k_isSprL
end
end Law
open PySem PySem.W PySem.Calls PyProof.Rows
theorem PySem.Challenge.cw_asifforever_k02_whole_spreads_behind_holds : PySem.Challenge.rw_asifforever_k02_whole_spreads_behind.Holds := by
  w_on; o_law
  refine HandSHeadRun.head_imp (r := OpenLaw.row PySem.Challenge.rw_asifforever_k02_whole_spreads_behind) (q := view (OpenLaw.row PySem.Challenge.rw_asifforever_k02_whole_spreads_behind).prog [0, 42]) (H := Law.hk) (ob := Law.ob) (M := 13000) (loose := Law.names) (d := HandSHeadRun.topDef (OpenLaw.row PySem.Challenge.rw_asifforever_k02_whole_spreads_behind).prog 42) (kwd := []) Law.ob_eq
    Law.run (by kernel_rfl) (by kernel_rfl) (by kernel_rfl) (by rfl) (by first | assumption | decide +kernel) (by decide +kernel) ⟨rfl, rfl, rfl, rfl, rfl, by decide +kernel⟩ ?hw ?hc
  case hw => w_witness2
  case hc =>
    refine L2.walk_ofE (l := PySem.Challenge.rw_asifforever_k02_whole_spreads_behind) (n := 63) (k := 38) (x := "_law_script") (CX := L2.CX0) rfl (by decide) (by kernel_rfl) ⟨rfl, by decide, by decide⟩ ?F (fun _ _ _ _ z => z)
    intro w mg fa h Y G hmg0
    obtain ⟨K, KX, c, e⟩ := Y
    have hmg : mg ("law" : PySem.Str) = some (.ref fa) := by
      have e : (HandSHeadRun.topDef (OpenLaw.row PySem.Challenge.rw_asifforever_k02_whole_spreads_behind).prog 42).name = ("law" : PySem.Str) := by kernel_rfl
      rw [← e]
      exact hmg0
    obtain ⟨fd, hb, hF⟩ := Law.facts (P := (PySem.Challenge.rw_asifforever_k02_whole_spreads_behind).prog) (w := w) (by rfl) KX G hmg c e
    exact ⟨K, fd, Law.spLaw K, KX, hb, fun H a ns hl _ hS => ⟨a, ns, rfl, hS, hl, fun _ => rfl⟩, hF⟩

