import PyProof.Rows.All
import Wide.All
import OpenK.AllK
import Wide.FinOn
import KE.KExcIs
import HandS.ForMost
import HandS.Evl
import HandS.IsInst
import HandS.ExcInit
import HandS.ExcIs
import HandS.DeepEq
import HandS.OwnEq
import HandS.SetFor
import KE.GoesMore
import PyProof.Draws
import HandS.Walk
import HandS.Wide
import HandS.Gcd
import KE.KStateDown
import HandS.Defaults
import HandS.Head0
import HandS.Head1
import HandS.Head2
import HandS.Head3
import HandS.HeadEnd
import HandS.HeadHook1
import HandS.HeadHook2
import PyProof.NoPylong
import HandS.Conv
import HandS.TupMul
import HandS.TupAny
import HandS.Strs
import HandS.List
import HandS.Style
import PySem.Challenge.RW_asifforever_k03_whole_system_texts
import HandS.StrMore
import HandS.WordsExc
import HandS.Rev
import HandS.TryMany
import HandS.Deep
set_option Elab.async false
set_option linter.all false
set_option maxRecDepth 100000
set_option maxHeartbeats 4000000
set_option exponentiation.threshold 200000
namespace Law
open PySem L2
def top (i : Nat) : Stmt := PySem.Challenge.pw_asifforever_k03_whole_system_texts.main.body.getD i (.Pass ⟨0, 0, 0, 0⟩)
abbrev s_is_integer : Stmt := top 2
abbrev s_is_within : Stmt := top 3
abbrev s_is_row_below : Stmt := top 4
abbrev s_is_fraction : Stmt := top 5
abbrev s_common_bottom : Stmt := top 6
abbrev s_tops_over : Stmt := top 7
abbrev s_are_one_together : Stmt := top 8
abbrev s_number_text : Stmt := top 9
abbrev s_number_of_text : Stmt := top 10
abbrev s_number_behind : Stmt := top 11
abbrev s_numbers_of_text : Stmt := top 12
abbrev s_fraction_text : Stmt := top 13
abbrev s_fraction_of_text : Stmt := top 14
abbrev s_BadSystem_init : Stmt := inClass (top 17) 0
abbrev s_BadLine_init : Stmt := inClass (top 18) 0
abbrev s_System_init : Stmt := inClass (top 20) 0
abbrev s_System_eq : Stmt := inClass (top 20) 1
abbrev s_is_move : Stmt := top 21
abbrev s_system_text : Stmt := top 22
abbrev s_move_of_line : Stmt := top 23
abbrev s_read_system : Stmt := top 24
abbrev s_law_hand : Stmt := top 26
abbrev s_law_draw : Stmt := top 27
abbrev s_law_any : Stmt := top 28
abbrev s_law_low : Stmt := top 29
abbrev s_law_plus : Stmt := top 30
abbrev s_law_sum : Stmt := top 31
abbrev s_law_shares : Stmt := top 32
abbrev s_law_leads : Stmt := top 33
abbrev s_law_moves : Stmt := top 34
abbrev s_law_size : Stmt := top 35
abbrev s_law_deep : Stmt := top 36
abbrev s_law_text : Stmt := top 37
abbrev s_law_number : Stmt := top 38
abbrev s_law_head : Stmt := top 39
abbrev s_law_share : Stmt := top 40
abbrev s_law_line : Stmt := top 41
abbrev s_law_wrong : Stmt := top 42
abbrev s_law_due : Stmt := top 43
abbrev s_law_told : Stmt := top 44
abbrev s_law_bent : Stmt := top 45
abbrev s_law : Stmt := top 46
end Law
namespace Law
open PySem L2
/-- what is asked of the module's names -/
structure NmA (mg : Str → Option Value) : Prop where
  abs : mg "abs" = none
  all : mg "all" = none
  bool : mg "bool" = none
  divmod : mg "divmod" = none
  enum : mg "enumerate" = none
  int : mg "int" = none
  isi : mg "isinstance" = none
  len : mg "len" = none
  list : mg "list" = none
  range : mg "range" = none
  reversed : mg "reversed" = none
  str : mg "str" = none
  sum : mg "sum" = none
  tuple : mg "tuple" = none
  gcd : mg "gcd" = some (.builtin "math.gcd")
  lcm : mg "lcm" = some (.builtin "math.lcm")
end Law
namespace L2
open PySem PySem.Spec PyProof.Rows
/-! ### // where a quotient of great ints may go by the long way -/
def CPos (_ j : Int) : Prop := 0 < j
/-- from a fragment's facts -/
def strD : DictEntry → Bool := fun e => match e.key with
  | .str _ _ => true
  | _ => false
def nsB (K : PySem.W.Frag) (a : Addr) (no : List Str) : Bool := match K.lookup a with
  | some ⟨_, _, .dict es _, _⟩ => es.toList.all strD && no.all fun x => (nsFind es x).isNone
  | _ => false
theorem ns_of {K : PySem.W.Frag} {h : Heap} {a : Addr} {no : List Str} (x : K.In h) (e : nsB K a no = true) : ∃ m, h.Ns a m ∧ ∀ y ∈ no, m y = none := by
  unfold nsB at e
  split at e
  · rename_i c d es n sl ho
    obtain ⟨e1, e2⟩ := Bool.and_eq_true_iff.mp e
    refine ⟨fun y => nsFind es y, ⟨_, es, n, x _ _ ho, rfl, fun z hz => ?_, fun _ => rfl⟩, fun y hy => ?_⟩
    · have q := List.all_eq_true.mp e1 z (Array.mem_toList_iff.mpr hz)
      unfold strD at q
      split at q
      · rename_i n t hk
        exact ⟨n, t, hk⟩
      · cases q
    · exact Option.isNone_iff_eq_none.mp (List.all_eq_true.mp e2 y hy)
  · cases e
def bmOf (K : PySem.W.Frag) : Addr := match PySem.W.nsIn K mainGlobals "__builtins__" with
  | some (some (.ref b)) => b
  | _ => 0
def modB (K : PySem.W.Frag) : Bool := match K.lookup mainGlobals with
  | some ⟨_, _, .dict es _, _⟩ => es.toList.all strD && (match nsFind es "__builtins__" with
    | some (.ref b) => (match K.lookup b with
      | some o => decide (o.cls = .type "module") && decide (o.dict = some builtinsNs)
      | _ => false)
    | _ => false)
  | _ => false
def seerB (K : PySem.W.Frag) : Bool := nsB K cStatics ["sys.audit-hooks", "sys.dict"] && (nsB K sysModules ["_pylong"] && modB K)
theorem seer_of {K : PySem.W.Frag} {mg : Str → Option Value} {base : Heap} (M : Mod K mg base) (e : seerB K = true) : base.NoSeer := by
  obtain ⟨e1, e2⟩ := Bool.and_eq_true_iff.mp e
  obtain ⟨e2, e3⟩ := Bool.and_eq_true_iff.mp e2
  obtain ⟨m1, n1, h1⟩ := ns_of M.kin e1
  obtain ⟨m2, n2, h2⟩ := ns_of M.kin e2
  refine ⟨⟨m1, n1, h1 _ List.mem_cons_self, h1 _ (List.mem_cons_of_mem _ List.mem_cons_self)⟩, ⟨m2, n2, h2 _ List.mem_cons_self⟩, M.blt, ?_⟩
  unfold modB at e3
  split at e3
  · rename_i c d es n sl ho
    obtain ⟨e4, e5⟩ := Bool.and_eq_true_iff.mp e3
    split at e5
    · rename_i b hb
      split at e5
      · rename_i o hbo
        obtain ⟨e6, e7⟩ := Bool.and_eq_true_iff.mp e5
        refine ⟨fun y => nsFind es y, b, o, ⟨_, es, n, M.kin _ _ ho, rfl, fun z hz => ?_, fun _ => rfl⟩, hb, M.kin _ _ hbo, of_decide_eq_true e6, of_decide_eq_true e7⟩
        have q := List.all_eq_true.mp e4 z (Array.mem_toList_iff.mpr hz)
        unfold strD at q
        split at q
        · rename_i n t hk
          exact ⟨n, t, hk⟩
        · cases q
      · cases e5
    · cases e5
  · cases e3
/-- a context whose frame is uppermost, with room -/
structure Hi (X : Cx) : Prop where
  seer : seerB X.K = true
  tree : X.prog.given.tree = none
  dp : X.A.depth + Builtin.pylongFrames < recursionLimit
  st : X.stack = X.env :: X.outer
  gen : X.env.scope.isGenerator = false
  co : X.env.scope.isCoroutine = false
theorem op_fdivB {X : Cx} (h : Hi X) : OpR X (binaryOp .FloorDiv) (rI CPos fun i j => .int (i / j)) := by
  intro pins s σ H x y v u Q I rx ry hh
  obtain ⟨i, j, rfl, rfl, hc, q⟩ := hh
  obtain ⟨t, rfl⟩ := rx
  obtain ⟨t', rfl⟩ := ry
  have h1 : (0 : Int) < j := hc
  have hN : s.heap.NoSeer := (seer_of I.ok.mod h.seer).keeps I.bk
  have hfr : X.A.frames = some (X.env :: X.outer) := by rw [I.ok.frames, h.st]
  have hS : PySem.SeerAt (model X.prog X.w) X.A s.heap := PySem.SeerAt.of hN h.tree hfr h.gen h.co I.ok.blt I.ok.glob
  exact floordiv_int (by omega) (by rw [Int.fdiv_eq_ediv_of_nonneg i (by omega)]; exact ⟨.int (i / j), H, I.tok _, ⟨_, rfl⟩, q⟩) (.inr (PySem.PylongRoom.of I.nolimit h.dp hS))
end L2

namespace Law
open PySem PySem.Spec PyProof.Rows L2
/-! ### the head's Hook: facts of K by names, and one more Bool -/
/-- the addresses that are looked at: the module, what it leads to, and the three that a division may ask for -/
def asE (g : Addr → Option Obj) (n : Nat) : List Addr := sysModules :: cStatics :: bmOf (He.frG g [mainGlobals]) :: He.asD g n
abbrev AlM : Type := He.AlD × Bool
def obsM (n : Nat) (fa : List He.Fa) (fn : List He.DefD) (ex : PySem.W.Frag → Bool) (g : Addr → Option Obj) : AlM := (He.obsD fa fn (He.frG g (asE g n)), ex (He.frG g (asE g n)))
def hookM (n : Nat) (fa : List He.Fa) (fn : List He.DefD) (ex : PySem.W.Frag → Bool) : PySem.W.Hook where
  α := AlM
  obs := fun s => obsM n fa fn ex s.heap.get?
  val := fun _ => (He.valD fn, true)
  says := fun _ h => ∃ K : PySem.W.Frag, K.In h ∧ He.SaysD fa fn K ∧ ex K = true
  of := fun _ _ e => ⟨_, He.frG_in, congrArg (fun z : AlM => z.1) e, congrArg (fun z : AlM => z.2) e⟩
  keeps := fun _ _ _ ⟨K, hK, c⟩ k => ⟨K, PySem.W.Frag.In.keeps hK k, c⟩
theorem obsM_eq {n : Nat} {fa : List He.Fa} {fn : List He.DefD} {ex : PySem.W.Frag → Bool} {g : Addr → Option Obj} {s : Shared} (h : ∀ a, g a = s.heap.get? a) : obsM n fa fn ex g = (hookM n fa fn ex).obs s := by
  have e : g = s.heap.get? := funext h
  rw [e] <;> rfl
theorem funD_fun {K : PySem.W.Frag} {x qual : Str} {st : Stmt} {f : Addr} {fd : FuncData} (F : FunD K x qual (defArgs st) (defBody st) (defScope st) [] [] f fd) : Fun K x qual st f fd := by
  obtain ⟨⟨oc, od, dV, kV, doc, pm, an, cdv, ct, osl, h1, h2, h3, h4, _⟩, kp⟩ := F
  rcases h4 with ⟨_, rfl⟩ | ⟨h, _⟩
  · exact ⟨⟨oc, od, kV, doc, pm, an, cdv, ct, osl, h1, h2, h3⟩, kp⟩
  · exact absurd rfl h
end Law
namespace Law
open PySem PySem.Spec PyProof.Rows L2
/-! ### facts of the classes, as Bools of K -/
def clsB (K : PySem.W.Frag) (C : Addr) : Bool := match K.lookup C with
  | some ⟨.type "type", _, .cls cd, sl⟩ => (match cd.mro, sl.toList with
    | .ref C' :: bm, [_, _, _, _, some (.builtin n), _] => decide (C' = C) && (decide (n = "ValueError.__new__") && (!cd.hasDel && (cd.hasDict && PySem.HandSPX.refsVE bm)))
    | _, _ => false)
  | _ => false
def optT (o : Option Bool) : Bool := match o with
  | some b => b
  | none => false
def exvB (K : PySem.W.Frag) (C : Addr) : Bool :=
  clsB K C && (He.eqO (PySem.W.findIn K (.ref C) "__setattr__") (some (some (.builtin "object.__setattr__"))) && (optT (PySem.W.subIn K (.ref C) (.type "BaseException")) && (decide (PySem.W.typeIn K (.ref C) = some (.type "type")) && (PySem.W.keepIn K (.ref C) &&
  ((PySem.W.clsIn K C).isSome && (He.eqO (PySem.W.findIn K (.ref C) "__getattribute__") (some (some (.builtin "BaseException.__getattribute__"))) && (He.eqO (PySem.W.findIn K (.ref C) "__getattr__") (some none) && (He.eqO (PySem.W.findIn K (.ref C) "__class__") (some (some (.builtin "object.__class__"))) &&
  (He.eqO (PySem.W.specialIn K (.builtin "object.__class__") "__get__") (some (some (.builtin "getset_descriptor.__get__"))) && (optT (PySem.W.takesIn K (.builtin "object.__class__")) && (optT (PySem.W.mroIn K C (.type "object")) && PySem.W.hasDictIn K C)))))))))))
def iniB (K : PySem.W.Frag) (C : Addr) : Bool := He.eqO (PySem.W.findIn K (.ref C) "__init__") (some (some (.ref (He.ma K C "__init__")))) && decide (PySem.W.typeIn K (.ref (He.ma K C "__init__")) = some (.type "function"))
def mroB (K : PySem.W.Frag) (C D : Addr) : Bool := decide ((PySem.W.clsIn K C).map (·.mro) = some [.ref C, .ref D, .type "ValueError", .type "Exception", .type "BaseException", .type "object"])
/-- an own plain class's instances are asked for their class as usual -/
def insB (K : PySem.W.Frag) (C : Addr) : Bool := He.eqO (PySem.W.findIn K (.ref C) "__class__") (some (some (.builtin "object.__class__"))) && (He.eqO (PySem.W.specialIn K (.builtin "object.__class__") "__get__") (some (some (.builtin "getset_descriptor.__get__"))) && (optT (PySem.W.takesIn K (.builtin "object.__class__")) && optT (PySem.W.mroIn K C (.type "object"))))
def gclB (K : PySem.W.Frag) : Bool := He.eqO (PySem.W.nsIn K mainGlobals "gcd") (some (some (.builtin "math.gcd"))) && He.eqO (PySem.W.nsIn K mainGlobals "lcm") (some (some (.builtin "math.lcm")))
def kiB (K : PySem.W.Frag) (a b : Addr) (r : Bool) : Bool := decide (PySem.W.kitOne K (.ref a) (.ref b) = some r)
def exK (K : PySem.W.Frag) : Bool := gclB K && ((insB K (He.ga K "System") && seerB K) && (exvB K (He.ga K "BadSystem") && (exvB K (He.ga K "BadLine") && (iniB K (He.ga K "BadSystem") && (iniB K (He.ga K "BadLine") &&
  (kiB K (He.ga K "BadLine") (He.ga K "DrawError") true && (kiB K (He.ga K "BadLine") (He.ga K "BadSystem") false && (kiB K (He.ga K "BadSystem") (He.ga K "DrawError") true && decide (PySem.W.kitOne K (.ref (He.ga K "System")) (.type "str") = some false)))))))))
end Law
set_option maxHeartbeats 0
namespace Law
open PySem PySem.Spec PyProof.Rows L2
def fns : List He.DefD := [
  ⟨("is_integer", none), "is_integer", "is_integer", defArgs s_is_integer, defBody s_is_integer, defScope s_is_integer, [], []⟩,
  ⟨("is_within", none), "is_within", "is_within", defArgs s_is_within, defBody s_is_within, defScope s_is_within, [], []⟩,
  ⟨("is_row_below", none), "is_row_below", "is_row_below", defArgs s_is_row_below, defBody s_is_row_below, defScope s_is_row_below, [], []⟩,
  ⟨("is_fraction", none), "is_fraction", "is_fraction", defArgs s_is_fraction, defBody s_is_fraction, defScope s_is_fraction, [], []⟩,
  ⟨("common_bottom", none), "common_bottom", "common_bottom", defArgs s_common_bottom, defBody s_common_bottom, defScope s_common_bottom, [], []⟩,
  ⟨("tops_over", none), "tops_over", "tops_over", defArgs s_tops_over, defBody s_tops_over, defScope s_tops_over, [], []⟩,
  ⟨("are_one_together", none), "are_one_together", "are_one_together", defArgs s_are_one_together, defBody s_are_one_together, defScope s_are_one_together, [], []⟩,
  ⟨("number_text", none), "number_text", "number_text", defArgs s_number_text, defBody s_number_text, defScope s_number_text, [], []⟩,
  ⟨("number_of_text", none), "number_of_text", "number_of_text", defArgs s_number_of_text, defBody s_number_of_text, defScope s_number_of_text, [], []⟩,
  ⟨("number_behind", none), "number_behind", "number_behind", defArgs s_number_behind, defBody s_number_behind, defScope s_number_behind, [], []⟩,
  ⟨("numbers_of_text", none), "numbers_of_text", "numbers_of_text", defArgs s_numbers_of_text, defBody s_numbers_of_text, defScope s_numbers_of_text, [], []⟩,
  ⟨("fraction_text", none), "fraction_text", "fraction_text", defArgs s_fraction_text, defBody s_fraction_text, defScope s_fraction_text, [], []⟩,
  ⟨("fraction_of_text", none), "fraction_of_text", "fraction_of_text", defArgs s_fraction_of_text, defBody s_fraction_of_text, defScope s_fraction_of_text, [], []⟩,
  ⟨("BadSystem", some "__init__"), "__init__", "BadSystem.__init__", defArgs s_BadSystem_init, defBody s_BadSystem_init, defScope s_BadSystem_init, [], []⟩,
  ⟨("BadLine", some "__init__"), "__init__", "BadLine.__init__", defArgs s_BadLine_init, defBody s_BadLine_init, defScope s_BadLine_init, [], []⟩,
  ⟨("System", some "__init__"), "__init__", "System.__init__", defArgs s_System_init, defBody s_System_init, defScope s_System_init, [], []⟩,
  ⟨("System", some "__eq__"), "__eq__", "System.__eq__", defArgs s_System_eq, defBody s_System_eq, defScope s_System_eq, [], []⟩,
  ⟨("is_move", none), "is_move", "is_move", defArgs s_is_move, defBody s_is_move, defScope s_is_move, [], []⟩,
  ⟨("system_text", none), "system_text", "system_text", defArgs s_system_text, defBody s_system_text, defScope s_system_text, [], []⟩,
  ⟨("move_of_line", none), "move_of_line", "move_of_line", defArgs s_move_of_line, defBody s_move_of_line, defScope s_move_of_line, [], []⟩,
  ⟨("read_system", none), "read_system", "read_system", defArgs s_read_system, defBody s_read_system, defScope s_read_system, [], []⟩,
  ⟨("_law_hand", none), "_law_hand", "_law_hand", defArgs s_law_hand, defBody s_law_hand, defScope s_law_hand, [], []⟩,
  ⟨("_law_draw", none), "_law_draw", "_law_draw", defArgs s_law_draw, defBody s_law_draw, defScope s_law_draw, [], []⟩,
  ⟨("_law_any", none), "_law_any", "_law_any", defArgs s_law_any, defBody s_law_any, defScope s_law_any, [], []⟩,
  ⟨("_law_low", none), "_law_low", "_law_low", defArgs s_law_low, defBody s_law_low, defScope s_law_low, [], []⟩,
  ⟨("_law_plus", none), "_law_plus", "_law_plus", defArgs s_law_plus, defBody s_law_plus, defScope s_law_plus, [], []⟩,
  ⟨("_law_sum", none), "_law_sum", "_law_sum", defArgs s_law_sum, defBody s_law_sum, defScope s_law_sum, [], []⟩,
  ⟨("_law_shares", none), "_law_shares", "_law_shares", defArgs s_law_shares, defBody s_law_shares, defScope s_law_shares, [], []⟩,
  ⟨("_law_leads", none), "_law_leads", "_law_leads", defArgs s_law_leads, defBody s_law_leads, defScope s_law_leads, [], []⟩,
  ⟨("_law_moves", none), "_law_moves", "_law_moves", defArgs s_law_moves, defBody s_law_moves, defScope s_law_moves, [], []⟩,
  ⟨("_law_size", none), "_law_size", "_law_size", defArgs s_law_size, defBody s_law_size, defScope s_law_size, [], []⟩,
  ⟨("_law_deep", none), "_law_deep", "_law_deep", defArgs s_law_deep, defBody s_law_deep, defScope s_law_deep, [], []⟩,
  ⟨("_law_text", none), "_law_text", "_law_text", defArgs s_law_text, defBody s_law_text, defScope s_law_text, [], []⟩,
  ⟨("_law_number", none), "_law_number", "_law_number", defArgs s_law_number, defBody s_law_number, defScope s_law_number, [], []⟩,
  ⟨("_law_head", none), "_law_head", "_law_head", defArgs s_law_head, defBody s_law_head, defScope s_law_head, [], []⟩,
  ⟨("_law_share", none), "_law_share", "_law_share", defArgs s_law_share, defBody s_law_share, defScope s_law_share, [], []⟩,
  ⟨("_law_line", none), "_law_line", "_law_line", defArgs s_law_line, defBody s_law_line, defScope s_law_line, [], []⟩,
  ⟨("_law_wrong", none), "_law_wrong", "_law_wrong", defArgs s_law_wrong, defBody s_law_wrong, defScope s_law_wrong, [], []⟩,
  ⟨("_law_due", none), "_law_due", "_law_due", defArgs s_law_due, defBody s_law_due, defScope s_law_due, [], []⟩,
  ⟨("_law_told", none), "_law_told", "_law_told", defArgs s_law_told, defBody s_law_told, defScope s_law_told, [], []⟩,
  ⟨("_law_bent", none), "_law_bent", "_law_bent", defArgs s_law_bent, defBody s_law_bent, defScope s_law_bent, [], []⟩,
  ⟨("law", none), "law", "law", defArgs s_law, defBody s_law, defScope s_law, [], []⟩]
def fas : List He.Fa := [
  .glo "is_integer", .glo "is_within", .glo "is_row_below", .glo "is_fraction", .glo "common_bottom", .glo "tops_over", .glo "are_one_together", .glo "number_text", .glo "number_of_text", .glo "number_behind", .glo "numbers_of_text", .glo "fraction_text", .glo "fraction_of_text", .glo "DrawError", .glo "BadSystem", .glo "BadLine", .glo "System", .glo "is_move", .glo "system_text", .glo "move_of_line", .glo "read_system", .glo "_law_hand", .glo "_law_draw", .glo "_law_any", .glo "_law_low", .glo "_law_plus", .glo "_law_sum", .glo "_law_shares", .glo "_law_leads", .glo "_law_moves", .glo "_law_size", .glo "_law_deep", .glo "_law_text", .glo "_law_number", .glo "_law_head", .glo "_law_share", .glo "_law_line", .glo "_law_wrong", .glo "_law_due", .glo "_law_told", .glo "_law_bent", .glo "law", .free "ValueError", .free "abs", .free "all", .free "bool", .free "divmod", .free "enumerate", .free "int", .free "isinstance", .free "len", .free "list", .free "range", .free "reversed", .free "str", .free "sum", .free "tuple", .cls "System", .noat "System" "many", .noat "System" "moves", .mkr "System", .meth "System" "__eq__", .noat "BadSystem" "part", .noat "BadLine" "number", .exm "BadLine" "BadLine" true, .exm "BadSystem" "BadLine" false, .exm "BadSystem" "BadSystem" true]
-- defs: 0 is_integer, 1 is_within, 2 is_row_below, 3 is_fraction, 4 common_bottom, 5 tops_over, 6 are_one_together, 7 number_text, 8 number_of_text, 9 number_behind, 10 numbers_of_text, 11 fraction_text, 12 fraction_of_text, 13 BadSystem.__init__, 14 BadLine.__init__, 15 System.__init__, 16 System.__eq__, 17 is_move, 18 system_text, 19 move_of_line, 20 read_system, 21 _law_hand, 22 _law_draw, 23 _law_any, 24 _law_low, 25 _law_plus, 26 _law_sum, 27 _law_shares, 28 _law_leads, 29 _law_moves, 30 _law_size, 31 _law_deep, 32 _law_text, 33 _law_number, 34 _law_head, 35 _law_share, 36 _law_line, 37 _law_wrong, 38 _law_due, 39 _law_told, 40 _law_bent, 41 law
-- facts: 0 .glo "is_integer", 1 .glo "is_within", 2 .glo "is_row_below", 3 .glo "is_fraction", 4 .glo "common_bottom", 5 .glo "tops_over", 6 .glo "are_one_together", 7 .glo "number_text", 8 .glo "number_of_text", 9 .glo "number_behind", 10 .glo "numbers_of_text", 11 .glo "fraction_text", 12 .glo "fraction_of_text", 13 .glo "DrawError", 14 .glo "BadSystem", 15 .glo "BadLine", 16 .glo "System", 17 .glo "is_move", 18 .glo "system_text", 19 .glo "move_of_line", 20 .glo "read_system", 21 .glo "_law_hand", 22 .glo "_law_draw", 23 .glo "_law_any", 24 .glo "_law_low", 25 .glo "_law_plus", 26 .glo "_law_sum", 27 .glo "_law_shares", 28 .glo "_law_leads", 29 .glo "_law_moves", 30 .glo "_law_size", 31 .glo "_law_deep", 32 .glo "_law_text", 33 .glo "_law_number", 34 .glo "_law_head", 35 .glo "_law_share", 36 .glo "_law_line", 37 .glo "_law_wrong", 38 .glo "_law_due", 39 .glo "_law_told", 40 .glo "_law_bent", 41 .glo "law", 42 .free "ValueError", 43 .free "abs", 44 .free "all", 45 .free "bool", 46 .free "divmod", 47 .free "enumerate", 48 .free "int", 49 .free "isinstance", 50 .free "len", 51 .free "list", 52 .free "range", 53 .free "reversed", 54 .free "str", 55 .free "sum", 56 .free "tuple", 57 .cls "System", 58 .noat "System" "many", 59 .noat "System" "moves", 60 .mkr "System", 61 .meth "System" "__eq__", 62 .noat "BadSystem" "part", 63 .noat "BadLine" "number", 64 .exm "BadLine" "BadLine" true, 65 .exm "BadSystem" "BadLine" false, 66 .exm "BadSystem" "BadSystem" true
def names0 : List PySem.Str := ["is_integer", "is_within", "is_row_below", "is_fraction", "common_bottom", "tops_over", "are_one_together", "number_text", "number_of_text", "number_behind", "numbers_of_text", "fraction_text"]
def names1 : List PySem.Str := ["fraction_of_text", "DrawError", "BadSystem", "BadLine", "System", "is_move", "system_text", "move_of_line", "read_system", "_law_hand", "_law_draw", "_law_any"]
def names2 : List PySem.Str := ["_law_low", "_law_plus", "_law_sum", "_law_shares", "_law_leads", "_law_moves", "_law_size", "_law_deep", "_law_text", "_law_number", "_law_head", "_law_share"]
def names3 : List PySem.Str := ["_law_line", "_law_wrong", "_law_due", "_law_told", "_law_bent"]
def names : List PySem.Str := names0 ++ names1 ++ names2 ++ names3
abbrev R : PySem.W.OpenRow := PySem.W.OpenLaw.row PySem.Challenge.rw_asifforever_k03_whole_system_texts
abbrev hk : PySem.W.Hook := hookM 4 fas fns exK
def ob (s : PySem.W.SharedT) : AlM := obsM 4 fas fns exK (HandSHeadRun.getT s)
theorem ob_eq (s : PySem.W.SharedT) : ob s = hk.obs s.abs := obsM_eq (HandSHeadRun.getT_eq s)
theorem run (w : World) : HandSHeadRun.RunEqI R (PySem.W.view R.prog [0, 46]) hk ob 13000 names w := by
  unfold HandSHeadRun.RunEqI
  kernel_rfl
end Law
set_option maxHeartbeats 4000000
namespace Law
open PySem L2
theorem sne {x y : Str} (h : ¬ x = y) : ¬ ((Sum.inr x : Key) = Sum.inr y) := fun z => h (Sum.inr.inj z)
theorem n01 : ¬ ((Sum.inr ("cells" : Str) : Key) = Sum.inr ("at" : Str)) := sne (by decide +kernel)
theorem n02 : ¬ ((Sum.inr ("cells" : Str) : Key) = Sum.inr ("great" : Str)) := sne (by decide +kernel)
theorem n03 : ¬ ((Sum.inr ("cells" : Str) : Key) = Sum.inr ("seed" : Str)) := sne (by decide +kernel)
theorem n04 : ¬ ((Sum.inr ("cells" : Str) : Key) = Sum.inr ("turn" : Str)) := sne (by decide +kernel)
theorem n12 : ¬ ((Sum.inr ("at" : Str) : Key) = Sum.inr ("great" : Str)) := sne (by decide +kernel)
theorem n13 : ¬ ((Sum.inr ("at" : Str) : Key) = Sum.inr ("seed" : Str)) := sne (by decide +kernel)
theorem n14 : ¬ ((Sum.inr ("at" : Str) : Key) = Sum.inr ("turn" : Str)) := sne (by decide +kernel)
theorem n23 : ¬ ((Sum.inr ("great" : Str) : Key) = Sum.inr ("seed" : Str)) := sne (by decide +kernel)
theorem n24 : ¬ ((Sum.inr ("great" : Str) : Key) = Sum.inr ("turn" : Str)) := sne (by decide +kernel)
theorem n34 : ¬ ((Sum.inr ("seed" : Str) : Key) = Sum.inr ("turn" : Str)) := sne (by decide +kernel)
/-- the hand's dict: its cells' list, and its four ints -/
def hdK (ca : Addr) (a g s t : Int) : List (Key × V) :=
  [(Sum.inr ("cells" : Str), .ref ca), (Sum.inr ("at" : Str), .int a), (Sum.inr ("great" : Str), .int g), (Sum.inr ("seed" : Str), .int s), (Sum.inr ("turn" : Str), .int t)]
section
variable (ca : Addr) (a g s t x : Int)
theorem get_cells : valV (hdK ca a g s t) (Sum.inr ("cells" : Str)) = some (.ref ca) := valV_pos rfl
theorem get_at : valV (hdK ca a g s t) (Sum.inr ("at" : Str)) = some (.int a) := (valV_neg n01).trans (valV_pos rfl)
theorem get_great : valV (hdK ca a g s t) (Sum.inr ("great" : Str)) = some (.int g) := (valV_neg n02).trans ((valV_neg n12).trans (valV_pos rfl))
theorem get_seed : valV (hdK ca a g s t) (Sum.inr ("seed" : Str)) = some (.int s) := (valV_neg n03).trans ((valV_neg n13).trans ((valV_neg n23).trans (valV_pos rfl)))
theorem get_turn : valV (hdK ca a g s t) (Sum.inr ("turn" : Str)) = some (.int t) := (valV_neg n04).trans ((valV_neg n14).trans ((valV_neg n24).trans ((valV_neg n34).trans (valV_pos rfl))))
theorem put_of {kvs : List (Key × V)} {k : Key} {v w : V} (h : valV kvs k = some w) : putK kvs k v = kvs.map (fun kv => if kv.1 = k then (kv.1, v) else kv) := by
  unfold putK
  rw [if_pos (by rw [valV_any, h]; rfl)]
theorem put_at : putK (hdK ca a g s t) (Sum.inr ("at" : Str)) (.int x) = hdK ca x g s t := by
  rw [put_of (get_at ca a g s t)]
  simp only [hdK, List.map_cons, List.map_nil, n01, if_neg, if_false, if_true, n12, n13, n14, Ne.symm n12, Ne.symm n13, Ne.symm n14, not_false_eq_true]
theorem put_great : putK (hdK ca a g s t) (Sum.inr ("great" : Str)) (.int x) = hdK ca a x s t := by
  rw [put_of (get_great ca a g s t)]
  simp only [hdK, List.map_cons, List.map_nil, if_neg, if_false, if_true, n02, n12, Ne.symm n23, Ne.symm n24, not_false_eq_true]
theorem put_seed : putK (hdK ca a g s t) (Sum.inr ("seed" : Str)) (.int x) = hdK ca a g x t := by
  rw [put_of (get_seed ca a g s t)]
  simp only [hdK, List.map_cons, List.map_nil, if_neg, if_false, if_true, n03, n13, n23, Ne.symm n34, not_false_eq_true]
theorem put_turn : putK (hdK ca a g s t) (Sum.inr ("turn" : Str)) (.int x) = hdK ca a g s x := by
  rw [put_of (get_turn ca a g s t)]
  simp only [hdK, List.map_cons, List.map_nil, if_neg, if_false, if_true, n04, n14, n24, n34, not_false_eq_true]
end
section
variable {H : Hp} {p ca : Addr} {a g s t : Int} (h : H p = some (.dK (hdK ca a g s t)))
include h
theorem gt_cells : DGet H p (.str "cells") (some (.ref ca)) := by
  have q := DGet.k (k := Sum.inr ("cells" : Str)) h
  rw [get_cells] at q
  exact q
theorem gt_at : DGet H p (.str "at") (some (.int a)) := by
  have q := DGet.k (k := Sum.inr ("at" : Str)) h
  rw [get_at] at q
  exact q
theorem gt_great : DGet H p (.str "great") (some (.int g)) := by
  have q := DGet.k (k := Sum.inr ("great" : Str)) h
  rw [get_great] at q
  exact q
theorem gt_seed : DGet H p (.str "seed") (some (.int s)) := by
  have q := DGet.k (k := Sum.inr ("seed" : Str)) h
  rw [get_seed] at q
  exact q
theorem gt_turn : DGet H p (.str "turn") (some (.int t)) := by
  have q := DGet.k (k := Sum.inr ("turn" : Str)) h
  rw [get_turn] at q
  exact q
theorem pt_at (x : Int) : DPut H p (.str "at") (.int x) (upd H p (.dK (hdK ca x g s t))) := by
  have q := DPut.k (k := Sum.inr ("at" : Str)) (v := .int x) h (show 5 < sizeLine by decide)
  rw [put_at] at q
  exact q
theorem pt_great (x : Int) : DPut H p (.str "great") (.int x) (upd H p (.dK (hdK ca a x s t))) := by
  have q := DPut.k (k := Sum.inr ("great" : Str)) (v := .int x) h (show 5 < sizeLine by decide)
  rw [put_great] at q
  exact q
theorem pt_seed (x : Int) : DPut H p (.str "seed") (.int x) (upd H p (.dK (hdK ca a g x t))) := by
  have q := DPut.k (k := Sum.inr ("seed" : Str)) (v := .int x) h (show 5 < sizeLine by decide)
  rw [put_seed] at q
  exact q
theorem pt_turn (x : Int) : DPut H p (.str "turn") (.int x) (upd H p (.dK (hdK ca a g s x))) := by
  have q := DPut.k (k := Sum.inr ("turn" : Str)) (v := .int x) h (show 5 < sizeLine by decide)
  rw [put_turn] at q
  exact q
end
/-- a hand stands at p -/
def HandAt (H : Hp) (p : Addr) : Prop := ∃ (ca : Addr) (cells : List Int) (a : Nat) (g s t : Int), H p = some (.dK (hdK ca a g s t)) ∧ H ca = some (.lst (cells.map V.int)) ∧ cells.length ≤ 63 ∧ a ≤ cells.length ∧ (∀ c ∈ cells, 0 ≤ c) ∧ 0 ≤ g ∧ 0 ≤ s ∧ 0 ≤ t
/-- its cells stand at c -/
def CellOf (H : Hp) (p c : Addr) : Prop := ∃ a g s t, H p = some (.dK (hdK c a g s t))
/-- what a draw may do: the hand stands again, nothing else has changed -/
structure Stp (p : Addr) (H H' : Hp) : Prop where
  keep : ∀ b o, b ≠ p → H b = some o → H' b = some o
  cell : ∀ c, CellOf H p c → CellOf H' p c
  hand : HandAt H' p
theorem Stp.refl {p : Addr} {H : Hp} (h : HandAt H p) : Stp p H H := ⟨fun _ _ _ e => e, fun _ e => e, h⟩
theorem Stp.trans {p : Addr} {H H1 H2 : Hp} (a : Stp p H H1) (b : Stp p H1 H2) : Stp p H H2 := ⟨fun c o n e => b.keep c o n (a.keep c o n e), fun c e => b.cell c (a.cell c e), b.hand⟩
theorem hdK_inj {ca cb : Addr} {a g s t a' g' s' t' : Int} (h : hdK ca a g s t = hdK cb a' g' s' t') : ca = cb := by
  unfold hdK at h
  injection h with h1 _
  injection h1 with _ h2
  injection h2
theorem cell_eq {H : Hp} {p ca c : Addr} {a g s t : Int} (hp : H p = some (.dK (hdK ca a g s t))) (h : CellOf H p c) : c = ca := by
  obtain ⟨a', g', s', t', h⟩ := h
  rw [hp] at h
  have h1 := Option.some.inj h
  injection h1 with h2
  exact (hdK_inj h2).symm
theorem cell_to {H H' : Hp} {p ca : Addr} {a g s t a' g' s' t' : Int} (hp : H p = some (.dK (hdK ca a g s t))) (hp' : H' p = some (.dK (hdK ca a' g' s' t'))) : ∀ c, CellOf H p c → CellOf H' p c := fun c hc => by
  rw [cell_eq hp hc]
  exact ⟨a', g', s', t', hp'⟩
/-- an object that stood not there at the start may change, whatever has been drawn since -/
theorem Stp.mut {p D : Addr} {H H' : Hp} {o : HO} (h : HandAt H p) (S : Stp p H H') (hD : H D = none) : Stp p H (upd H' D o) := by
  obtain ⟨ca, cells, a, g, s, t, hp, hc, _⟩ := h
  obtain ⟨cb, cells', a', g', s', t', hp', hc', r⟩ := S.hand
  have e : ca = cb := cell_eq hp' (S.cell ca ⟨a, g, s, t, hp⟩)
  have n1 : p ≠ D := ne_of_none hp hD
  have n2 : cb ≠ D := e ▸ ne_of_none hc hD
  exact ⟨fun b o n e => by rw [upd_ne (ne_of_none e hD)]; exact S.keep b o n e, fun c hc => by
    obtain ⟨x1, x2, x3, x4, x5⟩ := S.cell c hc
    exact ⟨x1, x2, x3, x4, by rw [upd_ne n1]; exact x5⟩, cb, cells', a', g', s', t', by rw [upd_ne n1]; exact hp', by rw [upd_ne n2]; exact hc', r⟩
def spDraw : Sp := fun vs H Q _ => ∃ (p : Addr) (m : Int), vs = [.ref p, .int m] ∧ 0 < m ∧ m < 1073741824 ∧ HandAt H p ∧ ∀ (d : Int) (H' : Hp), 0 ≤ d → d < m → Stp p H H' → Q (.int d) H'
/-- what is asked of the module's names -/
theorem map_at {cells : List Int} {a : Nat} (h : a < cells.length) : ∃ c, cells[a]? = some c ∧ c ∈ cells ∧ atI (cells.map V.int) (a : Int) = some (V.int c) := by
  refine ⟨cells[a], List.getElem?_eq_getElem h, List.getElem_mem h, ?_⟩
  unfold atI
  rw [Evl.ixN_nat (by rw [List.length_map]; exact h)]
  show (cells.map V.int)[a]? = _
  rw [List.getElem?_map, List.getElem?_eq_getElem h] <;> rfl
section
variable {P : Program} {w : World} {K : PySem.W.Frag} {mg : Str → Option Value} {base : Heap}
theorem scDraw : FnScope ["_law_hand_here", "_law_many", "_law_cell", "_law_digit", "_law_number_here"] ["_law_hand_here", "_law_many"] (defScope s_law_draw) := ⟨rfl, rfl, rfl, by decide +kernel, rfl, by decide +kernel, by decide +kernel⟩
theorem ok_draw {f : Addr} {fd : FuncData} (F : Fun K "_law_draw" "_law_draw" s_law_draw f fd) (T : NmA mg) : FnOk P w K mg base CX0 1 f fd ["_law_hand_here", "_law_many"] spDraw := by
  refine F.ok scDraw (fun vs H Q E h => ?_) (fun cdv A outer s H vs Q E hr h => ?_)
  · obtain ⟨p, m, rfl, _⟩ := h
    rfl
  · obtain ⟨p, m, rfl, hm0, hm1, hH, k⟩ := h
    have hu := hu_of hr
    refine ⟨_, Evl.pss_cut (ps_if (PW.pt (pw_and (pt_cmpR op_eq (pe_dget hu (pv 0) pe_str (fun _ _ => rfl)) pe_int (nomark _)) (pw_and1 (pt_cmpR op_lt (pe_dget hu (pv 0) pe_str (fun _ _ => rfl)) (pe_callB call_len_seq (by rfl) T.len PySem.boot_len (pa_cons (pe_dget hu (pv 0) pe_str (fun _ _ => rfl)) pa_nil)) (nomark _)))))
        (pss_cons (ps_set (i := 2) scDraw.nd rfl (Or.inl rfl) (pe_ix ix_list (pe_dget hu (pv 0) pe_str (fun _ _ => rfl)) (pe_dget hu (pv 0) pe_str (fun _ _ => rfl)) (fun _ _ => rfl)))
        (pss_cons (ps_dput hu (pv 0) pe_str (pe_op op_add (pe_dget hu (pv 0) pe_str (fun _ _ => rfl)) pe_int) rfl)
        (pss_cons (ps_dput hu (pv 0) pe_str (pe_op op_mod (pe_callTy call_int1 (by rfl) T.int (by decide +kernel) (pa_cons (pe_op op_add (pe_op op_add (pe_op op_mul (pe_dget hu (pv 0) pe_str (fun _ _ => rfl)) pe_int) (pv 2)) pe_int) pa_nil)) pe_int) rfl)
        (pss_one (ps_if (pt_cmpR op_ge (pv 2) (pe_op op_pow pe_int pe_int) (nomark _)) (pss_one (ps_dput hu (pv 0) pe_str (pv 2) rfl)) pss_nil))))) pss_nil)
      (pss_cons (ps_if (pt_cmpR op_gt (pe_dget hu (pv 0) pe_str (fun _ _ => rfl)) pe_int (nomark _))
        (pss_cons (ps_set (i := 3) scDraw.nd rfl (Or.inl rfl) (pe_op op_mod (pe_callTy call_int1 (by rfl) T.int (by decide +kernel) (pa_cons (pe_dget hu (pv 0) pe_str (fun _ _ => rfl)) pa_nil)) (pv 1)))
        (pss_cons (ps_dput hu (pv 0) pe_str (pe_op op_fdiv (pe_dget hu (pv 0) pe_str (fun _ _ => rfl)) (pv 1)) rfl)
        (pss_one (ps_ret (pv 3))))) pss_nil)
      (pss_cons (ps_dput hu (pv 0) pe_str (pe_op op_add (pe_dget hu (pv 0) pe_str (fun _ _ => rfl)) pe_int) rfl)
      (pss_cons (ps_set (i := 4) scDraw.nd rfl (Or.inl rfl) (pe_op op_mod (pe_callTy call_int1 (by rfl) T.int (by decide +kernel) (pa_cons (pe_op op_mul (pe_callTy call_int1 (by rfl) T.int (by decide +kernel) (pa_cons (pe_op op_add (pe_op op_add (pe_dget hu (pv 0) pe_str (fun _ _ => rfl)) pe_int) (pe_op op_mul pe_int (pe_dget hu (pv 0) pe_str (fun _ _ => rfl)))) pa_nil)) pe_int) pa_nil)) pe_int))
      (pss_cons (ps_set (i := 4) scDraw.nd rfl (Or.inl rfl) (pe_op op_mod (pe_callTy call_int1 (by rfl) T.int (by decide +kernel) (pa_cons (pe_op op_mul (pv 4) (pe_op op_add (pe_op op_fdiv (pv 4) pe_int) pe_int)) pa_nil)) pe_int))
      (pss_cons (ps_set (i := 4) scDraw.nd rfl (Or.inl rfl) (pe_op op_mod (pe_callTy call_int1 (by rfl) T.int (by decide +kernel) (pa_cons (pe_op op_mul (pv 4) (pe_op op_add (pe_op op_fdiv (pv 4) pe_int) pe_int)) pa_nil)) pe_int))
      (pss_one (ps_ret (pe_op op_mod (pe_callTy call_int1 (by rfl) T.int (by decide +kernel) (pa_cons (pe_op op_fdiv (pv 4) pe_int) pa_nil)) (pv 1)))))))))
      , ?_⟩
    refine ⟨fun σ' H' => ∃ cv : Option V, σ' = [some (.ref p), some (.int m), cv, none, none] ∧ Stp p H H', ?_, ?_⟩
    · obtain ⟨ca, cells, a, g, s0, t, hp, hca, h63, ha, hc, hg, hs, ht⟩ := id hH
      have npc : ca ≠ p := ne_of hca hp (by intro z; cases z)
      have stop : ∃ cv : Option V, start ["_law_hand_here", "_law_many", "_law_cell", "_law_digit", "_law_number_here"] [.ref p, .int m] = [some (.ref p), some (.int m), cv, none, none] ∧ Stp p H H := ⟨none, rfl, Stp.refl hH⟩
      refine ⟨_, rfl, p, _, rfl, gt_great hp, rfl, _, rfl, ite2 (fun hg0 => ?_) (fun _ => stop)⟩
      refine ⟨_, rfl, p, _, rfl, gt_at hp, _, rfl, p, _, rfl, gt_cells hp, ca, _, rfl, .inl (SqL.of hca), _, _, rfl, rfl, _, rfl, ite2 (fun hlt => ?_) (fun _ => stop)⟩
      have hlt' : a < cells.length := by
        have z := of_decide_eq_true hlt
        rw [List.length_map] at z
        omega
      obtain ⟨c, hc1, hc2, hc3⟩ := map_at hlt'
      have c0 := hc c hc2
      -- cell = cells[at]
      refine ⟨_, rfl, p, _, rfl, gt_cells hp, _, rfl, p, _, rfl, gt_at hp, ca, _, _, _, rfl, rfl, SqL.of hca, hc3, ?_⟩
      -- at
      refine ⟨_, rfl, p, _, rfl, gt_at hp, _, _, rfl, rfl, _, rfl, p, _, rfl, pt_at hp _, ?_⟩
      -- seed
      refine ⟨_, rfl, p, _, rfl, gt_seed upd_same, _, _, rfl, rfl, .inr ⟨by decide, by decide⟩, _, rfl, _, _, rfl, rfl, _, _, rfl, rfl, .inl ⟨_, rfl, _, _, rfl, rfl, (by show (0 : Int) < 2147483629; decide), _, rfl, p, _, rfl, pt_seed upd_same _, ?_⟩⟩
      rw [upd_upd]
      -- if cell >= 10 ** 18
      refine ⟨_, rfl, _, _, rfl, rfl, ⟨by decide, by decide, by decide⟩, _, _, rfl, rfl, _, rfl, ite2 (fun _ => ?_) (fun _ => ?_)⟩
      · refine ⟨_, rfl, _, rfl, p, _, rfl, pt_great upd_same _, ?_⟩
        rw [upd_upd]
        exact ⟨_, rfl, fun b o n e => by rw [upd_ne n]; exact e, cell_to hp upd_same, ca, cells, a + 1, _, _, _, upd_same, by rw [upd_ne npc]; exact hca, h63, hlt', hc, c0, Int.emod_nonneg _ (by decide), ht⟩
      · exact ⟨_, rfl, fun b o n e => by rw [upd_ne n]; exact e, cell_to hp upd_same, ca, cells, a + 1, _, _, _, upd_same, by rw [upd_ne npc]; exact hca, h63, hlt', hc, hg, Int.emod_nonneg _ (by decide), ht⟩
    · rintro σ' H' ⟨cv, rfl, S1⟩
      obtain ⟨ca, cells, a, g, s0, t, hp, hca, h63, ha, hc, hg, hs, ht⟩ := S1.hand
      have npc : ca ≠ p := ne_of hca hp (by intro z; cases z)
      refine ⟨_, rfl, p, _, rfl, gt_great hp, _, _, rfl, rfl, _, rfl, ite2 (fun hg0 => ?_) (fun _ => ?_)⟩
      · refine ⟨_, rfl, p, _, rfl, gt_great hp, .inl ⟨_, rfl, _, rfl, _, _, rfl, rfl, hm0, ?_⟩⟩
        refine ⟨_, rfl, p, _, rfl, gt_great hp, _, rfl, _, _, rfl, rfl, ⟨hm0, hm1⟩, _, rfl, p, _, rfl, pt_great hp _, _, rfl, ?_⟩
        exact k _ _ (Int.emod_nonneg _ (by omega)) (Int.emod_lt_of_pos _ hm0) ⟨fun b o n e => by rw [upd_ne n]; exact S1.keep b o n e, fun c hc => cell_to hp upd_same c (S1.cell c hc), ca, cells, a, _, _, _, upd_same, by rw [upd_ne npc]; exact hca, h63, ha, hc, Int.ediv_nonneg hg (by omega), hs, ht⟩
      · refine ⟨_, rfl, p, _, rfl, gt_turn hp, _, _, rfl, rfl, _, rfl, p, _, rfl, pt_turn hp _, ?_⟩
        refine ⟨_, rfl, p, _, rfl, gt_seed upd_same, _, _, rfl, rfl, _, rfl, p, _, rfl, gt_turn upd_same, _, _, rfl, rfl, .inl ⟨by decide, by decide⟩, _, _, rfl, rfl, .inl ⟨_, rfl, _, _, rfl, rfl, .inr ⟨by decide, by decide⟩, .inl ⟨_, rfl, _, _, rfl, rfl, (by show (0 : Int) < 2147483647; decide), ?_⟩⟩⟩
        generalize hx : ((s0 + 1 + 7919 * (t + 1)) * 69621) % 2147483647 = x
        have x0 : 0 ≤ x := by rw [← hx]; exact Int.emod_nonneg _ (by decide)
        have x1 : x < 2147483647 := by rw [← hx]; exact Int.emod_lt_of_pos _ (by decide)
        refine ⟨_, rfl, _, rfl, _, _, rfl, rfl, ⟨by decide, by decide⟩, _, _, rfl, rfl, _, _, rfl, rfl, .inl ⟨by omega, by omega⟩, .inl ⟨_, rfl, _, _, rfl, rfl, (by show (0 : Int) < 2147483647; decide), ?_⟩⟩
        generalize hy : (x * (x / 1009 + 48271)) % 2147483647 = y
        have y0 : 0 ≤ y := by rw [← hy]; exact Int.emod_nonneg _ (by decide)
        have y1 : y < 2147483647 := by rw [← hy]; exact Int.emod_lt_of_pos _ (by decide)
        refine ⟨_, rfl, _, rfl, _, _, rfl, rfl, ⟨by decide, by decide⟩, _, _, rfl, rfl, _, _, rfl, rfl, .inl ⟨by omega, by omega⟩, .inl ⟨_, rfl, _, _, rfl, rfl, (by show (0 : Int) < 2147483399; decide), ?_⟩⟩
        refine ⟨_, rfl, _, _, rfl, rfl, ⟨by decide, by decide⟩, .inl ⟨_, rfl, _, rfl, _, _, rfl, rfl, hm0, ?_⟩⟩
        exact k _ _ (Int.emod_nonneg _ (by omega)) (Int.emod_lt_of_pos _ hm0) ⟨fun b o n e => by rw [upd_ne n]; exact S1.keep b o n e, fun c hc => cell_to hp upd_same c (S1.cell c hc), ca, cells, a, _, _, _, upd_same, by rw [upd_ne npc]; exact hca, h63, ha, hc, hg, hs, by omega⟩
theorem cut63 {xs : List V} (h : xs.length ≤ 63) : cutV xs none (some 63) = xs := by
  unfold cutV
  show (xs.drop 0).take (HT.sIx xs.length xs.length (some ((63 : Nat) : Int)) - 0) = xs
  rw [HT.sIx_nat, Nat.min_eq_right (by omega), Nat.sub_zero, List.drop_zero, List.take_length]
theorem merge_app : ∀ (more acc : List (Key × V)), ((acc ++ more).map (·.1)).Nodup → mergeK acc more = acc ++ more
  | [], acc, _ => (List.append_nil acc).symm
  | p :: r, acc, h => by
    have hn : valV acc p.1 = none := by
      unfold valV
      rw [List.find?_eq_none.mpr]
      · rfl
      · intro kv hkv e
        rw [List.map_append, List.nodup_append] at h
        exact h.2.2 kv.1 (List.mem_map_of_mem hkv) p.1 (List.mem_map_of_mem List.mem_cons_self) (of_decide_eq_true e)
    have e : putK acc p.1 p.2 = acc ++ [p] := putK_new _ hn
    show mergeK (putK acc p.1 p.2) r = acc ++ p :: r
    rw [e, merge_app r (acc ++ [p]) (by rw [List.append_assoc]; exact h), List.append_assoc] <;> rfl
theorem hd_keys : ([Sum.inr ("cells" : Str), Sum.inr ("at" : Str), Sum.inr ("great" : Str), Sum.inr ("seed" : Str), Sum.inr ("turn" : Str)] : List Key).Nodup := by decide +kernel
theorem merge_hd (ca : Addr) (a g s t : Int) : mergeK [] (hdK ca a g s t) = hdK ca a g s t := merge_app _ [] hd_keys
def spHand (K : PySem.W.Frag) : Sp := fun vs H Q _ => ∃ (a : Addr) (ns : List Int), vs = [.ref a] ∧ SqL K H a (ns.map V.int) ∧ ns.length ≤ 63 ∧ ∀ (p : Addr) (H' : Hp), H p = none → Same H H' → HandAt H' p → Q (.ref p) H'
theorem scHand : FnScope ["_law_script", "_law_cells", "_law_cell"] ["_law_script"] (defScope s_law_hand) := ⟨rfl, rfl, rfl, by decide +kernel, rfl, by decide +kernel, by decide +kernel⟩
def absI (n : Int) : Int := if n < 0 then -n else n
theorem absI_nn (n : Int) : 0 ≤ absI n := by
  unfold absI
  split <;> omega
theorem ok_hand {f : Addr} {fd : FuncData} (F : Fun K "_law_hand" "_law_hand" s_law_hand f fd) (T : NmA mg) : FnOk P w K mg base CX0 1 f fd ["_law_script"] (spHand K) := by
  refine F.ok scHand (fun vs H Q E h => ?_) (fun cdv A outer s H vs Q E hr h => ?_)
  · obtain ⟨a, ns, rfl, _⟩ := h
    rfl
  · obtain ⟨a, ns, rfl, hS, h63, k⟩ := h
    have hu := hu_of hr
    refine ⟨_, pss_cons (ps_setLc (i := 1) (own := [("_law_cell", 2)]) (g := gName 2) (tt := tYes) rfl scHand.nd rfl rfl (sw_true rfl rfl rfl (by decide +kernel)) (pi_list (pe_slice sl_list (pv 0) po_none (po_some pe_int)))
        (blkOk_by (own := [("_law_cell", 2)]) (N := ["_law_script", "_law_cells", "_law_cell"]) (sc := defScope s_law_hand) (by decide +kernel)) (fun _ _ _ _ _ => pg_name (i := 2) scHand.nd rfl (Or.inl rfl)) (fun _ _ _ _ _ => pts_nil)
        (fun _ _ _ _ _ => pe_callB call_abs (by rfl) T.abs (by decide +kernel) (pa_cons (pe_callTy call_int1 (by rfl) T.int (by decide +kernel) (pa_cons (pv 2) pa_nil)) pa_nil)))
      (pss_one (ps_ret (pe_disp (pps_cons pe_str (pv 1) (pps_cons pe_str pe_int (pps_cons pe_str pe_int (pps_cons pe_str (pe_op op_add pe_int (pe_callB call_len_seq (by rfl) T.len PySem.boot_len (pa_cons (pv 1) pa_nil))) (pps_cons pe_str pe_int pps_nil))))) (by rfl) (by rfl) (fun z => by cases z) (by decide)))), ?_⟩
    refine ⟨_, rfl, 63, rfl, a, _, rfl, hS, fun sp nsp => ?_⟩
    have h63' : (ns.map V.int).length ≤ 63 := by rw [List.length_map]; exact h63
    rw [cut63 h63']
    refine ⟨sp, rfl, ⟨_, SqL.of upd_same⟩, fun D hD => ?_⟩
    have sD : Same H (upd (upd H sp (.lst (ns.map V.int))) D (.lst [])) := fun b o e => by
      have z : upd H sp (.lst (ns.map V.int)) b = some o := by
        rw [upd_ne (ne_of_none e nsp)]
        exact e
      rw [upd_ne (ne_of_none z hD)]
      exact z
    have nDs : sp ≠ D := ne_of_none upd_same hD
    have hD0 : H D = none := by
      rw [upd_ne nDs.symm] at hD
      exact hD
    refine lc_list (K := K) (a := sp) (xs := ns.map V.int) (fun i H' => Same H H' ∧ H' sp = some (.lst (ns.map V.int)) ∧ H' D = some (.lst (((ns.take i).map absI).map V.int))) ⟨sD, by rw [upd_ne nDs, upd_same], upd_same⟩ (fun i H' _ h => SqL.of h.2.1) ?_ ?_
    · rintro i x H' hi ⟨s1, h1, h2⟩
      obtain ⟨z, hz, rfl⟩ : ∃ z, ns[i]? = some z ∧ x = V.int z := by
        rw [List.getElem?_map] at hi
        cases e : ns[i]? with
        | none => rw [e] at hi; cases hi
        | some z => rw [e] at hi; exact ⟨z, rfl, (Option.some.inj hi).symm⟩
      have hil : i < ns.length := (List.getElem?_eq_some_iff.mp hz).1
      refine ⟨rfl, _, rfl, .inl ⟨_, rfl, _, rfl, _, h2, ?_, ?_⟩⟩
      · rw [List.length_map, List.length_map, List.length_take]
        exact small1000 (by omega)
      · refine ⟨fun b o e => ?_, ?_, ?_⟩
        · have hb : b ≠ D := ne_of_none e hD0
          rw [upd_ne hb]
          exact s1 b o e
        · rw [upd_ne nDs]
          exact h1
        · rw [upd_same, List.take_add_one, hz, List.map_append, List.map_append] <;> rfl
    · rintro H' ⟨s1, h1, h2⟩
      rw [List.length_map, List.take_length] at h2
      intro p np
      have npD : D ≠ p := ne_of_none h2 np
      have s2 : Same H (upd H' p (.dK [])) := fun b o e => by
        rw [upd_ne (ne_of_none (s1 b o e) np)]
        exact s1 b o e
      refine ⟨_, rfl, _, rfl, D, _, rfl, .inl (SqL.of (by rw [upd_ne npD]; exact h2)), _, _, rfl, rfl, upd_same, hdK D 0 0 (977 + ((ns.map absI).map V.int).length) 0, rfl, (show 5 ≤ 15 by decide), ?_⟩
      rw [merge_hd, upd_upd]
      refine k p _ (s1.free np) (fun b o e => by rw [upd_ne (ne_of_none (s1 b o e) np)]; exact s1 b o e) ⟨D, ns.map absI, 0, 0, _, 0, upd_same, by rw [upd_ne npD]; exact h2, by rw [List.length_map]; exact h63, Nat.zero_le _, ?_, by decide, by omega, by decide⟩
      intro c hc
      obtain ⟨z, _, rfl⟩ := List.mem_map.mp hc
      exact absI_nn z
theorem Stp.sqL {p l : Addr} {H H' : Hp} {xs : List V} (S : Stp p H H') (hp : HandAt H p) (h : SqL K H l xs) : SqL K H' l xs := by
  obtain ⟨ca, cells, a, g, s0, t, hp, _⟩ := hp
  rcases h with (h | ⟨o, h⟩) | h
  · exact .inl (.inl (S.keep _ _ (ne_of h hp (by intro z; cases z)) h))
  · exact .inl (.inr ⟨o, S.keep _ _ (ne_of h hp (by intro z; cases z)) h⟩)
  · exact .inr h
theorem Stp.sqT {p l : Addr} {H H' : Hp} {xs : List V} (S : Stp p H H') (hp : HandAt H p) (h : SqT K H l xs) : SqT K H' l xs := by
  obtain ⟨ca, cells, a, g, s0, t, hp, _⟩ := hp
  rcases h with (h | ⟨o, h⟩) | h
  · exact .inl (.inl (S.keep _ _ (ne_of h hp (by intro z; cases z)) h))
  · exact .inl (.inr ⟨o, S.keep _ _ (ne_of h hp (by intro z; cases z)) h⟩)
  · exact .inr h
/-- a def of the module that may be called by its name -/
structure Cl (P : Program) (w : World) (K : PySem.W.Frag) (mg : Str → Option Value) (base : Heap) (CX : CXT) (k : Nat) (x : Str) (f : Addr) (fd : FuncData) (ps : List Str) (sp : Sp) : Prop where
  ok : FnOk P w K mg base CX k f fd ps sp
  b : Binds K fd ps []
  m : mg x = some (.ref f)
  kp : PySem.W.keepIn K (.ref f) = true
theorem Cl.call {X : Cx} {k : Nat} {x : Str} {f : Addr} {fd : FuncData} {ps : List Str} {sp : Sp} {p pos : Pos} {e : Expr} {es : List Expr} {t : TA} (c : Cl X.prog X.w X.K X.mg X.base CX0 k x f fd ps sp) (hr : Room k X.A) (ha : PA X (e :: es) t) (hg : Gl X x := by rfl) (hdb : (x == ("__debug__" : Str)) = false := by decide)
    (he : starEach (e :: es) X.env = (false, eval e X.env) :: starEach es X.env := by rfl) (hpl : (backTo pos (starEach es X.env)).any (·.1) = false := by rfl) :
    PE X (.Call (.Name x p) (e :: es) [] pos) (tCall sp [] E0 t) := pe_call c.ok hr hg c.m c.kp c.b .nil pass0 ha hdb he hpl
def spAny (K : PySem.W.Frag) : Sp := fun vs H Q _ => ∃ (p l : Addr) (xs : List V), vs = [.ref p, .ref l] ∧ (SqL K H l xs ∨ SqT K H l xs) ∧ 0 < xs.length ∧ xs.length < 1073741824 ∧ HandAt H p ∧ ∀ (i : Nat) (x : V) (H' : Hp), xs[i]? = some x → Stp p H H' → Q x H'
theorem scAny : FnScope ["_law_hand_here", "_law_things"] ["_law_hand_here", "_law_things"] (defScope s_law_any) := ⟨rfl, rfl, rfl, by decide +kernel, rfl, by decide +kernel, by decide +kernel⟩
theorem ok_any {f fD : Addr} {fd fdD : FuncData} (F : Fun K "_law_any" "_law_any" s_law_any f fd) (T : NmA mg) (D : Cl P w K mg base CX0 1 "_law_draw" fD fdD ["_law_hand_here", "_law_many"] spDraw) : FnOk P w K mg base CX0 2 f fd ["_law_hand_here", "_law_things"] (spAny K) := by
  refine F.ok scAny (fun vs H Q E h => ?_) (fun cdv A outer s H vs Q E hr h => ?_)
  · obtain ⟨p, l, xs, rfl, _⟩ := h
    rfl
  · obtain ⟨p, l, xs, rfl, hS, h0, h1, hH, k⟩ := h
    refine ⟨_, pss_one (ps_ret (pe_ix ix_seq (pv 1) (D.call hr (pa_cons (pv 0) (pa_cons (pe_callB call_len_seq (by rfl) T.len PySem.boot_len (pa_cons (pv 1) pa_nil)) pa_nil))) (fun _ _ => rfl))), ?_⟩
    refine ⟨_, rfl, _, rfl, _, rfl, l, xs, rfl, hS, p, _, rfl, by omega, by omega, hH, fun d H' d0 d1 S => ?_⟩
    obtain ⟨j, rfl⟩ := Int.eq_ofNat_of_zero_le d0
    have hj : j < xs.length := by omega
    have ha : atI xs ((j : Nat) : Int) = some xs[j] := by
      unfold atI
      rw [Evl.ixN_nat hj]
      exact List.getElem?_eq_getElem hj
    rcases hS with hS | hS
    · exact .inl ⟨l, xs, _, _, rfl, rfl, S.sqL hH hS, ha, k j _ H' (List.getElem?_eq_getElem hj) S⟩
    · exact .inr (.inl ⟨l, xs, _, _, rfl, rfl, S.sqT hH hS, ha, k j _ H' (List.getElem?_eq_getElem hj) S⟩)
end
end Law


namespace Law
open PySem L2
/-! ### the program's own: integers, fractions -/
def Ty3 (K : PySem.W.Frag) (H : Hp) (x : V) (bi bb : Bool) : Prop := ∃ t, TyX K H x t ∧ PySem.W.kitOne K t (.type "int") = some bi ∧ PySem.W.kitOne K t (.type "bool") = some bb
theorem ty3_int {K : PySem.W.Frag} {H : Hp} (i : Int) : Ty3 K H (.int i) true false := ⟨_, .base (.int i), kit_ty (by decide +kernel), kit_ty (by decide +kernel)⟩
theorem tyx_tup {K : PySem.W.Frag} {H : Hp} {a : Addr} {xs : List V} (h : SqT K H a xs) : TyX K H (.ref a) (.type "tuple") := by
  rcases h with (h | ⟨o, h⟩) | ⟨o, its, n, hk, hc, _⟩
  · exact .base (.tup h)
  · exact .fTuple h
  · exact .kTuple hk hc
theorem kit_tt {K : PySem.W.Frag} : PySem.W.kitOne K (.type "tuple") (.type "tuple") = some true := kit_ty (by decide +kernel)
end Law
namespace L2
open PySem
theorem Same.sqT {K : PySem.W.Frag} {H H' : Hp} {a : Addr} {xs : List V} (e : Same H H') (h : SqT K H a xs) : SqT K H' a xs := by
  rcases h with (h | ⟨o, h⟩) | h
  · exact .inl (.inl (e _ _ h))
  · exact .inl (.inr ⟨o, e _ _ h⟩)
  · exact .inr h
theorem Same.new {H : Hp} {p : Addr} {o : HO} (h : H p = none) : Same H (upd H p o) := fun b u e => by
  rw [upd_ne (ne_of_none e h)]
  exact e
theorem Same.mut {H H' : Hp} {p : Addr} {o : HO} (e : Same H H') (h : H p = none) : Same H (upd H' p o) := fun b u hb => by
  rw [upd_ne (ne_of_none hb h)]
  exact e b u hb
end L2
namespace Law
open PySem L2
section
variable {P : Program} {w : World} {K : PySem.W.Frag} {mg : Str → Option Value} {base : Heap}
def spIsInt (K : PySem.W.Frag) : Sp := fun vs H Q _ => ∃ x bi bb, vs = [x] ∧ Ty3 K H x bi bb ∧ Q (.bl (bi && !bb)) H
theorem scIsInt : FnScope ["thing"] ["thing"] (defScope s_is_integer) := ⟨rfl, rfl, rfl, by decide +kernel, rfl, by decide +kernel, by decide +kernel⟩
theorem ok_isint {f : Addr} {fd : FuncData} (F : Fun K "is_integer" "is_integer" s_is_integer f fd) (T : NmA mg) : FnOk P w K mg base CX0 1 f fd ["thing"] (spIsInt K) := by
  refine F.ok scIsInt (fun vs H Q E h => ?_) (fun cdv A outer s H vs Q E hr h => ?_)
  · obtain ⟨x, bi, bb, rfl, _⟩ := h
    rfl
  · obtain ⟨x, bi, bb, rfl, ⟨t, ty, h1, h2⟩, k⟩ := h
    refine ⟨_, pss_one (ps_ret (pe_and (pe_callB call_isi (by rfl) T.isi (by decide +kernel) (pa_cons (pv 0) (pa_cons (pe_bltn (v := .ty "int") (u := .type "int") (by rfl) T.int (by decide +kernel) rfl) pa_nil)))
      (pe_one (pe_not (pe_callB call_isi (by rfl) T.isi (by decide +kernel) (pa_cons (pv 0) (pa_cons (pe_bltn (v := .ty "bool") (u := .type "bool") (by rfl) T.bool (by decide +kernel) rfl) pa_nil))))))), ?_⟩
    refine ⟨_, rfl, _, _, _, _, _, rfl, .ty "int", ty, h1, _, rfl, ?_⟩
    cases bi with
    | true => exact iteT ⟨_, rfl, _, _, _, _, _, rfl, .ty "bool", ty, h2, _, rfl, k⟩
    | false => exact iteF k
def spWithin (K : PySem.W.Frag) : Sp := fun vs H Q _ => ∃ (lo hi : Int) (x : V), vs = [.int lo, .int hi, x] ∧ ((∃ i, x = .int i ∧ Q (.bl (decide (lo ≤ i) && decide (i ≤ hi))) H) ∨ ∃ bi bb, Ty3 K H x bi bb ∧ (bi && !bb) = false ∧ Q (.bl false) H)
theorem scWithin : FnScope ["low", "high", "thing"] ["low", "high", "thing"] (defScope s_is_within) := ⟨rfl, rfl, rfl, by decide +kernel, rfl, by decide +kernel, by decide +kernel⟩
theorem ok_within {f fI : Addr} {fd fdI : FuncData} (F : Fun K "is_within" "is_within" s_is_within f fd) (I : Cl P w K mg base CX0 1 "is_integer" fI fdI ["thing"] (spIsInt K)) : FnOk P w K mg base CX0 2 f fd ["low", "high", "thing"] (spWithin K) := by
  refine F.ok scWithin (fun vs H Q E h => ?_) (fun cdv A outer s H vs Q E hr h => ?_)
  · obtain ⟨lo, hi, x, rfl, _⟩ := h
    rfl
  · obtain ⟨lo, hi, x, rfl, h⟩ := h
    refine ⟨_, pss_one (ps_ret (pe_and (I.call hr (pa_cons (pv 2) pa_nil)) (pe_one (pe_chain op_le op_le (pv 0) (pv 2) (pv 1))))), ?_⟩
    rcases h with ⟨i, rfl, k⟩ | ⟨bi, bb, ty, hb, k⟩
    · refine ⟨_, rfl, _, true, false, rfl, ty3_int i, true, rfl, iteT ?_⟩
      refine ⟨_, rfl, _, rfl, _, _, rfl, rfl, _, rfl, ?_⟩
      refine ite2 (fun h1 => ?_) (fun h1 => ?_)
      · refine ⟨_, rfl, _, _, rfl, rfl, ?_⟩
        rw [h1, Bool.true_and] at k
        exact k
      · rw [Bool.not_eq_true] at h1
        rw [h1, Bool.false_and] at k
        exact k
    · refine ⟨_, rfl, x, bi, bb, rfl, ty, _, rfl, ?_⟩
      rw [hb]
      exact iteF k
def isW (lo hi : Int) : V → Bool
  | .int i => decide (lo ≤ i) && decide (i ≤ hi)
  | _ => false
def Known (K : PySem.W.Frag) (H : Hp) (x : V) : Prop := (∃ i, x = .int i) ∨ ∃ bi bb, Ty3 K H x bi bb ∧ (bi && !bb) = false ∧ ∀ lo hi, isW lo hi x = false
def spRowB (K : PySem.W.Frag) : Sp := fun vs H Q _ => ∃ (b : Int) (a : Addr) (xs : List V), vs = [.int b, .ref a] ∧ SqT K H a xs ∧ xs.length ≤ 1000 ∧ (∀ x ∈ xs, ∃ i, x = .int i) ∧ ∀ H', Same H H' → Q (.bl (xs.all (isW 0 (b - 1)))) H'
theorem scRowB : FnScope ["bound", "thing", "part"] ["bound", "thing"] (defScope s_is_row_below) := ⟨rfl, rfl, rfl, by decide +kernel, rfl, by decide +kernel, by decide +kernel⟩
theorem all_take {α : Type} (f : α → Bool) : ∀ xs : List α, (xs.map f).all id = xs.all f
  | [] => rfl
  | x :: xs => by rw [List.map_cons, List.all_cons, List.all_cons, all_take f xs] <;> rfl
theorem ok_rowb {f fW : Addr} {fd fdW : FuncData} (F : Fun K "is_row_below" "is_row_below" s_is_row_below f fd) (T : NmA mg) (W : Cl P w K mg base CX0 2 "is_within" fW fdW ["low", "high", "thing"] (spWithin K)) : FnOk P w K mg base CX0 3 f fd ["bound", "thing"] (spRowB K) := by
  refine F.ok scRowB (fun vs H Q E h => ?_) (fun cdv A outer s H vs Q E hr h => ?_)
  · obtain ⟨b, a, xs, rfl, _⟩ := h
    rfl
  · obtain ⟨b, a, xs, rfl, hS, hz, hx, k⟩ := h
    refine ⟨_, pss_one (ps_ret (pe_and (pe_callB call_isi (by rfl) T.isi (by decide +kernel) (pa_cons (pv 1) (pa_cons (pe_bltn (v := .ty "tuple") (u := .type "tuple") (by rfl) T.tuple (by decide +kernel) rfl) pa_nil)))
      (pe_one (pe_callB (cr_all rfl) (by rfl) T.all (by decide +kernel) (pa_cons (pe_lc (own := [("part", 2)]) (g := gName 2) (tt := tYes) rfl scRowB.nd (pi_tup (pv 1))
        (blkOk_by (own := [("part", 2)]) (N := ["bound", "thing", "part"]) (sc := defScope s_is_row_below) (by decide +kernel)) (fun _ _ _ _ _ => pg_name (i := 2) scRowB.nd rfl (Or.inl rfl)) (fun _ _ _ _ _ => pts_nil)
        (fun _ _ _ _ _ => W.call hr (pa_cons pe_int (pa_cons (pe_op op_sub (pv 0) pe_int) (pa_cons (pv 2) pa_nil))))) pa_nil))))), ?_⟩
    refine ⟨_, rfl, _, _, _, _, _, rfl, .ty "tuple", tyx_tup hS, kit_tt, _, rfl, iteT ?_⟩
    refine ⟨_, rfl, a, rfl, ⟨_, hS⟩, fun D hD => ?_⟩
    refine lc_tup (K := K) (a := a) (xs := xs) (fun i H' => Same H H' ∧ H' D = some (.lst (((xs.take i).map (isW 0 (b - 1))).map V.bl))) ⟨Same.new hD, upd_same⟩ (fun i H' _ h => h.1.sqT hS) ?_ ?_
    · rintro i x H' hi ⟨s1, h1⟩
      obtain ⟨z, rfl⟩ := hx x (List.mem_of_getElem? hi)
      refine ⟨rfl, _, rfl, _, _, rfl, rfl, _, rfl, _, _, _, rfl, .inl ⟨z, rfl, _, h1, ?_, s1.mut hD, ?_⟩⟩
      · rw [List.length_map, List.length_map, List.length_take]
        exact small1000 (by omega)
      · rw [upd_same, List.take_add_one, hi, List.map_append, List.map_append] <;> rfl
    · rintro H' ⟨s1, h1⟩
      rw [List.take_length] at h1
      refine ⟨D, _, rfl, SqL.of h1, ?_⟩
      rw [all_take]
      exact k H' s1
theorem dec_one (n : Nat) : decide (V.int (n : Int) = V.int 1) = (n == 1) := by
  rw [dec_int]
  by_cases e : n = 1
  · subst e
    rfl
  · rw [beq_eq_false_iff_ne.mpr e, beq_eq_false_iff_ne.mpr (by omega)]
def spFrac (K : PySem.W.Frag) : Sp := fun vs H Q _ => ∃ (a : Addr) (t b : Int), vs = [.ref a] ∧ SqT K H a [.int t, .int b] ∧ Q (.bl (decide (0 < b) && (Nat.gcd t.natAbs b.natAbs == 1))) H
theorem scFrac : FnScope ["thing", "top", "bottom"] ["thing"] (defScope s_is_fraction) := ⟨rfl, rfl, rfl, by decide +kernel, rfl, by decide +kernel, by decide +kernel⟩
theorem ok_frac {f fI : Addr} {fd fdI : FuncData} (F : Fun K "is_fraction" "is_fraction" s_is_fraction f fd) (T : NmA mg) (I : Cl P w K mg base CX0 1 "is_integer" fI fdI ["thing"] (spIsInt K)) : FnOk P w K mg base CX0 2 f fd ["thing"] (spFrac K) := by
  refine F.ok scFrac (fun vs H Q E h => ?_) (fun cdv A outer s H vs Q E hr h => ?_)
  · obtain ⟨a, t, b, rfl, _⟩ := h
    rfl
  · obtain ⟨a, t, b, rfl, hS, k⟩ := h
    refine ⟨_, pss_cons (ps_if (PW.pt (pw_or (pt_not (pt_val (pe_callB call_isi (by rfl) T.isi (by decide +kernel) (pa_cons (pv 0) (pa_cons (pe_bltn (v := .ty "tuple") (u := .type "tuple") (by rfl) T.tuple (by decide +kernel) rfl) pa_nil)))))
        (pw_or1 (pt_cmpR op_ne (pe_callB call_len_seq (by rfl) T.len PySem.boot_len (pa_cons (pv 0) pa_nil)) pe_int (nomark _))))) (pss_one (ps_ret pe_bl)) pss_nil)
      (pss_cons (ps_asg (pv 0) (pg_tup (by rfl) (pgs_cons (pg_name (i := 1) scFrac.nd rfl (Or.inl rfl)) (pgs_cons (pg_name (i := 2) scFrac.nd rfl (Or.inl rfl)) pgs_nil))))
      (pss_one (ps_ret (pe_and (I.call hr (pa_cons (pv 1) pa_nil)) (pe_and (I.call hr (pa_cons (pv 2) pa_nil)) (pe_and (pe_cmpR op_gt (pv 2) pe_int (nomark _)) (pe_one (pe_cmpR op_eq (pe_callBfun cr_gcd (by rfl) T.gcd (pa_cons (pv 1) (pa_cons (pv 2) pa_nil))) pe_int (nomark _))))))))), ?_⟩
    refine ⟨_, rfl, _, _, _, _, _, rfl, .ty "tuple", tyx_tup hS, kit_tt, _, rfl, ?_⟩
    refine iteF ⟨_, rfl, a, _, rfl, .inr hS, rfl, _, rfl, iteF ?_⟩
    refine ⟨_, rfl, a, _, rfl, hS, rfl, _, _, rfl, _, _, rfl, rfl, ?_⟩
    refine ⟨_, rfl, _, true, false, rfl, ty3_int t, _, rfl, iteT ⟨_, rfl, _, true, false, rfl, ty3_int b, _, rfl, iteT ⟨_, rfl, _, _, rfl, rfl, _, rfl, ?_⟩⟩⟩
    refine ite2 (fun h1 => ?_) (fun h1 => ?_)
    · refine ⟨_, rfl, _, rfl, t, b, rfl, rfl, ?_⟩
      rw [dec_one]
      rw [h1, Bool.true_and] at k
      exact k
    · rw [Bool.not_eq_true] at h1
      rw [h1, Bool.false_and] at k
      exact k
end
end Law

namespace L2
open PySem PySem.Spec PyProof.Rows
/-! ### math.lcm of great ints -/
theorem lcm_le (a b : Nat) (hb : 0 < b) (ha : 0 < a) : Nat.lcm a b ≤ a * b := Nat.le_of_dvd (Nat.mul_pos ha hb) (Nat.lcm_dvd_mul a b)
theorem lcm_lt {a b : Nat} (ha : a < 2 ^ 9000) (hb : b < 2 ^ 9000) : Nat.lcm a b < 2 ^ 18000 := by
  by_cases h0 : a = 0
  · subst h0
    rw [Nat.lcm_zero_left]
    exact Nat.two_pow_pos _
  by_cases h1 : b = 0
  · subst h1
    rw [Nat.lcm_zero_right]
    exact Nat.two_pow_pos _
  have h := lcm_le a b (Nat.pos_of_ne_zero h1) (Nat.pos_of_ne_zero h0)
  have h2 : a * b < 2 ^ 9000 * 2 ^ 9000 := Nat.mul_lt_mul_of_lt_of_lt ha hb
  rw [← Nat.pow_add] at h2
  exact Nat.lt_of_le_of_lt h h2
def rLcm : List V → Hp → VK → Prop := fun vs H Q => ∃ a b : Int, vs = [.int a, .int b] ∧ a.natAbs < 2 ^ 9000 ∧ b.natAbs < 2 ^ 9000 ∧ Q (.int ((Nat.lcm a.natAbs b.natAbs : Nat) : Int)) H
theorem cr_lcm {X : Cx} : CallR X (.builtin "math.lcm") rLcm := by
  intro pins s σ H vs us Q I r h
  obtain ⟨a, b, rfl, ha, hb, q⟩ := h
  obtain ⟨t, u, rfl⟩ := Vals.int2 r
  have l1 : ∀ {n : Nat}, n < 2 ^ 9000 → n.log2 < 9000 := fun h => PySem.Flt.log2_lt_of (by decide) h
  have m1 : max 1 a.natAbs < 2 ^ 9000 := by
    rw [Nat.max_def]
    split
    · exact ha
    · exact Nat.one_lt_two_pow (by decide)
  have m2 : max a.natAbs b.natAbs < 2 ^ 9000 := by
    rw [Nat.max_def]
    split
    · exact hb
    · exact ha
  have e : ((Nat.lcm 1 a.natAbs).lcm b.natAbs : Nat) = Nat.lcm a.natAbs b.natAbs := by rw [Nat.lcm_one_left]
  have hz : ((((Nat.lcm 1 a.natAbs).lcm b.natAbs : Nat) : Int)).natAbs.log2 < bitsLine := by
    rw [e, Int.natAbs_natCast]
    exact Nat.lt_of_lt_of_le (PySem.Flt.log2_lt_of (by decide) (lcm_lt ha hb)) (by decide)
  have c1 := l1 m1
  have c2 := l1 m2
  refine PySem.call_function_meets PySem.W.MGF.kind_lcm PySem.W.MGF.plain_lcm PySem.W.MGF.entry_lcm (PySem.W.MGF.args_lcm _ _) (PySem.W.mg_run_lcm a t b u (by omega) (by omega) hz).meets ?_
  exact ⟨.int _, H, I.tok _, ⟨_, rfl⟩, by rw [e]; exact q⟩
end L2

namespace Law
open PySem L2
/-! ### lists of fractions -/
abbrev Fr := Int × Int
def FrAt (K : PySem.W.Frag) (H : Hp) (v : V) (f : Fr) : Prop := ∃ s, v = .ref s ∧ SqT K H s [.int f.1, .int f.2]
def FrsIn (K : PySem.W.Frag) (H : Hp) (vs : List V) (fs : List Fr) : Prop := vs.length = fs.length ∧ ∀ (i : Nat) (v : V), vs[i]? = some v → ∃ f, fs[i]? = some f ∧ FrAt K H v f
def FrsAt (K : PySem.W.Frag) (H : Hp) (a : Addr) (fs : List Fr) : Prop := ∃ vs, SqL K H a vs ∧ FrsIn K H vs fs
/-- of moderate size -/
def FrOk (f : Fr) : Prop := 0 < f.2 ∧ f.2.natAbs < 2 ^ 62 ∧ f.1.natAbs < 2 ^ 62
theorem FrAt.same {K : PySem.W.Frag} {H H' : Hp} {v : V} {f : Fr} (e : Same H H') (h : FrAt K H v f) : FrAt K H' v f := by
  obtain ⟨s, h1, h2⟩ := h
  exact ⟨s, h1, e.sqT h2⟩
theorem FrsIn.same {K : PySem.W.Frag} {H H' : Hp} {vs : List V} {fs : List Fr} (e : Same H H') (h : FrsIn K H vs fs) : FrsIn K H' vs fs := ⟨h.1, fun i v hv => by
  obtain ⟨f, h1, h2⟩ := h.2 i v hv
  exact ⟨f, h1, h2.same e⟩⟩
theorem FrsAt.same {K : PySem.W.Frag} {H H' : Hp} {a : Addr} {fs : List Fr} (e : Same H H') (h : FrsAt K H a fs) : FrsAt K H' a fs := by
  obtain ⟨vs, h1, h2⟩ := h
  exact ⟨vs, e.seq h1, h2.same e⟩
def lcmAll (fs : List Fr) : Nat := fs.foldl (fun m f => Nat.lcm m f.2.natAbs) 1
theorem lcmAll_snoc (fs : List Fr) (f : Fr) : lcmAll (fs ++ [f]) = Nat.lcm (lcmAll fs) f.2.natAbs := by
  unfold lcmAll
  rw [List.foldl_append] <;> rfl
theorem lcm_fold : ∀ (fs : List Fr) (m : Nat), 0 < m → (∀ f ∈ fs, FrOk f) → 0 < fs.foldl (fun m f => Nat.lcm m f.2.natAbs) m ∧ fs.foldl (fun m f => Nat.lcm m f.2.natAbs) m ≤ m * 2 ^ (62 * fs.length)
  | [], m, hm, _ => ⟨hm, by simp⟩
  | f :: fs, m, hm, h => by
    obtain ⟨h1, h2, _⟩ := h f List.mem_cons_self
    have p : 0 < f.2.natAbs := by omega
    have q : 0 < Nat.lcm m f.2.natAbs := Nat.lcm_pos hm p
    obtain ⟨i1, i2⟩ := lcm_fold fs (Nat.lcm m f.2.natAbs) q fun g hg => h g (List.mem_cons_of_mem _ hg)
    refine ⟨i1, Nat.le_trans i2 ?_⟩
    have e1 : Nat.lcm m f.2.natAbs ≤ m * 2 ^ 62 := Nat.le_trans (lcm_le _ _ p hm) (Nat.mul_le_mul_left _ (Nat.le_of_lt h2))
    have e2 : m * 2 ^ (62 * (f :: fs).length) = m * 2 ^ 62 * 2 ^ (62 * fs.length) := by
      rw [List.length_cons, Nat.mul_add, Nat.mul_one, Nat.add_comm, Nat.pow_add, Nat.mul_assoc]
    rw [e2]
    exact Nat.mul_le_mul_right _ e1
theorem lcmAll_pos {fs : List Fr} (h : ∀ f ∈ fs, FrOk f) : 0 < lcmAll fs := (lcm_fold fs 1 (by decide) h).1
theorem lcmAll_lt {fs : List Fr} (h : ∀ f ∈ fs, FrOk f) (hl : fs.length ≤ 24) : lcmAll fs < 2 ^ 1489 := by
  have z := (lcm_fold fs 1 (by decide) h).2
  rw [Nat.one_mul] at z
  refine Nat.lt_of_le_of_lt z (Nat.pow_lt_pow_right (by decide) (by omega))
theorem pow_mono {n a b : Nat} (h : n < 2 ^ a) (hab : a ≤ b) : n < 2 ^ b := Nat.lt_of_lt_of_le h (Nat.pow_le_pow_right (by decide) hab)
section
variable {P : Program} {w : World} {K : PySem.W.Frag} {mg : Str → Option Value} {base : Heap}
def spComB (K : PySem.W.Frag) : Sp := fun vs H Q _ => ∃ (a : Addr) (fs : List Fr), vs = [.ref a] ∧ FrsAt K H a fs ∧ fs.length ≤ 24 ∧ (∀ f ∈ fs, FrOk f) ∧ Q (.int (lcmAll fs : Nat)) H
theorem scComB : FnScope ["fractions", "found", "_", "bottom"] ["fractions"] (defScope s_common_bottom) := ⟨rfl, rfl, rfl, by decide +kernel, rfl, by decide +kernel, by decide +kernel⟩
theorem ok_comb {f : Addr} {fd : FuncData} (F : Fun K "common_bottom" "common_bottom" s_common_bottom f fd) (T : NmA mg) : FnOk P w K mg base CX0 1 f fd ["fractions"] (spComB K) := by
  refine F.ok scComB (fun vs H Q E h => ?_) (fun cdv A outer s H vs Q E hr h => ?_)
  · obtain ⟨a, fs, rfl, _⟩ := h
    rfl
  · obtain ⟨a, fs, rfl, ⟨vs, hS, hF⟩, hl, ho, k⟩ := h
    refine ⟨_, pss_cons (ps_set (i := 1) scComB.nd rfl (Or.inl rfl) pe_int)
      (pss_cons (ps_for PassesOwn.never rfl (pi_list (pv 0)) (pg_tup (by rfl) (pgs_cons (pg_name (i := 2) scComB.nd rfl (Or.inl rfl)) (pgs_cons (pg_name (i := 3) scComB.nd rfl (Or.inl rfl)) pgs_nil)))
        (pss_one (ps_set (i := 1) scComB.nd rfl (Or.inl rfl) (pe_callBfun cr_lcm (by rfl) T.lcm (pa_cons (pv 1) (pa_cons (pv 3) pa_nil))))))
      (pss_one (ps_ret (pv 1)))), ?_⟩
    refine ⟨_, rfl, a, rfl, ⟨_, hS⟩, for_list (K := K) (a := a) (xs := vs) (fun i σ H' => H' = H ∧ ∃ u v : Option V, σ = [some (.ref a), some (.int (lcmAll (fs.take i) : Nat)), u, v]) ⟨rfl, none, none, rfl⟩ (fun i σ H' _ h => by rw [h.1]; exact hS) ?_ ?_⟩
    · rintro i x σ H' hi ⟨rfl, u, v, rfl⟩
      obtain ⟨g, hg, t, rfl, hT⟩ := hF.2 i x hi
      have gm : g ∈ fs := List.mem_of_getElem? hg
      obtain ⟨g1, g2, g3⟩ := ho g gm
      have hsub : ∀ f ∈ fs.take i, FrOk f := fun f hf => ho f (List.mem_of_mem_take hf)
      have hlt := lcmAll_lt hsub (by rw [List.length_take]; omega)
      refine ⟨t, _, rfl, hT, rfl, _, _, rfl, _, _, rfl, rfl, ?_⟩
      refine ⟨_, rfl, _, rfl, _, _, rfl, pow_mono (a := 1489) (by rw [Int.natAbs_natCast]; exact hlt) (by decide), pow_mono g2 (by decide), ?_⟩
      refine ⟨rfl, some (.int g.1), some (.int g.2), ?_⟩
      rw [List.take_add_one, hg]
      show _ = [some (V.ref a), some (V.int ((lcmAll (fs.take i ++ [g]) : Nat) : Int)), some (V.int g.1), some (V.int g.2)]
      rw [lcmAll_snoc]
      rfl
    · rintro σ H' ⟨rfl, u, v, rfl⟩
      refine ⟨_, rfl, ?_⟩
      rw [hF.1, List.take_length]
      exact k
def topsOf (fs : List Fr) (b : Int) : List Int := fs.map fun f => f.1 * (b / f.2)
def spTops (K : PySem.W.Frag) : Sp := fun vs H Q _ => ∃ (a : Addr) (fs : List Fr) (b : Int), vs = [.ref a, .int b] ∧ FrsAt K H a fs ∧ fs.length ≤ 24 ∧ (∀ f ∈ fs, FrOk f) ∧ ∀ p H', H p = none → Same H H' → H' p = some (.lst ((topsOf fs b).map V.int)) → Q (.ref p) H'
theorem scTops : FnScope ["fractions", "bottom", "top", "part"] ["fractions", "bottom"] (defScope s_tops_over) := ⟨rfl, rfl, rfl, by decide +kernel, rfl, by decide +kernel, by decide +kernel⟩
theorem ok_tops {f : Addr} {fd : FuncData} (F : Fun K "tops_over" "tops_over" s_tops_over f fd) : FnOk P w K mg base CX0 1 f fd ["fractions", "bottom"] (spTops K) := by
  refine F.ok scTops (fun vs H Q E h => ?_) (fun cdv A outer s H vs Q E hr h => ?_)
  · obtain ⟨a, fs, b, rfl, _⟩ := h
    rfl
  · obtain ⟨a, fs, b, rfl, ⟨vs, hS, hF⟩, hl, ho, k⟩ := h
    refine ⟨_, pss_one (ps_ret (pe_lc (own := [("top", 2), ("part", 3)]) (g := gTup K 2 (gCons (gName 2) (gCons (gName 3) gNil))) (tt := tYes) rfl scTops.nd (pi_list (pv 0))
        (blkOk_by (own := [("top", 2), ("part", 3)]) (N := ["fractions", "bottom", "top", "part"]) (sc := defScope s_tops_over) (by decide +kernel))
        (fun _ _ _ _ _ => pg_tup (by rfl) (pgs_cons (pg_name (i := 2) scTops.nd rfl (Or.inl rfl)) (pgs_cons (pg_name (i := 3) scTops.nd rfl (Or.inl rfl)) pgs_nil))) (fun _ _ _ _ _ => pts_nil)
        (fun _ _ _ _ _ => pe_op op_mul (pv 2) (pe_op op_fdivW (pv 1) (pv 3))))), ?_⟩
    refine ⟨_, rfl, a, rfl, ⟨_, hS⟩, fun D hD => ?_⟩
    refine lc_list (K := K) (a := a) (xs := vs) (fun i H' => Same H H' ∧ H' D = some (.lst ((topsOf (fs.take i) b).map V.int))) ⟨Same.new hD, upd_same⟩ (fun i H' _ h => h.1.seq hS) ?_ ?_
    · rintro i x H' hi ⟨s1, h1⟩
      obtain ⟨g, hg, t, rfl, hT⟩ := hF.2 i x hi
      obtain ⟨g1, g2, g3⟩ := ho g (List.mem_of_getElem? hg)
      have hil : i < fs.length := (List.getElem?_eq_some_iff.mp hg).1
      refine ⟨t, _, rfl, s1.sqT hT, rfl, _, _, rfl, _, _, rfl, rfl, ?_⟩
      refine ⟨rfl, _, rfl, _, rfl, _, rfl, _, _, rfl, rfl, wide_div g1 g2 (by decide) (by decide), _, _, rfl, rfl, .inl ⟨by omega, by omega⟩, _, h1, ?_, s1.mut hD, ?_⟩
      · unfold topsOf
        rw [List.length_map, List.length_map, List.length_take]
        exact small1000 (by omega)
      · unfold topsOf
        rw [upd_same, List.take_add_one, hg, List.map_append, List.map_append] <;> rfl
    · rintro H' ⟨s1, h1⟩
      rw [hF.1, List.take_length] at h1
      exact k D H' hD s1 h1
def spOne (K : PySem.W.Frag) : Sp := fun vs H Q _ => ∃ (a : Addr) (fs : List Fr), vs = [.ref a] ∧ FrsAt K H a fs ∧ fs.length ≤ 24 ∧ (∀ f ∈ fs, FrOk f) ∧ ∀ H', Same H H' → Q (.bl (decide ((topsOf fs (lcmAll fs : Nat)).sum = ((lcmAll fs : Nat) : Int)))) H'
theorem scOne : FnScope ["fractions", "bottom"] ["fractions"] (defScope s_are_one_together) := ⟨rfl, rfl, rfl, by decide +kernel, rfl, by decide +kernel, by decide +kernel⟩
theorem ok_one {f fC fT : Addr} {fd fdC fdT : FuncData} (F : Fun K "are_one_together" "are_one_together" s_are_one_together f fd) (T : NmA mg) (C : Cl P w K mg base CX0 1 "common_bottom" fC fdC ["fractions"] (spComB K))
    (U : Cl P w K mg base CX0 1 "tops_over" fT fdT ["fractions", "bottom"] (spTops K)) : FnOk P w K mg base CX0 2 f fd ["fractions"] (spOne K) := by
  refine F.ok scOne (fun vs H Q E h => ?_) (fun cdv A outer s H vs Q E hr h => ?_)
  · obtain ⟨a, fs, rfl, _⟩ := h
    rfl
  · obtain ⟨a, fs, rfl, hA, hl, ho, k⟩ := h
    refine ⟨_, pss_cons (ps_set (i := 1) scOne.nd rfl (Or.inl rfl) (C.call hr (pa_cons (pv 0) pa_nil)))
      (pss_one (ps_ret (pe_cmpR op_eq (pe_callB (cr_sum rfl) (by rfl) T.sum (by decide +kernel) (pa_cons (U.call hr (pa_cons (pv 0) (pa_cons (pv 1) pa_nil))) pa_nil)) (pv 1) (nomark _)))), ?_⟩
    refine ⟨_, rfl, a, fs, rfl, hA, hl, ho, ?_⟩
    refine ⟨_, rfl, _, rfl, a, fs, _, rfl, hA, hl, ho, fun p H' hp s1 h1 => ⟨p, _, rfl, SqL.of h1, _, rfl, rfl, ?_⟩⟩
    rw [dec_int]
    have z := k H' s1
    rw [show (((topsOf fs (lcmAll fs : Nat)).sum == ((lcmAll fs : Nat) : Int)) = decide ((topsOf fs (lcmAll fs : Nat)).sum = ((lcmAll fs : Nat) : Int))) from rfl]
    exact z
end
end Law


namespace PySem
namespace LawEnum
open AutoSeq1 (wpAny_loadPart')
theorem meets_enumerate_newT (l : Addr) (items : Array Value) (n : Nat) (dct : Option Addr) (sl : Array (Option Value)) :
    Meets (Builtin.«enumerate.__new__» ⟨[.type "enumerate", .ref l], []⟩) (fun _ R s => s.heap.get? l = some { cls := .type "tuple", dict := dct, data := .seq items n, slots := sl } ∧
      R (.ok (.ret (.ref (s.heap.push { cls := .type "tuple_iterator", data := .fields #[.ref l, .int 0 0] }).objs.size)))
        { s with heap := (s.heap.push { cls := .type "tuple_iterator", data := .fields #[.ref l, .int 0 0] }).push { cls := .type "enumerate", data := .fields #[.none, .bool false, .ref s.heap.objs.size, rawInt 0, .none, .none] } }) :=
  .of_wp fun prog w A R s h => by
    obtain ⟨hp, g, d, tk, os⟩ := s; obtain ⟨hl, h⟩ := h
    have hsub := sub_enumerate
    have hL : Heap.IsTuple (Shared.heap ⟨hp, g, d, tk, os⟩) l items := ⟨_, hl, rfl, n, rfl⟩
    wp_walk using wpAny_loadPart' hl
    refine wpAny_stack_any fun st => wpAny_pure ?_
    split
    · rename_i c _ _ _ _ _
      cases (c == Value.type "enumerate")
      · wp_walk using wpAny_loadPart' hl, wpAny_pyIter_tuple hL
        exact ⟨_, rfl, h⟩
      · wp_walk using wpAny_loadPart' hl, wpAny_pyIter_tuple hL
        exact ⟨_, rfl, h⟩
    · wp_walk using wpAny_loadPart' hl, wpAny_pyIter_tuple hL
      exact ⟨_, rfl, h⟩
section
variable {prog : Program} {w : World} {A : Around} {E : Value → Shared → Prop} {s : Shared}
theorem call_enumerate_tuple {l : Addr} {items : Array Value} {Q : Value → Shared → Prop} (hL : s.heap.IsTuple l items)
    (h : ∀ h', IsEnum h' (s.heap.objs.size + 1) s.heap.objs.size 0 .none → h'.IsTupleIter s.heap.objs.size l 0 → h'.objs.size = s.heap.objs.size + 2 →
      (∀ b o, s.heap.get? b = some o → h'.get? b = some o) → Q (.ref (s.heap.objs.size + 1)) { s with heap := h' }) :
    wpAny (model prog w) A (call (.type "enumerate") [.ref l]) Q E s := by
  obtain ⟨⟨c, dct, dt, sl⟩, hl, hc, n, hd⟩ := hL
  replace hc : c = .type "tuple" := hc
  replace hd : dt = .seq items n := hd
  subst hc hd
  refine callType_new F.called_enumerate (by decide) (F.typeCall_enumerate_1 _) (F.newCall_enumerate_1 _) (fun obj => F.args_object_init_2 obj _) F.entry_enumerate_new
    (meets_enumerate_newT l items n dct sl) ⟨hl, ?_⟩
  have hz : (s.heap.push { cls := .type "tuple_iterator", data := .fields #[.ref l, .int 0 0] }).objs.size = s.heap.objs.size + 1 := Heap.size_push ..
  show _ ∧ _
  rw [hz]
  have he : IsEnum ((s.heap.push { cls := .type "tuple_iterator", data := .fields #[.ref l, .int 0 0] }).push
      { cls := .type "enumerate", data := .fields #[.none, .bool false, .ref s.heap.objs.size, rawInt 0, .none, .none] }) (s.heap.objs.size + 1) s.heap.objs.size 0 .none := by
    have := Heap.get?_push_size (s.heap.push { cls := .type "tuple_iterator", data := .fields #[.ref l, .int 0 0] })
      (o := { cls := .type "enumerate", data := .fields #[.none, .bool false, .ref s.heap.objs.size, rawInt 0, .none, .none] }) rfl
    rw [hz] at this; exact this
  refine ⟨⟨_, he, rfl⟩, h _ he ⟨_, Heap.get?_push_of_some _ (Heap.get?_push_size _ rfl), rfl, rfl⟩ (by rw [Heap.size_push, hz]) fun b o x => Heap.get?_push_of_some _ (Heap.get?_push_of_some _ x)⟩
end
theorem draws_end {prog : Program} {w : World} {A : Around} (hh : A.handled = none) (it t : Addr) (items : Array Value) (i : Nat) (hx : items[i]? = none) :
    Draws prog w A it [it, t] 0 (fun _ _ => True) (fun _ h => h.IsTupleIter it t i ∧ h.IsTuple t items) where
  live := fun _ _ st => let ⟨o, ho, _⟩ := st.1; ⟨o, ho⟩
  frame := fun _ _ _ st hk => ⟨st.1.at fun o e => hk it (by simp) o e, st.2.at fun o e => hk t (by simp) o e⟩
  item := fun i s Q E hi st hQ => absurd hi (Nat.not_lt_zero i)
  done := fun s Q E st hE => wpAny_nextOf_tuple_end hh st.1 st.2 hx hE
end LawEnum
end PySem
namespace L2
open PySem PySem.Spec PyProof.Rows
/-- the tuple at a, item by item, each in a new pair with its number -/
def IteT (K : PySem.W.Frag) (a : Addr) : It :=
  ⟨fun i H => ∃ (xs : List V) (x : V), SqT K H a xs ∧ xs[i]? = some x, fun i H v H' => ∃ T x, v = .ref T ∧ H T = none ∧ H' = upd H T (.tup [.int (i : Nat), x]) ∧ ∀ xs, SqT K H a xs → xs[i]? = some x, fun i H => ∃ xs : List V, SqT K H a xs ∧ xs.length ≤ i⟩
theorem turn_enumT {P : Program} {w : World} {K : PySem.W.Frag} {elts : List Expr} {kk : Nat} {tpos : Pos} (a e it : Addr) :
    Turn P w K (.Tuple elts kk tpos) (IteT K a) [e, it] e (fun i h => (∃ old, IsEnum h e it ((i : Nat) : Int) old) ∧ h.IsTupleIter it a i ∧ e ≠ it ∧ a ≠ it ∧ e ≠ a) where
  mem := by simp
  obj := fun i h st b hb => by
    obtain ⟨⟨old, he⟩, ⟨o, ho, hc, hd⟩, _⟩ := st
    have e' : b = e ∨ b = it := by simpa using hb
    rcases e' with z | z
    · rw [z]; exact ⟨_, he, fun v q => nomatch q⟩
    · rw [z]; exact ⟨o, ho, fun v q => by rw [hd] at q; cases q⟩
  keep := fun i h h' st k => let ⟨⟨old, he⟩, hi, hne, h1, h2⟩ := st; ⟨⟨old, k e (by simp) _ he⟩, hi.at fun o q => k it (by simp) o q, hne, h1, h2⟩
  item := by
    intro X hP hw hK hc i pins s σ H E I hf st hg
    subst hP hw hK
    obtain ⟨⟨old, he⟩, hit, hne, hai, hea⟩ := st
    obtain ⟨xs, x, hq, hx⟩ := hg
    obtain ⟨its, rv, p, hz⟩ := I.tuple hq
    obtain ⟨u, hu, ru⟩ := rv.get hx
    have hel : e < s.heap.objs.size := Heap.lt_size he
    have hil : it < s.heap.objs.size := by obtain ⟨_, q, _⟩ := hit; exact Heap.lt_size q
    have hlt : i < its.toArray.size := by
      have z := (List.getElem?_eq_some_iff.mp hu).1
      simpa using z
    have D := Draws.tuple (prog := X.prog) (w := X.w) (A := X.A.in1) (I.ok.hd hc) it a hai its.toArray
    refine wpAny_pyNext_enum_itemD D he ⟨hit, p⟩ hlt hne (by simp [hne, hea]) fun x' h' tk hPx ho hit' hT hsz hk => ?_
    have ex : x' = u := by
      have z : its.toArray[i]? = some x' := hPx
      have z2 : its.toArray[i]? = some u := by simpa using hu
      rw [z2] at z
      exact (Option.some.inj z).symm
    subst ex
    refine ⟨_, rfl, wpAny_letOwnedTupleGo_enum (s := { s with heap := h', toks := tk + 1 }) ho fun h'' he' sb => ?_⟩
    have hT2 : h''.get? s.heap.objs.size = some { cls := .type "tuple", data := .seq #[.int i tk, x'] } := (sb.2 _ (Nat.ne_of_gt hel)).trans hT
    have new : ObjOk X.prog X.w (upd H s.heap.objs.size (.tup [.int (i : Nat), x])) h'' s.heap.objs.size (.tup [.int (i : Nat), x]) :=
      ⟨by show 2 ≤ sizeLine; decide, [.int i tk, x'], .cons ⟨_, rfl⟩ (.cons ru .nil), ⟨_, hT2, rfl, _, rfl⟩⟩
    have I1 : Inv X pins σ (upd H s.heap.objs.size (.tup [.int (i : Nat), x])) { s with heap := h'', toks := tk + 1 } :=
      I.turnedNew (ch := [e, it]) (fun b ob hb q => (sb.2 b (fun z => hb (by simp [z]))).trans (hk b ob (fun z => hb (by simp [z])) (fun z => hb (by simp [z])) q)) hf (Nat.le_refl _) new
    refine ⟨.ref s.heap.objs.size, _, I1, rfl, ⟨_, x, rfl, I.hok.fresh (Nat.le_refl _), rfl, fun ys hy => by rw [I.tuple_inj hy hq]; exact hx⟩, ⟨⟨x', ?_⟩, hit'.1.at fun o q => (sb.2 it (Ne.symm hne)).trans q, hne, hai, hea⟩, fun b hb => ?_⟩
    · have e1 : ((i + 1 : Nat) : Int) = (i : Int) + 1 := by omega
      rw [e1]; exact he'
    · have hb' : b < s.heap.objs.size := by
        have e' : b = e ∨ b = it := by simpa using hb
        rcases e' with z | z
        · rw [z]; exact hel
        · rw [z]; exact hil
      rw [upd_ne (Nat.ne_of_lt hb')]
      exact (hf b hb).1
  done := by
    intro X hP hw hK hc i pins s σ H E I hf st hg
    subst hP hw hK
    obtain ⟨⟨old, he⟩, hit, hne, hai, hea⟩ := st
    obtain ⟨xs, hq, hx⟩ := hg
    obtain ⟨its, rv, p, hz⟩ := I.tuple hq
    obtain ⟨f0, f1, f2, f3, f4, f5⟩ := hf it (by simp)
    have hl := rv.length
    have D := LawEnum.draws_end (prog := X.prog) (w := X.w) (A := X.A.in1) (I.ok.hd hc) it a its.toArray i (by simp; omega)
    exact wpAny_pyNext_enum_endD D he ⟨hit, p⟩ fun h' eb => ⟨rfl, I.turned (t' := s.toks) (fun b o hb q => eb b o hb q) f0 f1 f3 f4 f5⟩
  self := fun A i s Q E st h => let ⟨⟨_, he⟩, _⟩ := st; wpAny_pyIter_enum he h
def iEnumT (K : PySem.W.Frag) (ta : TA) : TI := fun σ H R => ta σ H fun vs H1 => ∃ a xs, vs = [.ref a] ∧ SqT K H1 a xs ∧ R (IteT K a) H1
theorem pi_enumT {X : Cx} {e : Expr} {ta : TA} {p pos tpos : Pos} {elts : List Expr} {kk : Nat} (hg : Gl X "enumerate") (hm : X.mg "enumerate" = none) (ha : PA X [e] ta) (hs : starEach [e] X.env = [(false, eval e X.env)] := by rfl) :
    PI X (.Tuple elts kk tpos) (.Call (.Name "enumerate" p) [e] [] pos) (iEnumT X.K ta) := by
  refine ⟨fun pins s σ H R I h => ?_⟩
  refine Call_ (ld_blt I hg hm boot_enumerate (PyProof.Rows.callWith_type1 (thn (ha.run pos pins s σ H _ I h) fun us s1 ⟨vs, H1, I1, r1, q1⟩ => ?_) hs rfl))
  obtain ⟨a, xs, ex, hq, q⟩ := q1
  subst ex
  cases r1 with
  | cons r rr =>
    cases rr
    cases r
    obtain ⟨its, rv, p', hz⟩ := I1.tuple hq
    have hal : a < s1.heap.objs.size := by obtain ⟨o, ho, _⟩ := p'; exact Heap.lt_size ho
    refine LawEnum.call_enumerate_tuple p' fun h' he hit hsz hk => wpAny_pyIter_enum he ?_
    have I2 : Inv X pins σ H1 { s1 with heap := h' } := I1.kept (t' := s1.toks) hk
    refine ⟨s1.heap.objs.size + 1, [s1.heap.objs.size + 1, s1.heap.objs.size], _, _, H1, rfl, I2, turn_enumT a (s1.heap.objs.size + 1) s1.heap.objs.size, ⟨⟨.none, he⟩, hit, Nat.succ_ne_self _, Nat.ne_of_lt hal, Nat.ne_of_gt (Nat.lt_succ_of_lt hal)⟩, fun b hb => ?_, q⟩
    have e' : b = s1.heap.objs.size + 1 ∨ b = s1.heap.objs.size := by simpa using hb
    have hle : s1.heap.objs.size ≤ b := by
      rcases e' with z | z
      · rw [z]; exact Nat.le_add_right _ _
      · rw [z]; exact Nat.le_refl _
    exact I1.fpOk hle (I1.hok.fresh hle)
theorem walk_enumT {K : PySem.W.Frag} {a : Addr} {xs : List V} : Walk (IteT K a) xs.length (fun H => SqT K H a xs) (fun i H v H' => ∃ T x, v = .ref T ∧ H T = none ∧ H' = upd H T (.tup [.int (i : Nat), x]) ∧ xs[i]? = some x) where
  goes := fun i H hi h => ⟨xs, xs[i], h, List.getElem?_eq_getElem hi⟩
  stops := fun H h => ⟨xs, h, Nat.le_refl _⟩
  yields := fun i H x H' hi h ⟨T, y, h1, h2, h3, h4⟩ => ⟨T, y, h1, h2, h3, h4 xs h⟩
end L2


namespace Law
open PySem L2
/-! ### data: ints, tuples of ints, moves -/
def tupD (l : List Int) : PyData := .tuple (l.map .int)
def frD (f : Fr) : PyData := .tuple [.int f.1, .int f.2]
abbrev Mv := Fr × List Int
def mvD (m : Mv) : PyData := .tuple [frD m.1, tupD m.2]
def mvsD (ms : List Mv) : PyData := .tuple (ms.map mvD)
theorem eqvAll_map {α : Type} [DecidableEq α] (g : α → PyData) (hg : ∀ a b, PyData.eqv (g a) (g b) = decide (a = b)) : ∀ xs ys : List α, PyData.eqvAll (xs.map g) (ys.map g) = decide (xs = ys)
  | [], [] => by simp [PyData.eqvAll]
  | [], _ :: _ => by simp [PyData.eqvAll]
  | _ :: _, [] => by simp [PyData.eqvAll]
  | x :: xs, y :: ys => by
    rw [List.map_cons, List.map_cons, PyData.eqvAll, hg, eqvAll_map g hg xs ys]
    by_cases h1 : x = y <;> by_cases h2 : xs = ys <;> simp [h1, h2]
theorem eqv_int (a b : Int) : PyData.eqv (.int a) (.int b) = decide (a = b) := by
  rw [PyData.eqv]
  rfl
theorem eqv_tupD (a b : List Int) : PyData.eqv (tupD a) (tupD b) = decide (a = b) := by
  unfold tupD
  rw [PyData.eqv]
  exact eqvAll_map PyData.int eqv_int a b
theorem eqv_frD (a b : Fr) : PyData.eqv (frD a) (frD b) = decide (a = b) := by
  obtain ⟨a1, a2⟩ := a
  obtain ⟨b1, b2⟩ := b
  unfold frD
  rw [PyData.eqv, PyData.eqvAll, PyData.eqvAll, PyData.eqvAll, eqv_int, eqv_int]
  by_cases h1 : a1 = b1 <;> by_cases h2 : a2 = b2 <;> simp [h1, h2]
theorem eqv_mvD (a b : Mv) : PyData.eqv (mvD a) (mvD b) = decide (a = b) := by
  obtain ⟨a1, a2⟩ := a
  obtain ⟨b1, b2⟩ := b
  unfold mvD
  rw [PyData.eqv, PyData.eqvAll, PyData.eqvAll, PyData.eqvAll, eqv_frD, eqv_tupD]
  by_cases h1 : a1 = b1 <;> by_cases h2 : a2 = b2 <;> simp [h1, h2]
theorem eqv_mvsD (a b : List Mv) : PyData.eqv (mvsD a) (mvsD b) = decide (a = b) := by
  unfold mvsD
  rw [PyData.eqv]
  exact eqvAll_map mvD eqv_mvD a b
theorem lay_all {α : Type} (g : α → PyData) (n : Nat) (hg : ∀ a, (g a).canLay0 = true ∧ (g a).depth ≤ n) : ∀ xs : List α, PyData.canLayAll0 (xs.map g) = true ∧ PyData.depthAll (xs.map g) ≤ n
  | [] => by simp [PyData.canLayAll0, PyData.depthAll]
  | x :: xs => by
    obtain ⟨h1, h2⟩ := hg x
    obtain ⟨h3, h4⟩ := lay_all g n hg xs
    rw [List.map_cons, PyData.canLayAll0, PyData.depthAll, h1, h3]
    exact ⟨rfl, Nat.max_le.mpr ⟨h2, h4⟩⟩
theorem lay_int (a : Int) : (PyData.int a).canLay0 = true ∧ (PyData.int a).depth ≤ 0 := by simp [PyData.canLay0, PyData.depth]
theorem lay_tupD (a : List Int) : (tupD a).canLay0 = true ∧ (tupD a).depth ≤ 1 := by
  have h := lay_all PyData.int 0 lay_int a
  unfold tupD
  rw [PyData.canLay0, PyData.depth]
  exact ⟨h.1, by omega⟩
theorem lay_frD (a : Fr) : (frD a).canLay0 = true ∧ (frD a).depth ≤ 1 := by simp [frD, PyData.canLay0, PyData.canLayAll0, PyData.depth, PyData.depthAll]
theorem lay_mvD (a : Mv) : (mvD a).canLay0 = true ∧ (mvD a).depth ≤ 2 := by
  have h1 := lay_frD a.1
  have h2 := lay_tupD a.2
  unfold mvD
  rw [PyData.canLay0, PyData.canLayAll0, PyData.canLayAll0, PyData.canLayAll0, PyData.depth, PyData.depthAll, PyData.depthAll, PyData.depthAll, h1.1, h2.1]
  exact ⟨rfl, by omega⟩
theorem lay_mvsD (a : List Mv) : (mvsD a).canLay0 = true ∧ (mvsD a).depth ≤ 3 := by
  have h := lay_all mvD 2 lay_mvD a
  unfold mvsD
  rw [PyData.canLay0, PyData.depth]
  exact ⟨h.1, by omega⟩
theorem shaped_of {d : PyData} {n : Nat} (h : d.canLay0 = true ∧ d.depth ≤ n) (hn : n ≤ 64) : SeqAt.shaped d = true := by
  unfold SeqAt.shaped
  rw [h.1, Bool.true_and, decide_eq_true (Nat.le_trans h.2 hn)]
theorem dp_ints {K : PySem.W.Frag} {H : Hp} : ∀ l : List Int, DpAll K H (l.map V.int) (l.map PyData.int)
  | [] => .nil
  | x :: l => .cons (.int x) (dp_ints l)
/-! ### moves and systems -/
def MvAt (K : PySem.W.Frag) (H : Hp) (v : V) (m : Mv) : Prop := ∃ a s l, v = .ref a ∧ SqT K H a [.ref s, .ref l] ∧ SqT K H s [.int m.1.1, .int m.1.2] ∧ SqT K H l (m.2.map V.int)
def MvsIn (K : PySem.W.Frag) (H : Hp) (vs : List V) (ms : List Mv) : Prop := vs.length = ms.length ∧ ∀ (i : Nat) (v : V), vs[i]? = some v → ∃ m, ms[i]? = some m ∧ MvAt K H v m
def MvsAt (K : PySem.W.Frag) (H : Hp) (a : Addr) (ms : List Mv) : Prop := ∃ vs, SqT K H a vs ∧ MvsIn K H vs ms
theorem MvAt.same {K : PySem.W.Frag} {H H' : Hp} {v : V} {m : Mv} (e : Same H H') (h : MvAt K H v m) : MvAt K H' v m := by
  obtain ⟨a, s, l, h1, h2, h3, h4⟩ := h
  exact ⟨a, s, l, h1, e.sqT h2, e.sqT h3, e.sqT h4⟩
theorem MvsIn.same {K : PySem.W.Frag} {H H' : Hp} {vs : List V} {ms : List Mv} (e : Same H H') (h : MvsIn K H vs ms) : MvsIn K H' vs ms := ⟨h.1, fun i v hv => by
  obtain ⟨m, h1, h2⟩ := h.2 i v hv
  exact ⟨m, h1, h2.same e⟩⟩
theorem MvsAt.same {K : PySem.W.Frag} {H H' : Hp} {a : Addr} {ms : List Mv} (e : Same H H') (h : MvsAt K H a ms) : MvsAt K H' a ms := by
  obtain ⟨vs, h1, h2⟩ := h
  exact ⟨vs, e.sqT h1, h2.same e⟩
theorem dp_mv {K : PySem.W.Frag} {H : Hp} {v : V} {m : Mv} (h : MvAt K H v m) : Dp K H v (mvD m) := by
  obtain ⟨a, s, l, rfl, h2, h3, h4⟩ := h
  exact .tup h2 (.cons (.tup h3 (.cons (.int _) (.cons (.int _) .nil))) (.cons (.tup h4 (dp_ints _)) .nil))
theorem dp_mvs {K : PySem.W.Frag} {H : Hp} : ∀ {vs : List V} {ms : List Mv}, MvsIn K H vs ms → DpAll K H vs (ms.map mvD)
  | [], [], _ => .nil
  | [], _ :: _, h => absurd h.1 (by simp)
  | _ :: _, [], h => absurd h.1 (by simp)
  | v :: vs, m :: ms, h => by
    obtain ⟨m', e, hm⟩ := h.2 0 v rfl
    cases e
    exact .cons (dp_mv hm) (dp_mvs ⟨by simpa using h.1, fun i x hx => h.2 (i + 1) x (by simpa using hx)⟩)
theorem dp_mvsAt {K : PySem.W.Frag} {H : Hp} {a : Addr} {ms : List Mv} (h : MvsAt K H a ms) : Dp K H (.ref a) (mvsD ms) := by
  obtain ⟨vs, h1, h2⟩ := h
  exact .tup h1 (dp_mvs h2)
def MvOk (many : Nat) (m : Mv) : Prop := FrOk m.1 ∧ 0 < m.1.1 ∧ Nat.gcd m.1.1.natAbs m.1.2.natAbs = 1 ∧ m.2.length = many ∧ ∀ x ∈ m.2, 0 ≤ x ∧ x < (many : Int)
abbrev OneOk (fs : List Fr) : Prop := (topsOf fs (lcmAll fs : Nat)).sum = ((lcmAll fs : Nat) : Int)
structure SysOk (many : Nat) (ms : List Mv) : Prop where
  m1 : 1 ≤ many
  m2 : many ≤ 12
  l1 : 1 ≤ ms.length
  l2 : ms.length ≤ 24
  mv : ∀ m ∈ ms, MvOk many m
  one : OneOk (ms.map (·.1))
theorem nMM : ¬ (("many" : Str) = "moves") := by decide +kernel
def sysF (many : Nat) (mv : Addr) : List (Str × V) := putF "moves" (.ref mv) (putF "many" (.int (many : Int)) [])
theorem sysF_eq (many : Nat) (mv : Addr) : sysF many mv = ([("many", V.int (many : Int)), ("moves", V.ref mv)] : List (Str × V)) := by
  show (if ("many" : Str) = "moves" then [(("many" : Str), V.ref mv)] else (("many" : Str), V.int (many : Int)) :: putF "moves" (V.ref mv) []) = _
  rw [if_neg nMM] <;> rfl
theorem sysF_many (many : Nat) (mv : Addr) : (sysF many mv).lookup ("many" : Str) = some (.int (many : Int)) := by
  unfold sysF
  rw [lookup_putF, if_neg nMM, lookup_putF, if_pos rfl]
theorem sysF_moves (many : Nat) (mv : Addr) : (sysF many mv).lookup ("moves" : Str) = some (.ref mv) := by
  unfold sysF
  rw [lookup_putF, if_pos rfl]
/-- a System stands at p -/
def SysAt (K : PySem.W.Frag) (C : Addr) (H : Hp) (p : Addr) (many : Nat) (ms : List Mv) : Prop := ∃ dx mv, H p = some (.ins C dx (sysF many mv)) ∧ MvsAt K H mv ms
theorem SysAt.same {K : PySem.W.Frag} {C : Addr} {H H' : Hp} {p : Addr} {many : Nat} {ms : List Mv} (e : Same H H') (h : SysAt K C H p many ms) : SysAt K C H' p many ms := by
  obtain ⟨dx, mv, h1, h2⟩ := h
  exact ⟨dx, mv, e _ _ h1, h2.same e⟩
/-- the class System, as the top has made it -/
structure SysT (K : PySem.W.Frag) (mg : Str → Option Value) (C : Addr) : Prop where
  cl : Cls K C
  nK : NoAttr K C "many"
  nM : NoAttr K C "moves"
  mgC : mg "System" = some (.ref C)
  ha : PySem.W.findIn K (.ref C) "__class__" = some (some (.builtin "object.__class__"))
  hn : PySem.W.specialIn K (.builtin "object.__class__") "__get__" = some (some (.builtin "getset_descriptor.__get__"))
  ht : PySem.W.takesIn K (.builtin "object.__class__") = some true
  hm : PySem.W.mroIn K C (.type "object") = some true
theorem SysAt.ty {K : PySem.W.Frag} {mg : Str → Option Value} {C : Addr} {H : Hp} {p : Addr} {many : Nat} {ms : List Mv} (T : SysT K mg C) (h : SysAt K C H p many ms) : TyX K H (.ref p) (.ref C) := by
  obtain ⟨dx, mv, h1, _⟩ := h
  exact .base (.ins h1 T.cl T.ha T.hn T.ht T.hm)
theorem kit_self {K : PySem.W.Frag} {v : Value} (h : (v == v) = true) : PySem.W.kitOne K v v = some true := by
  unfold PySem.W.kitOne
  rw [if_pos h]
theorem at0 (x y : V) : atI [x, y] (0 : Int) = some x := by
  unfold atI
  rw [show ixN [x, y].length (0 : Int) = some 0 from Evl.ixN_nat (n := 2) (j := 0) (by decide)]
  rfl
section
variable {P : Program} {w : World} {K : PySem.W.Frag} {mg : Str → Option Value} {base : Heap}
def spMove (K : PySem.W.Frag) : Sp := fun vs H Q _ => ∃ (many : Nat) (v : V) (m : Mv), vs = [.int (many : Int), v] ∧ many ≤ 12 ∧ MvAt K H v m ∧ MvOk many m ∧ ∀ H', Same H H' → Q (.bl true) H'
theorem scMove : FnScope ["many", "thing", "share", "leads"] ["many", "thing"] (defScope s_is_move) := ⟨rfl, rfl, rfl, by decide +kernel, rfl, by decide +kernel, by decide +kernel⟩
theorem ok_move {f fF fR : Addr} {fd fdF fdR : FuncData} (F : Fun K "is_move" "is_move" s_is_move f fd) (T : NmA mg) (G : Cl P w K mg base CX0 2 "is_fraction" fF fdF ["thing"] (spFrac K))
    (R : Cl P w K mg base CX0 3 "is_row_below" fR fdR ["bound", "thing"] (spRowB K)) : FnOk P w K mg base CX0 4 f fd ["many", "thing"] (spMove K) := by
  refine F.ok scMove (fun vs H Q E h => ?_) (fun cdv A outer s H vs Q E hr h => ?_)
  · obtain ⟨many, v, m, rfl, _⟩ := h
    rfl
  · obtain ⟨many, v, m, rfl, h12, ⟨a, t, l, rfl, hA, hT, hL⟩, ⟨⟨f1, f2, f3⟩, f4, f5, f6, f7⟩, k⟩ := h
    refine ⟨_, pss_cons (ps_if (PW.pt (pw_or (pt_not (pt_val (pe_callB call_isi (by rfl) T.isi (by decide +kernel) (pa_cons (pv 1) (pa_cons (pe_bltn (v := .ty "tuple") (u := .type "tuple") (by rfl) T.tuple (by decide +kernel) rfl) pa_nil)))))
        (pw_or1 (pt_cmpR op_ne (pe_callB call_len_seq (by rfl) T.len PySem.boot_len (pa_cons (pv 1) pa_nil)) pe_int (nomark _))))) (pss_one (ps_ret pe_bl)) pss_nil)
      (pss_cons (ps_asg (pv 1) (pg_tup (by rfl) (pgs_cons (pg_name (i := 2) scMove.nd rfl (Or.inl rfl)) (pgs_cons (pg_name (i := 3) scMove.nd rfl (Or.inl rfl)) pgs_nil))))
      (pss_one (ps_ret (pe_and (G.call (hr.mono (by decide)) (pa_cons (pv 2) pa_nil)) (pe_and (pe_cmpR op_gt (pe_ix ix_tup (pv 2) pe_int (fun _ _ => rfl)) pe_int (nomark _)) (pe_and (R.call hr (pa_cons (pv 0) (pa_cons (pv 3) pa_nil)))
        (pe_one (pe_cmpR op_eq (pe_callB call_len_seq (by rfl) T.len PySem.boot_len (pa_cons (pv 3) pa_nil)) (pv 0) (nomark _))))))))), ?_⟩
    refine ⟨_, rfl, _, _, _, _, _, rfl, .ty "tuple", tyx_tup hA, kit_tt, _, rfl, ?_⟩
    refine iteF ⟨_, rfl, a, _, rfl, .inr hA, rfl, _, rfl, iteF ?_⟩
    refine ⟨_, rfl, a, _, rfl, hA, rfl, _, _, rfl, _, _, rfl, rfl, ?_⟩
    refine ⟨_, rfl, t, _, _, rfl, hT, _, rfl, ?_⟩
    rw [decide_eq_true f1, f5]
    refine iteT ⟨_, rfl, t, _, _, _, rfl, rfl, hT, at0 _ _, _, _, rfl, rfl, _, rfl, ?_⟩
    rw [decide_eq_true f4]
    refine iteT ⟨_, rfl, _, rfl, _, l, _, rfl, hL, ?_, ?_, fun H' s1 => ⟨_, rfl, ?_⟩⟩
    · rw [List.length_map]
      omega
    · intro x hx
      obtain ⟨i, _, rfl⟩ := List.mem_map.mp hx
      exact ⟨i, rfl⟩
    · have hall : (m.2.map V.int).all (isW 0 ((many : Int) - 1)) = true := by
        rw [List.all_eq_true]
        intro x hx
        obtain ⟨i, hi, rfl⟩ := List.mem_map.mp hx
        obtain ⟨g1, g2⟩ := f7 i hi
        show (decide (0 ≤ i) && decide (i ≤ (many : Int) - 1)) = true
        rw [decide_eq_true g1, decide_eq_true (show i ≤ (many : Int) - 1 by omega)] <;> rfl
      rw [hall]
      refine iteT ⟨_, rfl, l, _, rfl, .inr (s1.sqT hL), _, rfl, rfl, ?_⟩
      rw [List.length_map, f6, decide_eq_true rfl]
      exact k H' s1
def spSInit (K : PySem.W.Frag) (C : Addr) : Sp := fun vs H Q _ => ∃ (p dx : Addr) (many : Nat) (mv : Addr) (ms : List Mv), vs = [.ref p, .int (many : Int), .ref mv] ∧ H p = some (.ins C dx []) ∧ MvsAt K H mv ms ∧ SysOk many ms ∧
  ∀ H', (∀ b o, b ≠ p → H b = some o → H' b = some o) → H' p = some (.ins C dx (sysF many mv)) → Q .non H'
theorem scSInit : FnScope ["self", "many", "moves", "number", "move", "share", "_"] ["self", "many", "moves"] (defScope s_System_init) := ⟨rfl, rfl, rfl, by decide +kernel, rfl, by decide +kernel, by decide +kernel⟩
theorem ok_sinit {f C fW fM fO : Addr} {fd fdW fdM fdO : FuncData} (F : Fun K "__init__" "System.__init__" s_System_init f fd) (T : NmA mg) (S : SysT K mg C) (W : Cl P w K mg base CX0 2 "is_within" fW fdW ["low", "high", "thing"] (spWithin K))
    (M : Cl P w K mg base CX0 4 "is_move" fM fdM ["many", "thing"] (spMove K)) (O : Cl P w K mg base CX0 2 "are_one_together" fO fdO ["fractions"] (spOne K)) : FnOk P w K mg base CX0 5 f fd ["self", "many", "moves"] (spSInit K C) := by
  refine F.ok scSInit (fun vs H Q E h => ?_) (fun cdv A outer s H vs Q E hr h => ?_)
  · obtain ⟨p, dx, many, mv, ms, rfl, _⟩ := h
    rfl
  · obtain ⟨p, dx, many, mv, ms, rfl, hp, ⟨vs, hV, hM⟩, ok, k⟩ := h
    have hvl : vs.length = ms.length := hM.1
    refine ⟨_, pss_cons (ps_if (pt_not (pt_val (W.call (hr.mono (by decide)) (pa_cons pe_int (pa_cons pe_int (pa_cons (pv 1) pa_nil)))))) pss_never pss_nil)
      (pss_cons (ps_if (PW.pt (pw_or (pt_not (pt_val (pe_callB call_isi (by rfl) T.isi (by decide +kernel) (pa_cons (pv 2) (pa_cons (pe_bltn (v := .ty "tuple") (u := .type "tuple") (by rfl) T.tuple (by decide +kernel) rfl) pa_nil)))))
        (pw_or1 (pt_not (pt_chain op_le op_le pe_int (pe_callB call_len_seq (by rfl) T.len PySem.boot_len (pa_cons (pv 2) pa_nil)) pe_int))))) pss_never pss_nil)
      (pss_cons (ps_for PassesOwn.never rfl (pi_enumT (by rfl) T.enum (pa_cons (pv 2) pa_nil)) (pg_tup (by rfl) (pgs_cons (pg_name (i := 3) scSInit.nd rfl (Or.inl rfl)) (pgs_cons (pg_name (i := 4) scSInit.nd rfl (Or.inl rfl)) pgs_nil)))
        (pss_one (ps_if (pt_not (pt_val (M.call hr (pa_cons (pv 1) (pa_cons (pv 4) pa_nil))))) pss_never pss_nil)))
      (pss_cons (ps_if (pt_not (pt_val (O.call (hr.mono (by decide)) (pa_cons (pe_lc (own := [("share", 5), ("_", 6)]) (g := gTup K 2 (gCons (gName 5) (gCons (gName 6) gNil))) (tt := tYes) rfl scSInit.nd (pi_tup (pv 2))
          (blkOk_by (own := [("share", 5), ("_", 6)]) (N := ["self", "many", "moves", "number", "move", "share", "_"]) (sc := defScope s_System_init) (by decide +kernel))
          (fun _ _ _ _ _ => pg_tup (by rfl) (pgs_cons (pg_name (i := 5) scSInit.nd rfl (Or.inl rfl)) (pgs_cons (pg_name (i := 6) scSInit.nd rfl (Or.inl rfl)) pgs_nil))) (fun _ _ _ _ _ => pts_nil) (fun _ _ _ _ _ => pv 5)) pa_nil)))) pss_never pss_nil)
      (pss_cons (ps_fld (pv 0) (pv 1) rfl) (pss_one (ps_fld (pv 0) (pv 2) rfl)))))), ?_⟩
    -- is_within(1, 12, many)
    refine ⟨_, rfl, 1, 12, _, rfl, .inl ⟨(many : Int), rfl, _, rfl, ?_⟩⟩
    rw [decide_eq_true (show (1 : Int) ≤ (many : Int) by have := ok.m1; omega), decide_eq_true (show (many : Int) ≤ 12 by have := ok.m2; omega)]
    -- isinstance(moves, tuple), 1 <= len(moves) <= 24
    refine iteF ⟨_, rfl, _, _, _, _, _, rfl, .ty "tuple", tyx_tup hV, kit_tt, _, rfl, iteF ⟨_, rfl, mv, _, rfl, .inr hV, _, _, rfl, rfl, _, rfl, ?_⟩⟩
    rw [decide_eq_true (show (1 : Int) ≤ ((vs.length : Nat) : Int) by have := ok.l1; omega)]
    refine iteT ⟨_, _, rfl, rfl, _, rfl, ?_⟩
    rw [decide_eq_true (show ((vs.length : Nat) : Int) ≤ 24 by have := ok.l2; omega)]
    refine iteF ?_
    -- for number, move in enumerate(moves)
    refine ⟨_, rfl, mv, vs, rfl, hV, for_it walk_enumT (fun i σ H' => Same H H' ∧ ∃ u v : Option V, σ = [some (.ref p), some (.int (many : Int)), some (.ref mv), u, v, none, none]) ⟨Same.refl H, none, none, rfl⟩ (fun i σ H' _ h => h.1.sqT hV) ?_ ?_⟩
    · rintro i x σ H1 H2 hi ⟨s1, u, v, rfl⟩ ⟨t, y, rfl, ht, rfl, hy⟩
      obtain ⟨m, hm, hA⟩ := hM.2 i y hy
      have s2 : Same H (upd H1 t (.tup [.int (i : Nat), y])) := fun b o e => Same.new ht b o (s1 b o e)
      refine ⟨t, _, rfl, SqT.of upd_same, rfl, _, _, rfl, _, _, rfl, rfl, ?_⟩
      refine ⟨_, rfl, _, rfl, many, _, m, rfl, ok.m2, hA.same s2, ok.mv m (List.mem_of_getElem? hm), fun H3 s3 => ⟨_, rfl, iteF ⟨s2.trans s3, _, _, rfl⟩⟩⟩
    · rintro σ H1 ⟨s1, u, v, rfl⟩
      -- the shares
      refine ⟨_, rfl, mv, rfl, ⟨_, s1.sqT hV⟩, fun D hD => ?_⟩
      refine lc_tup (K := K) (a := mv) (xs := vs) (fun i H' => Same H1 H' ∧ ∃ acc, H' D = some (.lst acc) ∧ FrsIn K H' acc ((ms.take i).map (·.1))) ⟨Same.new hD, [], upd_same, rfl, fun i v hv => by simp at hv⟩ (fun i H' _ h => (s1.trans h.1).sqT hV) ?_ ?_
      · rintro i x H2 hi ⟨s2, acc, h1, h2⟩
        obtain ⟨m, hm, a, t, l, rfl, hA, hT, hL⟩ := hM.2 i x hi
        have hil : i < ms.length := (List.getElem?_eq_some_iff.mp hm).1
        have s3 := s1.trans s2
        have hz : acc.length = i := by
          have z := h2.1
          rw [List.length_map, List.length_take] at z
          omega
        refine ⟨a, _, rfl, s3.sqT hA, rfl, _, _, rfl, _, _, rfl, rfl, ?_⟩
        have s4 : Same H1 (upd H2 D (.lst (acc ++ [.ref t]))) := s2.mut hD
        refine ⟨rfl, _, rfl, acc, h1, small1000 (by have := ok.l2; omega), s4, _, upd_same, ?_, fun j v hj => ?_⟩
        · rw [List.length_append, List.length_map, List.length_take]
          simp
          omega
        · by_cases hji : j < acc.length
          · rw [List.getElem?_append_left hji] at hj
            obtain ⟨f, g1, g2⟩ := h2.2 j v hj
            obtain ⟨q, g3, g4⟩ := g2
            refine ⟨f, ?_, q, g3, ?_⟩
            · rw [List.take_add_one, hm]
              simp only [Option.toList, List.map_append]
              rw [List.getElem?_append_left (by rw [List.length_map, List.length_take]; omega)]
              exact g1
            · rcases g4 with (z | ⟨o, z⟩) | z
              · refine .inl (.inl ?_)
                rw [upd_ne (ne_of z h1 (by intro y; cases y))]
                exact z
              · refine .inl (.inr ⟨o, ?_⟩)
                rw [upd_ne (ne_of z h1 (by intro y; cases y))]
                exact z
              · exact .inr z
          · have e : j = acc.length := by
              have z := (List.getElem?_eq_some_iff.mp hj).1
              rw [List.length_append] at z
              simp at z
              omega
            subst e
            rw [List.getElem?_append_right (Nat.le_refl _), Nat.sub_self] at hj
            have ev : V.ref t = v := Option.some.inj hj
            refine ⟨m.1, ?_, t, ev.symm, s4.sqT (s1.sqT hT)⟩
            rw [List.take_add_one, hm, hz]
            simp only [Option.toList, List.map_append]
            rw [List.getElem?_append_right (by rw [List.length_map, List.length_take]; omega), List.length_map, List.length_take, show i - min i ms.length = 0 by omega]
            rfl
      · rintro H2 ⟨s2, acc, h1, h2⟩
        rw [hvl, List.take_length] at h2
        refine ⟨D, ms.map (·.1), rfl, ⟨acc, SqL.of h1, h2⟩, by rw [List.length_map]; exact ok.l2, ?_, fun H3 s3 => ⟨_, rfl, ?_⟩⟩
        · intro f hf
          obtain ⟨m, hm, rfl⟩ := List.mem_map.mp hf
          exact (ok.mv m hm).1
        rw [decide_eq_true ok.one]
        have s4 := (s1.trans s2).trans s3
        refine iteF ⟨_, rfl, _, rfl, p, C, dx, [], rfl, s4 _ _ hp, S.cl, S.nK, (by show 0 < 1000; decide), _, rfl, _, rfl, p, C, dx, _, rfl, upd_same, S.cl, S.nM, (by show 1 < 1000; decide), ?_⟩
        rw [upd_upd]
        exact k _ (fun b o n e => by rw [upd_ne n]; exact s4 b o e) upd_same
def spSEq (K : PySem.W.Frag) (C : Addr) : Sp := fun vs H Q _ => ∃ (p q : Addr) (m1 m2 : Nat) (ms1 ms2 : List Mv), vs = [.ref p, .ref q] ∧ SysAt K C H p m1 ms1 ∧ SysAt K C H q m2 ms2 ∧ Q (.bl (decide (m1 = m2) && decide (ms1 = ms2))) H
theorem scSEq : FnScope ["self", "other"] ["self", "other"] (defScope s_System_eq) := ⟨rfl, rfl, rfl, by decide +kernel, rfl, by decide +kernel, by decide +kernel⟩
theorem ok_seq {f C : Addr} {fd : FuncData} (F : Fun K "__eq__" "System.__eq__" s_System_eq f fd) (T : NmA mg) (S : SysT K mg C) : FnOk P w K mg base CX0 1 f fd ["self", "other"] (spSEq K C) := by
  refine F.ok scSEq (fun vs H Q E h => ?_) (fun cdv A outer s H vs Q E hr h => ?_)
  · obtain ⟨p, q, m1, m2, ms1, ms2, rfl, _⟩ := h
    rfl
  · obtain ⟨p, q, m1, m2, ms1, ms2, rfl, h1, h2, k⟩ := h
    obtain ⟨d1, v1, a1, b1⟩ := id h1
    obtain ⟨d2, v2, a2, b2⟩ := id h2
    refine ⟨_, pss_one (ps_ret (pe_and (pe_callB call_isi (by rfl) T.isi (by decide +kernel) (pa_cons (pv 1) (pa_cons (pe_glob (v := .ref C) (u := .ref C) rfl S.mgC rfl) pa_nil)))
      (pe_and (pe_cmpR op_eq (pe_fld (pv 0) rfl) (pe_fld (pv 1) rfl) (nomark _)) (pe_one (pe_cmpR (op_eqD hr.units) (pe_fld (pv 0) rfl) (pe_fld (pv 1) rfl) (nomark _)))))), ?_⟩
    refine ⟨_, rfl, _, _, _, _, _, rfl, .own C, h2.ty S, kit_self (by simp), _, rfl, iteT ?_⟩
    refine ⟨_, rfl, p, C, d1, _, _, rfl, a1, S.cl, S.nK, sysF_many _ _, _, rfl, q, C, d2, _, _, rfl, a2, S.cl, S.nK, sysF_many _ _, rfl, _, rfl, ?_⟩
    have e1 : decide (V.int (m1 : Int) = V.int (m2 : Int)) = decide (m1 = m2) := by
      by_cases e : m1 = m2
      · subst e
        rw [decide_eq_true rfl, decide_eq_true rfl]
      · rw [decide_eq_false e, decide_eq_false (fun z => e (by have := V.int.inj z; omega))]
    rw [e1]
    refine ite2 (fun h => ?_) (fun h => ?_)
    · refine ⟨_, rfl, p, C, d1, _, _, rfl, a1, S.cl, S.nM, sysF_moves _ _, _, rfl, q, C, d2, _, _, rfl, a2, S.cl, S.nM, sysF_moves _ _, mvsD ms1, mvsD ms2, dp_mvsAt b1, dp_mvsAt b2, shaped_of (lay_mvsD _) (by decide), shaped_of (lay_mvsD _) (by decide), ?_⟩
      rw [eqv_mvsD]
      rw [h, Bool.true_and] at k
      exact k
    · rw [Bool.not_eq_true] at h
      rw [h, Bool.false_and] at k
      exact k
end
end Law


namespace RT
open PySem PySem.Spec PyProof.Rows L2 PySem.Builtin PySem.Builtin.Str PySem.Builtin.Int
/-- sep.join(it), it the iterator of reversed(a list) -/
theorem join_rev {prog : Program} {w : World} {A : Around} {E : Value → Shared → Prop} {s : Shared} {x : Str} {t : Tok} {it l : Addr} {items : Array Value} {ys : List Str} {Q : Value → Shared → Prop} (hh : A.handled = none) (hit : s.heap.IsRevIter it l ((items.size : Int) - 1)) (hl : s.heap.IsList l items) (hne : l ≠ it) (hn : items.size ≤ sizeLine)
    (hP : ∀ acc : Array Value, ItemsOf (fun i v => items[items.size - 1 - i]? = some v) acc items.size → StrsAre acc.toList ys) (hok : (ys.map (·.length)).sum + ys.length * x.length ≤ 16777216)
    (hq : ∀ (h' : Heap), (∀ b o, b ≠ it → s.heap.get? b = some o → h'.get? b = some o) → ∀ t' k, Q (.str (Txt.join x ys) t') { s with heap := h', toks := k }) :
    wpAny (model prog w) A (call (.builtin "str.join") [.str x t, .ref it]) Q E s := by
  refine wpAny_call (codeAny_call_builtin F.slot_str_join.plain F.entry_str_join (F.slot_str_join.check _ _ _ _ _ _ _ _ (typeIs_str _ _ _) (F.args_str_join_2 _ _) ?_))
  rw [join_tree_other]
  refine wpAny_bind (wpAny_typeOf hit.typeIs ?_)
  show wpAny _ A.in1 ((pyIter (.ref it)).tryCatch _ >>= fun it => collect it >>= fun items => joinTail x items) _ _ s
  refine wpAny_bind (wpAny_tryCatch (wpAny_pyIter_revIter hit ?_))
  refine wpAny_bind (collect_rev (A := A.in1) hh hit hl hne hn fun h' tk acc hk hacc => ?_)
  obtain ⟨L, hL, ht⟩ := strsAre_values (hP acc hacc)
  subst ht
  rw [hL]
  have hok' := joinOk_of hok
  unfold JoinOk at hok'
  rw [Bool.not_eq_true'] at hok'
  have g : Gives (joinTail x (strValues L)) (joinMade x L) := by
    have g0 := gives_joinTail x L hok'
    cases L with
    | nil => exact g0
    | cons p r => cases r with
      | nil => exact g0
      | cons q r' => exact g0
  exact g prog w A (wants Q E) { s with heap := h', toks := tk } (post_join L ⟨joinFit_length hok', fun t' k => hq h' hk t' k⟩)
end RT
namespace L2
open PySem PySem.Spec PyProof.Rows
/-- sep.join(reversed(xs)), xs a list -/
def tJoinRev (K : PySem.W.Frag) (to te : TE) : TE := fun σ H Q => to σ H fun x H1 => (∃ a, x = .str a) ∧ te σ H1 fun v H2 => ∃ (a : Str) (q : Addr) (ys : List Str),
  x = .str a ∧ v = .ref q ∧ SqL K H2 q (ys.map V.str) ∧ (ys.map (·.length)).sum + ys.length * a.length ≤ 16777216 ∧ Q (.str (Txt.join a ys.reverse)) H2
section
variable {X : Cx}
theorem pe_joinRev {o e : Expr} {to te : TE} {apos pos p pos2 : Pos} (hc : X.calm = true) (ho : PE X o to) (hg : Gl X "reversed") (hm : X.mg "reversed" = none) (he : PE X e te)
    (hs1 : starEach [.Call (.Name "reversed" p) [e] [] pos2] X.env = [(false, eval (.Call (.Name "reversed" p) [e] [] pos2) X.env)] := by rfl)
    (hs : starEach [e] X.env = (false, eval e X.env) :: starEach [] X.env := by rfl)
    (hbase : attributeBase o "join" X.env (eval o X.env) = eval o X.env := by rfl) (hline : (apos.endLine == pos.line) = true := by rfl) :
    PE X (.Call (.Attribute o "join" apos) [.Call (.Name "reversed" p) [e] [] pos2] [] pos) (tJoinRev X.K to te) := by
  refine ⟨fun pins s σ H Q I h => ?_⟩
  refine PySem.Call_method1 hbase hs1 hline (thn (ho.run pins s σ H _ I h) fun v s1 ⟨x, H1, I1, r1, q1⟩ => ?_)
  obtain ⟨⟨a, rfl⟩, q1⟩ := q1
  obtain ⟨t, rfl⟩ := _root_.id r1
  refine ⟨"str", _, PySem.F.plainAttrs_str, PySem.F.slot_str_join, PySem.F.type_str_join, typeIs_str _ _ _, (fun _ e => nomatch e), Calls.callWith_builtin rfl (Calls.evalArgs_plain (Calls.spliced_cons ?_))⟩
  refine Call_ (ld_blt I1 hg hm PyProof.Rows.boot_reversed (PyProof.Rows.callWith_type1 (args_cons (thn (he.run pins s1 σ H1 _ I1 q1) fun u s2 ⟨v, H2, I2, r2, q2⟩ => args_nil ?_) hs) hs rfl))
  obtain ⟨a', q, ys, ea, ev, hq, hz, q2⟩ := q2
  cases ea
  subst ev
  obtain rfl : u = Value.ref q := r2
  obtain ⟨its, rv, p', hsz⟩ := I2.list hq
  refine call_reversed_list p'.isList (Calls.spliced_nil ?_)
  have I3 : Inv X pins σ H2 { s2 with heap := s2.heap.push (revObj q ((its.toArray.size : Int) - 1)) } := I2.kept (t' := s2.toks) fun b o e => Heap.get?_push_of_some _ e
  obtain ⟨f0, f1, f2, f3, f4, f5⟩ := I2.fpOk (H' := H2) (b := s2.heap.objs.size) (Nat.le_refl _) (I2.hok.fresh (Nat.le_refl _))
  have hl := p'.isList
  obtain ⟨ol, hol, _⟩ := id hl
  have hne : q ≠ s2.heap.objs.size := Nat.ne_of_lt (Heap.lt_size hol)
  have hn : its.toArray.size ≤ sizeLine := by rw [List.size_toArray, ← rv.length]; exact hsz
  refine RT.join_rev (ys := ys.reverse) (s := { s2 with heap := s2.heap.push (revObj q ((its.toArray.size : Int) - 1)) }) (I2.ok.hd hc) ⟨_, Heap.get?_push_size _ rfl, rfl, rfl⟩ (hl.push _) hne hn (fun acc hacc => ?_) (by rw [List.map_reverse, List.sum_reverse, List.length_reverse]; exact hz) fun h' hk t' k => ?_
  · refine strsAre_of ?_
    rw [List.map_reverse]
    exact RT.vals_rev rv hacc
  · exact ⟨.str _, H2, I3.turned (t' := k) (fun b o hb e => hk b o hb e) f0 f1 f3 f4 f5, ⟨t', rfl⟩, q2⟩
end
end L2
namespace Law
open PySem L2
/-! ### lowest terms -/
structure Lg (P : Program) (K : PySem.W.Frag) : Prop where
  seer : seerB K = true
  tree : P.given.tree = none
theorem hi_dp {k : Nat} {A : Around} (hr : Room k A) (h : 33 ≤ k) : A.depth + Builtin.pylongFrames < recursionLimit := by
  have z := hr.dp
  have e : Builtin.pylongFrames = 100 := rfl
  rw [e]
  omega
def gI (t b : Int) : Int := ((Nat.gcd t.natAbs b.natAbs : Nat) : Int)
theorem gI_pos {t b : Int} (h : 0 < b) : 0 < gI t b := by
  have z : 0 < Nat.gcd t.natAbs b.natAbs := Nat.gcd_pos_of_pos_right _ (by omega)
  unfold gI
  omega
def lowP (t b : Int) : Fr := (t / gI t b, b / gI t b)
section
variable {P : Program} {w : World} {K : PySem.W.Frag} {mg : Str → Option Value} {base : Heap}
def spLow : Sp := fun vs H Q _ => ∃ (t b : Int), vs = [.int t, .int b] ∧ 0 ≤ t ∧ 0 < b ∧ ∀ p, H p = none → Q (.ref p) (upd H p (.tup [.int (lowP t b).1, .int (lowP t b).2]))
theorem scLow : FnScope ["_law_top", "_law_bottom", "_law_one", "_law_other"] ["_law_top", "_law_bottom"] (defScope s_law_low) := ⟨rfl, rfl, rfl, by decide +kernel, rfl, by decide +kernel, by decide +kernel⟩
theorem gI_step {x y : Int} (hx : 0 ≤ x) (hy : 0 < y) : gI y (x % y) = gI x y := by
  obtain ⟨a, rfl⟩ := Int.eq_ofNat_of_zero_le hx
  obtain ⟨c, rfl⟩ := Int.eq_ofNat_of_zero_le (Int.le_of_lt hy)
  unfold gI
  rw [← Int.natCast_emod, Int.natAbs_natCast, Int.natAbs_natCast, Int.natAbs_natCast, Nat.gcd_comm c, ← Nat.gcd_rec, Nat.gcd_comm]
theorem gI_zero {x : Int} (hx : 0 ≤ x) : gI x 0 = x := by
  unfold gI
  rw [show (0 : Int).natAbs = 0 from rfl, Nat.gcd_zero_right]
  omega
theorem ok_low {f : Addr} {fd : FuncData} (F : Fun K "_law_low" "_law_low" s_law_low f fd) (T : NmA mg) (G : Lg P K) : FnOk P w K mg base CX0 34 f fd ["_law_top", "_law_bottom"] spLow := by
  refine F.ok scLow (fun vs H Q E h => ?_) (fun cdv A outer s H vs Q E hr h => ?_)
  · obtain ⟨t, b, rfl, _⟩ := h
    rfl
  · obtain ⟨t, b, rfl, ht, hb, k⟩ := h
    refine ⟨_, pss_cons (ps_par (i := 2) (j := 3) (by rfl) scLow.nd rfl rfl (by decide) rfl rfl (pa_cons (pe_callB call_abs (by rfl) T.abs (by decide +kernel) (pa_cons (pv 0) pa_nil)) (pa_cons (pv 1) pa_nil)) (by rfl))
      (pss_cons (ps_while PassesOwn.never (pt_cmpR op_gt (pv 3) pe_int (nomark _)) (pss_one (ps_par (i := 2) (j := 3) (by rfl) scLow.nd rfl rfl (by decide) rfl rfl (pa_cons (pv 3) (pa_cons (pe_op op_mod (pe_callTy call_int1 (by rfl) T.int (by decide +kernel) (pa_cons (pv 2) pa_nil)) (pv 3)) pa_nil)) (by rfl))))
      (pss_one (ps_ret (pe_tup (pa_cons (pe_op (op_fdivB ⟨G.seer, G.tree, hi_dp hr (by decide), rfl, rfl, rfl⟩) (pv 0) (pv 2)) (pa_cons (pe_op (op_fdivB ⟨G.seer, G.tree, hi_dp hr (by decide), rfl, rfl, rfl⟩) (pv 1) (pv 2)) pa_nil)))))), ?_⟩
    have gp : (0 : Int) < gI t b := gI_pos hb
    refine ⟨_, rfl, t, rfl, _, rfl, _, _, rfl, ?_⟩
    rw [if_neg (show ¬ t < 0 by omega)]
    refine ⟨fun m σ H' => H' = H ∧ ∃ x y : Int, σ = [some (.int t), some (.int b), some (.int x), some (.int y)] ∧ 0 ≤ x ∧ 0 ≤ y ∧ gI x y = gI t b ∧ m = y.toNat, ⟨_, rfl, t, b, rfl, ht, by omega, rfl, rfl⟩, ?_⟩
    rintro m σ H' ⟨rfl, x, y, rfl, hx, hy, e, rfl⟩
    refine ⟨_, rfl, _, _, rfl, rfl, _, rfl, ite2 (fun h1 => ?_) (fun h1 => ?_)⟩
    · have y0 : 0 < y := of_decide_eq_true h1
      refine ⟨fun σ' H1 => H1 = H' ∧ ∃ x' y' : Int, σ' = [some (.int t), some (.int b), some (.int x'), some (.int y')] ∧ 0 ≤ x' ∧ 0 ≤ y' ∧ gI x' y' = gI t b ∧ y'.toNat < y.toNat, ?_, ?_⟩
      · rintro σ' H1 ⟨rfl, x', y', rfl, a1, a2, a3, a4⟩
        exact ⟨_, a4, rfl, x', y', rfl, a1, a2, a3, rfl⟩
      · refine ⟨_, rfl, _, rfl, .inl ⟨_, rfl, _, rfl, _, _, rfl, rfl, y0, _, _, rfl, ?_⟩⟩
        have r0 := Int.emod_nonneg x (show y ≠ 0 by omega)
        have r1 := Int.emod_lt_of_pos x y0
        exact ⟨rfl, y, x % y, rfl, by omega, r0, by rw [gI_step hx y0]; exact e, by omega⟩
    · have y0 : y = 0 := by
        have z : ¬ 0 < y := fun q => h1 (decide_eq_true q)
        omega
      subst y0
      rw [gI_zero hx] at e
      subst e
      refine ⟨_, rfl, _, rfl, _, _, rfl, rfl, gp, _, rfl, _, rfl, _, _, rfl, rfl, gp, ?_⟩
      exact ⟨(by show 2 ≤ sizeLine; decide), fun p hp => k p hp⟩
end
end Law


namespace Law
open PySem L2
/-! ### states with a hand -/
theorem keep_sqT {K : PySem.W.Frag} {H H' : Hp} {a p : Addr} {xs : List V} (k : ∀ b o, b ≠ p → H b = some o → H' b = some o) (hp : ∃ ks, H p = some (.dK ks)) (h : SqT K H a xs) : SqT K H' a xs := by
  obtain ⟨ks, hp⟩ := hp
  rcases h with (h | ⟨o, h⟩) | h
  · exact .inl (.inl (k _ _ (ne_of h hp (by intro z; cases z)) h))
  · exact .inl (.inr ⟨o, k _ _ (ne_of h hp (by intro z; cases z)) h⟩)
  · exact .inr h
theorem HandAt.dk {H : Hp} {p : Addr} (h : HandAt H p) : ∃ ks, H p = some (.dK ks) := by
  obtain ⟨ca, cells, a, g, s, t, hp, _⟩ := h
  exact ⟨_, hp⟩
theorem HandAt.same {H H' : Hp} {p : Addr} (s : Same H H') (h : HandAt H p) : HandAt H' p := by
  obtain ⟨ca, cells, a, g, s0, t, hp, hc, r⟩ := h
  exact ⟨ca, cells, a, g, s0, t, s _ _ hp, s _ _ hc, r⟩
theorem Stp.pre {p : Addr} {H H1 H2 : Hp} (s : Same H H1) (t : Stp p H1 H2) : Stp p H H2 := ⟨fun b o n e => t.keep b o n (s b o e), fun c ⟨a, g, s0, u, h⟩ => t.cell c ⟨a, g, s0, u, s _ _ h⟩, t.hand⟩
theorem Stp.post {p : Addr} {H H1 H2 : Hp} (t : Stp p H H1) (s : Same H1 H2) : Stp p H H2 := ⟨fun b o n e => s _ _ (t.keep b o n e), fun c hc => by
  obtain ⟨a, g, s0, u, h⟩ := t.cell c hc
  exact ⟨a, g, s0, u, s _ _ h⟩, t.hand.same s⟩
theorem Stp.of {p : Addr} {H H' : Hp} (h : HandAt H p) (s : Same H H') : Stp p H H' := (Stp.refl h).post s
theorem atI_nat {xs : List V} {i : Nat} {x : V} (h : xs[i]? = some x) : atI xs ((i : Nat) : Int) = some x := by
  unfold atI
  rw [Evl.ixN_nat (List.getElem?_eq_some_iff.mp h).1]
  exact h
theorem at_len {xs : List V} {i : Nat} (h : i < xs.length) : ∃ x, xs[i]? = some x ∧ x ∈ xs ∧ atI xs ((i : Nat) : Int) = some x := ⟨xs[i], List.getElem?_eq_getElem h, List.getElem_mem h, atI_nat (List.getElem?_eq_getElem h)⟩
theorem ats0 (x y : V) : atI [x, y] (0 : Int) = some x := atI_nat (i := 0) rfl
theorem ats1 (x y : V) : atI [x, y] (1 : Int) = some y := atI_nat (i := 1) rfl
end Law


namespace Law
open PySem L2
/-! ### the product of two, the size -/
section
variable {P : Program} {w : World} {K : PySem.W.Frag} {mg : Str → Option Value} {base : Heap}
def spTimes (K : PySem.W.Frag) : Sp := fun vs H Q _ => ∃ (a c : Addr) (f g : Fr), vs = [.ref a, .ref c] ∧ SqT K H a [.int f.1, .int f.2] ∧ SqT K H c [.int g.1, .int g.2] ∧ 0 ≤ f.1 ∧ 0 ≤ g.1 ∧ 0 < f.2 ∧ 0 < g.2 ∧
  f.1.natAbs < 2 ^ 100000 ∧ f.2.natAbs < 2 ^ 100000 ∧ g.1.natAbs < 2 ^ 100000 ∧ g.2.natAbs < 2 ^ 100000 ∧ ∀ p, H p = none → Q (.ref p) (upd H p (.tup [.int (lowP (f.1 * g.1) (f.2 * g.2)).1, .int (lowP (f.1 * g.1) (f.2 * g.2)).2]))
def spSize : Sp := fun vs H Q _ => ∃ (p : Addr), vs = [.ref p] ∧ HandAt H p ∧ ∀ (n : Nat) (H' : Hp), 1 ≤ n → n ≤ 12 → Stp p H H' → Q (.int n) H'
theorem scSize : FnScope ["_law_hand_here"] ["_law_hand_here"] (defScope s_law_size) := ⟨rfl, rfl, rfl, by decide +kernel, rfl, by decide +kernel, by decide +kernel⟩
theorem ok_size {f fD fA : Addr} {fd fdD fdA : FuncData} (F : Fun K "_law_size" "_law_size" s_law_size f fd) (D : Cl P w K mg base CX0 1 "_law_draw" fD fdD ["_law_hand_here", "_law_many"] spDraw)
    (A : Cl P w K mg base CX0 2 "_law_any" fA fdA ["_law_hand_here", "_law_things"] (spAny K)) : FnOk P w K mg base CX0 3 f fd ["_law_hand_here"] spSize := by
  refine F.ok scSize (fun vs H Q E h => ?_) (fun cdv A' outer s H vs Q E hr h => ?_)
  · obtain ⟨p, rfl, _⟩ := h
    rfl
  · obtain ⟨p, rfl, hH, k⟩ := h
    refine ⟨_, pss_one (ps_ret (pe_ifExp (pt_cmpR op_gt (D.call (hr.mono (by decide)) (pa_cons (pv 0) (pa_cons pe_int pa_nil))) pe_int (nomark _))
      (A.call hr (pa_cons (pv 0) (pa_cons (pe_lst (pa_cons pe_int (pa_cons pe_int (pa_cons pe_int (pa_cons pe_int (pa_cons pe_int (pa_cons pe_int (pa_cons pe_int (pa_cons pe_int (pa_cons pe_int (pa_cons pe_int pa_nil))))))))))) pa_nil)))
      (pe_op op_add pe_int (D.call (hr.mono (by decide)) (pa_cons (pv 0) (pa_cons pe_int pa_nil)))))), ?_⟩
    refine ⟨_, rfl, p, 12, rfl, by decide, by decide, hH, fun d H1 d0 d1 S1 => ?_⟩
    refine ⟨_, _, rfl, rfl, _, rfl, ite2 (fun _ => ?_) (fun _ => ?_)⟩
    · refine ⟨_, rfl, by show 10 ≤ sizeLine; decide, fun q hq => ?_⟩
      have s2 : Same H1 (upd H1 q (.lst [.int 1, .int 2, .int 2, .int 3, .int 3, .int 4, .int 4, .int 5, .int 5, .int 6])) := Same.new hq
      refine ⟨p, q, _, rfl, .inl (SqL.of upd_same), by decide, by decide, S1.hand.same s2, fun i x H2 hi S2 => ?_⟩
      have S : Stp p H H2 := S1.trans (S2.pre s2)
      have e : ∃ n : Nat, x = .int n ∧ 1 ≤ n ∧ n ≤ 12 := by
        have hx := List.mem_of_getElem? hi
        simp only [List.mem_cons, List.not_mem_nil, or_false] at hx
        rcases hx with rfl | rfl | rfl | rfl | rfl | rfl | rfl | rfl | rfl | rfl
        · exact ⟨1, rfl, by decide, by decide⟩
        · exact ⟨2, rfl, by decide, by decide⟩
        · exact ⟨2, rfl, by decide, by decide⟩
        · exact ⟨3, rfl, by decide, by decide⟩
        · exact ⟨3, rfl, by decide, by decide⟩
        · exact ⟨4, rfl, by decide, by decide⟩
        · exact ⟨4, rfl, by decide, by decide⟩
        · exact ⟨5, rfl, by decide, by decide⟩
        · exact ⟨5, rfl, by decide, by decide⟩
        · exact ⟨6, rfl, by decide, by decide⟩
      obtain ⟨n, rfl, n1, n2⟩ := e
      exact k n H2 n1 n2 S
    · refine ⟨_, rfl, p, 6, rfl, by decide, by decide, S1.hand, fun d H2 d0 d1 S2 => ⟨_, _, rfl, rfl, ?_⟩⟩
      obtain ⟨j, rfl⟩ := Int.eq_ofNat_of_zero_le d0
      have z := k (7 + j) H2 (by omega) (by omega) (S1.trans S2)
      rw [Int.natCast_add] at z
      exact z
end
/-! ### shares that are one together -/
theorem lcm_dvd_fold : ∀ (fs : List Fr) (m n : Nat), n ∣ m → n ∣ fs.foldl (fun m f => Nat.lcm m f.2.natAbs) m
  | [], _, _, h => h
  | f :: fs, m, n, h => lcm_dvd_fold fs _ n (Nat.dvd_trans h (Nat.dvd_lcm_left _ _))
theorem dvd_fold : ∀ (fs : List Fr) (m : Nat) (f : Fr), f ∈ fs → f.2.natAbs ∣ fs.foldl (fun m f => Nat.lcm m f.2.natAbs) m
  | [], _, _, h => nomatch h
  | g :: fs, m, f, h => by
    rcases List.mem_cons.mp h with rfl | h
    · exact lcm_dvd_fold fs _ _ (Nat.dvd_lcm_right _ _)
    · exact dvd_fold fs _ f h
theorem dvd_lcmAll {fs : List Fr} {f : Fr} (h : f ∈ fs) : f.2.natAbs ∣ lcmAll fs := dvd_fold fs 1 f h
theorem sum_scale (S : Int) (g : Int → Int) (L : Int) : ∀ ws : List Int, (∀ x ∈ ws, S * g x = x * L) → S * (ws.map g).sum = ws.sum * L
  | [], _ => by simp
  | x :: ws, h => by
    rw [List.map_cons, List.sum_cons, List.sum_cons, Int.mul_add, Int.add_mul, h x List.mem_cons_self, sum_scale S g L ws fun y hy => h y (List.mem_cons_of_mem _ hy)]
theorem lowP_cross {t b : Int} (hb : 0 < b) : b * (lowP t b).1 = t * (lowP t b).2 := by
  have gp := gI_pos (t := t) hb
  have d1 : gI t b ∣ t := by
    unfold gI
    exact Int.ofNat_dvd_left.mpr (Nat.gcd_dvd_left _ _)
  have d2 : gI t b ∣ b := by
    unfold gI
    exact Int.ofNat_dvd_left.mpr (Nat.gcd_dvd_right _ _)
  show b * (t / gI t b) = t * (b / gI t b)
  rw [← Int.mul_ediv_assoc _ d1, ← Int.mul_ediv_assoc _ d2, Int.mul_comm]
theorem lowP_pos {t b : Int} (ht : 0 < t) (hb : 0 < b) : 0 < (lowP t b).1 ∧ 0 < (lowP t b).2 := by
  have gp := gI_pos (t := t) hb
  have d1 : gI t b ∣ t := by
    unfold gI
    exact Int.ofNat_dvd_left.mpr (Nat.gcd_dvd_left _ _)
  have d2 : gI t b ∣ b := by
    unfold gI
    exact Int.ofNat_dvd_left.mpr (Nat.gcd_dvd_right _ _)
  exact ⟨Int.ediv_pos_of_pos_of_dvd ht (Int.le_of_lt gp) d1, Int.ediv_pos_of_pos_of_dvd hb (Int.le_of_lt gp) d2⟩
theorem lowP_le {t b : Int} (ht : 0 ≤ t) (hb : 0 < b) : (lowP t b).1 ≤ t ∧ (lowP t b).2 ≤ b := ⟨Int.ediv_le_self _ ht, Int.ediv_le_self _ (Int.le_of_lt hb)⟩
theorem lowP_cop {t b : Int} (ht : 0 ≤ t) (hb : 0 < b) : Nat.gcd (lowP t b).1.natAbs (lowP t b).2.natAbs = 1 := by
  obtain ⟨a, rfl⟩ := Int.eq_ofNat_of_zero_le ht
  obtain ⟨c, rfl⟩ := Int.eq_ofNat_of_zero_le (Int.le_of_lt hb)
  have z : 0 < Nat.gcd a c := Nat.gcd_pos_of_pos_right _ (by omega)
  have e : ∀ x : Nat, ((x : Int) / gI (a : Int) (c : Int)).natAbs = x / Nat.gcd a c := fun x => by
    unfold gI
    rw [Int.natAbs_natCast, Int.natAbs_natCast, ← Int.natCast_ediv, Int.natAbs_natCast]
  show Nat.gcd ((a : Int) / gI (a : Int) (c : Int)).natAbs ((c : Int) / gI (a : Int) (c : Int)).natAbs = 1
  rw [e, e]
  exact Nat.coprime_div_gcd_div_gcd z
theorem sum_pos : ∀ ws : List Int, ws ≠ [] → (∀ x ∈ ws, 0 < x) → 0 < ws.sum ∧ ∀ x ∈ ws, x ≤ ws.sum
  | [], h, _ => absurd rfl h
  | [x], _, h => by
    have := h x List.mem_cons_self
    simp
    omega
  | x :: y :: ws, _, h => by
    obtain ⟨h1, h2⟩ := sum_pos (y :: ws) (by simp) fun z hz => h z (List.mem_cons_of_mem _ hz)
    have h3 := h x List.mem_cons_self
    rw [List.sum_cons]
    refine ⟨by omega, fun z hz => ?_⟩
    rcases List.mem_cons.mp hz with rfl | hz
    · omega
    · have := h2 z hz
      omega
theorem sum_le (B : Int) : ∀ ws : List Int, (∀ x ∈ ws, x ≤ B) → ws.sum ≤ (ws.length : Int) * B
  | [], _ => by simp
  | x :: ws, h => by
    have h1 := sum_le B ws fun z hz => h z (List.mem_cons_of_mem _ hz)
    have h2 := h x List.mem_cons_self
    rw [List.sum_cons, List.length_cons, Int.natCast_add, Int.add_mul]
    simp
    omega
/-- a weight's share: in lowest terms, of moderate size -/
theorem share_ok {t b : Int} (ht : 0 < t) (h1 : t ≤ b) (h2 : b < 10 ^ 12) : FrOk (lowP t b) ∧ 0 < (lowP t b).1 ∧ Nat.gcd (lowP t b).1.natAbs (lowP t b).2.natAbs = 1 := by
  have hb : 0 < b := by omega
  obtain ⟨p1, p2⟩ := lowP_pos ht hb
  obtain ⟨l1, l2⟩ := lowP_le (Int.le_of_lt ht) hb
  refine ⟨⟨p2, ?_, ?_⟩, p1, lowP_cop (Int.le_of_lt ht) hb⟩ <;> omega
theorem one_of {ws : List Int} (hn : ws ≠ []) (h : ∀ x ∈ ws, 0 < x) : OneOk (ws.map fun x => lowP x ws.sum) := by
  obtain ⟨s0, s1⟩ := sum_pos ws hn h
  unfold OneOk topsOf
  rw [List.map_map]
  have q := sum_scale ws.sum ((fun f : Fr => f.1 * (((lcmAll (ws.map fun x => lowP x ws.sum) : Nat) : Int) / f.2)) ∘ fun x => lowP x ws.sum) ((lcmAll (ws.map fun x => lowP x ws.sum) : Nat) : Int) ws fun x hx => by
    obtain ⟨p1, p2⟩ := lowP_pos (h x hx) s0
    have d : (lowP x ws.sum).2 ∣ ((lcmAll (ws.map fun x => lowP x ws.sum) : Nat) : Int) := by
      have d0 := dvd_lcmAll (List.mem_map.mpr ⟨x, hx, rfl⟩ : lowP x ws.sum ∈ ws.map fun x => lowP x ws.sum)
      exact Int.ofNat_dvd_right.mpr d0
    show ws.sum * ((lowP x ws.sum).1 * (_ / (lowP x ws.sum).2)) = _
    rw [← Int.mul_assoc, lowP_cross s0, Int.mul_assoc, Int.mul_ediv_cancel' d]
  exact Int.eq_of_mul_eq_mul_left (by omega) q
end Law


namespace Law
open PySem L2
/-! ### the shares -/
theorem Stp.free {p W : Addr} {H H' : Hp} (S : Stp p H H') (h : H' W = none) : H W = none := by
  cases e : H W with
  | none => rfl
  | some o =>
    by_cases n : W = p
    · obtain ⟨ks, hp⟩ := S.hand.dk
      rw [n, hp] at h
      cases h
    · rw [S.keep W o n e] at h
      cases h
theorem sqT_upd {K : PySem.W.Frag} {H : Hp} {a D : Addr} {acc xs : List V} {o : HO} (hD : H D = some (.lst acc)) (h : SqT K H a xs) : SqT K (upd H D o) a xs := by
  rcases h with (z | ⟨q, z⟩) | z
  · refine .inl (.inl ?_)
    rw [upd_ne (ne_of z hD (by intro y; cases y))]
    exact z
  · refine .inl (.inr ⟨q, ?_⟩)
    rw [upd_ne (ne_of z hD (by intro y; cases y))]
    exact z
  · exact .inr z
theorem snoc_get {α : Type} {xs : List α} {y v : α} {i : Nat} (h : (xs ++ [y])[i]? = some v) : (i < xs.length ∧ xs[i]? = some v) ∨ (i = xs.length ∧ y = v) := by
  by_cases hi : i < xs.length
  · rw [List.getElem?_append_left hi] at h
    exact .inl ⟨hi, h⟩
  · have z := (List.getElem?_eq_some_iff.mp h).1
    rw [List.length_append] at z
    simp at z
    have e : i = xs.length := by omega
    subst e
    rw [List.getElem?_append_right (Nat.le_refl _), Nat.sub_self] at h
    exact .inr ⟨rfl, Option.some.inj h⟩
theorem FrsIn.snoc {K : PySem.W.Frag} {H : Hp} {D : Addr} {acc : List V} {fs : List Fr} {v : V} {f : Fr} (h : FrsIn K H acc fs) (hD : H D = some (.lst acc)) (hv : FrAt K H v f) : FrsIn K (upd H D (.lst (acc ++ [v]))) (acc ++ [v]) (fs ++ [f]) := by
  refine ⟨by rw [List.length_append, List.length_append, h.1]; rfl, fun i u hu => ?_⟩
  rcases snoc_get hu with ⟨hi, e⟩ | ⟨hi, e⟩
  · obtain ⟨g, h1, s, h2, h3⟩ := h.2 i u e
    exact ⟨g, by rw [List.getElem?_append_left (by rw [← h.1]; exact hi)]; exact h1, s, h2, sqT_upd hD h3⟩
  · obtain ⟨s, h2, h3⟩ := hv
    subst e
    refine ⟨f, ?_, s, h2, sqT_upd hD h3⟩
    rw [List.getElem?_append_right (by rw [hi, h.1]; exact Nat.le_refl _), hi, h.1, Nat.sub_self]
    rfl
theorem Stp.fr {p : Addr} {K : PySem.W.Frag} {H H' : Hp} {vs : List V} {fs : List Fr} (S : Stp p H H') (hp : HandAt H p) (h : FrsIn K H vs fs) : FrsIn K H' vs fs := ⟨h.1, fun i v hv => by
  obtain ⟨f, h1, s, h2, h3⟩ := h.2 i v hv
  exact ⟨f, h1, s, h2, S.sqT hp h3⟩⟩
def FrGood (f : Fr) : Prop := FrOk f ∧ 0 < f.1 ∧ Nat.gcd f.1.natAbs f.2.natAbs = 1
section
variable {P : Program} {w : World} {K : PySem.W.Frag} {mg : Str → Option Value} {base : Heap}
def spShares (K : PySem.W.Frag) : Sp := fun vs H Q _ => ∃ (p : Addr) (n : Nat), vs = [.ref p, .int (n : Int)] ∧ 1 ≤ n ∧ n ≤ 24 ∧ HandAt H p ∧
  ∀ (D : Addr) (H' : Hp) (us : List V) (fs : List Fr), H D = none → Stp p H H' → H' D = some (.lst us) → FrsIn K H' us fs → fs.length = n → (∀ f ∈ fs, FrGood f ∧ f.1 < 10 ^ 12 ∧ f.2 < 10 ^ 12) → OneOk fs → Q (.ref D) H'
theorem scShares : FnScope ["_law_hand_here", "_law_many", "_law_great", "_law_weights", "_law_k", "_law_weight"] ["_law_hand_here", "_law_many"] (defScope s_law_shares) := ⟨rfl, rfl, rfl, by decide +kernel, rfl, by decide +kernel, by decide +kernel⟩
theorem ok_shares {f fD fA fL : Addr} {fd fdD fdA fdL : FuncData} (F : Fun K "_law_shares" "_law_shares" s_law_shares f fd) (T : NmA mg) (D : Cl P w K mg base CX0 1 "_law_draw" fD fdD ["_law_hand_here", "_law_many"] spDraw)
    (A : Cl P w K mg base CX0 2 "_law_any" fA fdA ["_law_hand_here", "_law_things"] (spAny K)) (L : Cl P w K mg base CX0 34 "_law_low" fL fdL ["_law_top", "_law_bottom"] spLow) : FnOk P w K mg base CX0 35 f fd ["_law_hand_here", "_law_many"] (spShares K) := by
  refine F.ok scShares (fun vs H Q E h => ?_) (fun cdv A' outer s H vs Q E hr h => ?_)
  · obtain ⟨p, n, rfl, _⟩ := h
    rfl
  · obtain ⟨p, n, rfl, n1, n24, hH, k⟩ := h
    refine ⟨_, pss_cons (ps_set (i := 2) scShares.nd rfl (Or.inl rfl) (pe_cmpR op_eq (D.call (hr.mono (by decide)) (pa_cons (pv 0) (pa_cons pe_int pa_nil))) pe_int (nomark _)))
      (pss_cons (ps_set (i := 3) scShares.nd rfl (Or.inr rfl) (pe_lst pa_nil))
      (pss_cons (ps_for PassesOwn.never rfl (pi_range1 (by rfl) T.range (pa_cons (pv 1) pa_nil)) (pg_name (i := 4) scShares.nd rfl (Or.inl rfl))
        (pss_cons (ps_set (i := 5) scShares.nd rfl (Or.inl rfl) (pe_op op_add pe_int (D.call (hr.mono (by decide)) (pa_cons (pv 0) (pa_cons (A.call (hr.mono (by decide)) (pa_cons (pv 0) (pa_cons (pe_lst (pa_cons pe_int (pa_cons pe_int (pa_cons pe_int pa_nil)))) pa_nil))) pa_nil)))))
        (pss_one (ps_expr (pe_bm PySem.F.plainAttrs_list PySem.F.slot_list_append PySem.F.type_list_append mt_append (pv 3)
          (pa_cons (pe_ifExp (pt_val (pv 2)) (pe_op op_add (pe_op op_mul (pv 5) (pe_op op_pow pe_int pe_int)) (D.call (hr.mono (by decide)) (pa_cons (pv 0) (pa_cons (pe_op op_pow pe_int pe_int) pa_nil)))) (pv 5)) pa_nil))))))
      (pss_one (ps_ret (pe_lc (own := [("_law_weight", 5)]) (g := gName 5) (tt := tYes) rfl scShares.nd (pi_list (pv 3))
        (blkOk_by (own := [("_law_weight", 5)]) (N := ["_law_hand_here", "_law_many", "_law_great", "_law_weights", "_law_k", "_law_weight"]) (sc := defScope s_law_shares) (by decide +kernel))
        (fun _ _ _ _ _ => pg_name (i := 5) scShares.nd rfl (Or.inl rfl)) (fun _ _ _ _ _ => pts_nil)
        (fun _ _ _ _ _ => L.call hr (pa_cons (pv 5) (pa_cons (pe_callB (r := rSum K) (show CallR _ (.builtin "sum") (rSum K) from cr_sum rfl) (by rfl) T.sum (by decide +kernel) (pa_cons (pv 3) pa_nil)) pa_nil)))))))), ?_⟩
    refine ⟨_, rfl, p, 16, rfl, by decide, by decide, hH, fun d H1 d0 d1 S1 => ?_⟩
    refine ⟨rfl, by show 0 ≤ sizeLine; decide, fun W hW => ?_⟩
    generalize hg : decide (V.int d = V.int 0) = great
    have hWH : H W = none := S1.free hW
    have S2 : Stp p H (upd H1 W (.lst [])) := S1.mut hH hWH
    refine ⟨_, rfl, (n : Int), rfl, by omega, by have : n ≤ 24 := n24; omega, ?_⟩
    refine for_range (lo := 0) (n := n) (fun i σ H' => Stp p H H' ∧ ∃ (ws : List Int) (u v : Option V), H' W = some (.lst (ws.map V.int)) ∧ ws.length = i ∧ (∀ x ∈ ws, 0 < x ∧ x < 2 ^ 34) ∧ σ = [some (.ref p), some (.int (n : Int)), some (.bl great), some (.ref W), u, v]) ⟨S2, [], none, none, upd_same, rfl, fun x hx => absurd hx List.not_mem_nil, rfl⟩ ?_ ?_
    · rintro i σ H' hi ⟨S3, ws, u, v, hw, hl, hb, rfl⟩
      have nW : W ≠ p := ne_of hw S3.hand.dk.choose_spec (by intro z; cases z)
      refine ⟨_, rfl, _, rfl, by show 3 ≤ sizeLine; decide, fun q hq => ?_⟩
      have s4 : Same H' (upd H' q (.lst [.int 1, .int 3, .int 6])) := Same.new hq
      refine ⟨p, q, _, rfl, .inl (SqL.of upd_same), by decide, by decide, S3.hand.same s4, fun j x H4 hj S4 => ?_⟩
      have e : ∃ m : Int, x = .int m ∧ 1 ≤ m ∧ m ≤ 6 := by
        have hx := List.mem_of_getElem? hj
        simp only [List.mem_cons, List.not_mem_nil, or_false] at hx
        rcases hx with rfl | rfl | rfl
        · exact ⟨1, rfl, by decide, by decide⟩
        · exact ⟨3, rfl, by decide, by decide⟩
        · exact ⟨6, rfl, by decide, by decide⟩
      obtain ⟨m, rfl, m1, m6⟩ := e
      refine ⟨p, m, rfl, by omega, by omega, S4.hand, fun d2 H5 e0 e1 S5 => ⟨_, _, rfl, rfl, ?_⟩⟩
      have S35 : Stp p H' H5 := (S4.pre s4).trans S5
      refine ⟨_, rfl, .inl ⟨rfl, _, SqL.of (S35.keep _ _ nW hw)⟩, _, rfl, _, rfl, ?_⟩
      have fin : ∀ (x : Int) (H6 : Hp), Stp p H' H6 → 0 < x → x < 2 ^ 34 → ∃ l xs y, V.ref W = .ref l ∧ [V.int x] = [y] ∧ H6 l = some (.lst xs) ∧ xs.length < sizeLine ∧ (Stp p H (upd H6 l (.lst (xs ++ [y]))) ∧ ∃ (ws : List Int) (u v : Option V), (upd H6 l (.lst (xs ++ [y]))) W = some (.lst (ws.map V.int)) ∧ ws.length = i + 1 ∧ (∀ x ∈ ws, 0 < x ∧ x < 2 ^ 34) ∧
          [some (V.ref p), some (.int (n : Int)), some (.bl great), some (.ref W), some (.int (0 + (i : Int))), some (.int (1 + d2))] = [some (.ref p), some (.int (n : Int)), some (.bl great), some (.ref W), u, v]) := by
        intro x H6 S6 x0 x1
        refine ⟨W, _, _, rfl, rfl, S6.keep _ _ nW hw, ?_, (S3.trans S6).mut hH hWH, ws ++ [x], _, _, ?_, ?_, ?_, rfl⟩
        · rw [List.length_map, hl]
          exact small1000 (by omega)
        · rw [upd_same, List.map_append] <;> rfl
        · rw [List.length_append, hl] <;> rfl
        · intro y hy
          rcases List.mem_append.mp hy with hy | hy
          · exact hb y hy
          · rw [List.mem_singleton.mp hy]
            exact ⟨x0, x1⟩
      cases great with
      | true =>
        refine iteT ⟨_, rfl, _, _, rfl, rfl, ⟨by decide, by decide, by decide⟩, _, _, rfl, rfl, .inl ⟨by omega, by omega⟩, ?_⟩
        refine ⟨_, rfl, _, _, rfl, rfl, ⟨by decide, by decide, by decide⟩, p, 1000000000, rfl, by decide, by decide, S35.hand, fun d3 H6 f0 f1 S6 => ⟨_, _, rfl, rfl, ?_⟩⟩
        exact fin ((1 + d2) * 10 ^ 9 + d3) H6 (S35.trans S6) (by omega) (by omega)
      | false => exact iteF ⟨_, rfl, fin (1 + d2) H5 S35 (by omega) (by omega)⟩
    · rintro σ H' ⟨S3, ws, u, v, hw, hl, hb, rfl⟩
      have wn : ws ≠ [] := fun z => by
        rw [z] at hl
        simp at hl
        omega
      obtain ⟨s0, s1⟩ := sum_pos ws wn fun x hx => (hb x hx).1
      have sB := sum_le (2 ^ 34) ws fun x hx => Int.le_of_lt (hb x hx).2
      have s2 : ws.sum < 10 ^ 12 := by
        rw [hl] at sB
        omega
      refine ⟨_, rfl, W, rfl, ⟨_, SqL.of hw⟩, fun D hD => ?_⟩
      refine lc_list (K := K) (a := W) (xs := ws.map V.int) (fun i H2 => Same H' H2 ∧ ∃ acc, H2 D = some (.lst acc) ∧ FrsIn K H2 acc ((ws.take i).map fun x => lowP x ws.sum)) ⟨Same.new hD, [], upd_same, rfl, fun i v hv => by simp at hv⟩ (fun i H2 _ h => SqL.of (h.1 _ _ hw)) ?_ ?_
      · rintro i x H2 hi ⟨t1, acc, h1, h2⟩
        rw [List.getElem?_map] at hi
        obtain ⟨z, hz, rfl⟩ := Option.map_eq_some_iff.mp hi
        have zm := List.mem_of_getElem? hz
        have hla : acc.length = i := by
          have y := h2.1
          have y2 := (List.getElem?_eq_some_iff.mp hz).1
          rw [List.length_map, List.length_take] at y
          omega
        refine ⟨rfl, _, rfl, _, rfl, W, _, rfl, SqL.of (t1 _ _ hw), z, ws.sum, rfl, Int.le_of_lt (hb z zm).1, s0, fun q hq => ?_⟩
        have nDq : D ≠ q := ne_of_none h1 hq
        have t2 : Same H2 (upd H2 q (.tup [.int (lowP z ws.sum).1, .int (lowP z ws.sum).2])) := Same.new hq
        have h3 := t2 _ _ h1
        refine ⟨acc, h3, small1000 (by have := (List.getElem?_eq_some_iff.mp hz).1; omega), (t1.trans t2).mut hD, _, upd_same, ?_⟩
        rw [List.take_add_one, hz, List.map_append]
        exact FrsIn.snoc (h2.same t2) h3 ⟨q, rfl, SqT.of upd_same⟩
      · rintro H2 ⟨t1, acc, h1, h2⟩
        rw [List.length_map, List.take_length] at h2
        refine k D H2 acc _ (S3.free hD) (S3.post t1) h1 h2 (by rw [List.length_map, hl]) ?_ (one_of wn fun x hx => (hb x hx).1)
        intro g hg
        obtain ⟨x, hx, rfl⟩ := List.mem_map.mp hg
        obtain ⟨l1, l2⟩ := lowP_le (t := x) (b := ws.sum) (Int.le_of_lt (hb x hx).1) s0
        have := s1 x hx
        exact ⟨share_ok (hb x hx).1 (s1 x hx) s2, by omega, by omega⟩
end
end Law


namespace Law
open PySem L2
/-! ### where a move leads -/
/-- a list of whole numbers below n grows at D -/
def Grow (p D : Addr) (H : Hp) (n : Int) : Nat → Hp → Prop := fun i H' => Stp p H H' ∧ ∃ ws : List Int, H' D = some (.lst (ws.map V.int)) ∧ ws.length = i ∧ ∀ x ∈ ws, 0 ≤ x ∧ x < n
theorem Grow.zero {p D : Addr} {H : Hp} {n : Int} (hH : HandAt H p) (hD : H D = none) : Grow p D H n 0 (upd H D (.lst [])) := ⟨Stp.of hH (Same.new hD), [], upd_same, rfl, fun x hx => absurd hx List.not_mem_nil⟩
theorem Grow.put {p D : Addr} {H H1 H2 : Hp} {n x : Int} {i : Nat} (hH : HandAt H p) (hD : H D = none) (g : Grow p D H n i H1) (S : Stp p H1 H2) (hi : i ≤ 999) (x0 : 0 ≤ x) (x1 : x < n) :
    ∃ acc, H2 D = some (.lst acc) ∧ acc.length < sizeLine ∧ Grow p D H n (i + 1) (upd H2 D (.lst (acc ++ [V.int x]))) := by
  obtain ⟨S1, ws, h1, h2, h3⟩ := g
  have nD : D ≠ p := ne_of h1 S1.hand.dk.choose_spec (by intro z; cases z)
  refine ⟨_, S.keep _ _ nD h1, ?_, (S1.trans S).mut hH hD, ws ++ [x], ?_, ?_, ?_⟩
  · rw [List.length_map, h2]
    exact small1000 (by omega)
  · rw [upd_same, List.map_append] <;> rfl
  · rw [List.length_append, h2] <;> rfl
  · intro y hy
    rcases List.mem_append.mp hy with hy | hy
    · exact h3 y hy
    · rw [List.mem_singleton.mp hy]
      exact ⟨x0, x1⟩
section
variable {P : Program} {w : World} {K : PySem.W.Frag} {mg : Str → Option Value} {base : Heap}
def spLeads (K : PySem.W.Frag) : Sp := fun vs H Q _ => ∃ (p : Addr) (n : Nat), vs = [.ref p, .int (n : Int)] ∧ 1 ≤ n ∧ n ≤ 12 ∧ HandAt H p ∧
  ∀ (l : Addr) (H' : Hp) (xs : List Int), Stp p H H' → H' l = some (.tup (xs.map V.int)) → xs.length = n → (∀ x ∈ xs, 0 ≤ x ∧ x < (n : Int)) → Q (.ref l) H'
abbrev nLeads : List Str := ["_law_hand_here", "_law_many", "_law_kind", "_law_left", "_law_found", "_law_k", "_law_two", "_law_half", "_law_by"]
theorem scLeads : FnScope nLeads ["_law_hand_here", "_law_many"] (defScope s_law_leads) := ⟨rfl, rfl, rfl, by decide +kernel, rfl, by decide +kernel, by decide +kernel⟩
theorem ok_leads {f fD fA : Addr} {fd fdD fdA : FuncData} (F : Fun K "_law_leads" "_law_leads" s_law_leads f fd) (T : NmA mg) (D : Cl P w K mg base CX0 1 "_law_draw" fD fdD ["_law_hand_here", "_law_many"] spDraw)
    (A : Cl P w K mg base CX0 2 "_law_any" fA fdA ["_law_hand_here", "_law_things"] (spAny K)) : FnOk P w K mg base CX0 3 f fd ["_law_hand_here", "_law_many"] (spLeads K) := by
  refine F.ok scLeads (fun vs H Q E h => ?_) (fun cdv A' outer s H vs Q E hr h => ?_)
  · obtain ⟨p, n, rfl, _⟩ := h
    rfl
  · obtain ⟨p, n, rfl, n1, n12, hH, k⟩ := h
    have hr1 := hr.mono (show 1 ≤ 2 by decide)
    refine ⟨_, pss_cons (ps_set (i := 2) scLeads.nd rfl (Or.inl rfl) (D.call hr1 (pa_cons (pv 0) (pa_cons pe_int pa_nil))))
      (pss_cons (ps_if (pt_cmpR op_eq (pv 2) pe_int (nomark _))
        (pss_cons (ps_par (i := 3) (j := 4) (by rfl) scLeads.nd rfl rfl (by decide) rfl rfl (pa_cons (pe_listRg (by rfl) (by rfl) T.list (prg_1 (by rfl) T.range (pv 1))) (pa_cons (pe_lst pa_nil) pa_nil)) (by rfl))
        (pss_cons (ps_for PassesOwn.never rfl (pi_range1 (by rfl) T.range (pa_cons (pv 1) pa_nil)) (pg_name (i := 5) scLeads.nd rfl (Or.inl rfl))
          (pss_one (ps_expr (pe_bm PySem.F.plainAttrs_list PySem.F.slot_list_append PySem.F.type_list_append mt_append (pv 4) (pa_cons (pe_bm PySem.F.plainAttrs_list PySem.F.slot_list_pop PySem.F.type_list_pop mt_popAt (pv 3)
            (pa_cons (D.call hr1 (pa_cons (pv 0) (pa_cons (pe_callB call_len_seq (by rfl) T.len PySem.boot_len (pa_cons (pv 3) pa_nil)) pa_nil))) pa_nil)) pa_nil)))))
        (pss_one (ps_ret (pe_callTy call_tuple_of (by rfl) T.tuple (by decide +kernel) (pa_cons (pv 4) pa_nil)))))) pss_nil)
      (pss_cons (ps_if (pt_cmpR op_eq (pv 2) pe_int (nomark _))
        (pss_cons (ps_set (i := 6) scLeads.nd rfl (Or.inr rfl) (pe_lst (pa_cons (D.call hr1 (pa_cons (pv 0) (pa_cons (pv 1) pa_nil))) (pa_cons (D.call hr1 (pa_cons (pv 0) (pa_cons (pv 1) pa_nil))) pa_nil))))
        (pss_one (ps_ret (pe_callTy call_tuple_of (by rfl) T.tuple (by decide +kernel) (pa_cons (pe_lc (own := [("_law_k", 5)]) (g := gName 5) (tt := tYes) rfl scLeads.nd (pi_range1 (by rfl) T.range (pa_cons (pv 1) pa_nil))
          (blkOk_by (own := [("_law_k", 5)]) (N := nLeads) (sc := defScope s_law_leads) (by decide +kernel)) (fun _ _ _ _ _ => pg_name (i := 5) scLeads.nd rfl (Or.inl rfl)) (fun _ _ _ _ _ => pts_nil)
          (fun _ _ _ _ _ => A.call hr (pa_cons (pv 0) (pa_cons (pv 6) pa_nil)))) pa_nil))))) pss_nil)
      (pss_cons (ps_if (pt_cmpR op_eq (pv 2) pe_int (nomark _))
        (pss_one (ps_ret (pe_callTy call_tuple_of (by rfl) T.tuple (by decide +kernel) (pa_cons (pe_lc (own := [("_law_k", 5)]) (g := gName 5) (tt := tYes) rfl scLeads.nd (pi_range1 (by rfl) T.range (pa_cons (pv 1) pa_nil))
          (blkOk_by (own := [("_law_k", 5)]) (N := nLeads) (sc := defScope s_law_leads) (by decide +kernel)) (fun _ _ _ _ _ => pg_name (i := 5) scLeads.nd rfl (Or.inl rfl)) (fun _ _ _ _ _ => pts_nil)
          (fun _ _ _ _ _ => pe_ifExp (pt_cmpR op_eq (D.call hr1 (pa_cons (pv 0) (pa_cons pe_int pa_nil))) pe_int (nomark _)) (D.call hr1 (pa_cons (pv 0) (pa_cons (pv 1) pa_nil))) (pv 5))) pa_nil)))) pss_nil)
      (pss_cons (ps_if (pt_cmpR op_eq (pv 2) pe_int (nomark _))
        (pss_cons (ps_set (i := 7) scLeads.nd rfl (Or.inr rfl) (pe_op op_fdiv (pv 1) pe_int))
        (pss_one (ps_ret (pe_callTy call_tuple_of (by rfl) T.tuple (by decide +kernel) (pa_cons (pe_lc (own := [("_law_k", 5)]) (g := gName 5) (tt := tYes) rfl scLeads.nd (pi_range1 (by rfl) T.range (pa_cons (pv 1) pa_nil))
          (blkOk_by (own := [("_law_k", 5)]) (N := nLeads) (sc := defScope s_law_leads) (by decide +kernel)) (fun _ _ _ _ _ => pg_name (i := 5) scLeads.nd rfl (Or.inl rfl)) (fun _ _ _ _ _ => pts_nil)
          (fun _ _ _ _ _ => pe_ifExp (pt_cmpR op_lt (pv 5) (pv 7) (nomark _)) (D.call hr1 (pa_cons (pv 0) (pa_cons (pv 7) pa_nil))) (pe_op op_add (pv 7) (D.call hr1 (pa_cons (pv 0) (pa_cons (pe_op op_sub (pv 1) (pv 7)) pa_nil)))))) pa_nil))))) pss_nil)
      (pss_cons (ps_if (pt_cmpR op_eq (pv 2) pe_int (nomark _))
        (pss_cons (ps_set (i := 8) scLeads.nd rfl (Or.inr rfl) (pe_op op_add pe_int (D.call hr1 (pa_cons (pv 0) (pa_cons (pv 1) pa_nil)))))
        (pss_one (ps_ret (pe_callTy call_tuple_of (by rfl) T.tuple (by decide +kernel) (pa_cons (pe_lc (own := [("_law_k", 5)]) (g := gName 5) (tt := tYes) rfl scLeads.nd (pi_range1 (by rfl) T.range (pa_cons (pv 1) pa_nil))
          (blkOk_by (own := [("_law_k", 5)]) (N := nLeads) (sc := defScope s_law_leads) (by decide +kernel)) (fun _ _ _ _ _ => pg_name (i := 5) scLeads.nd rfl (Or.inl rfl)) (fun _ _ _ _ _ => pts_nil)
          (fun _ _ _ _ _ => pe_op op_mod (pe_callTy (r := fun xs H Q => (∃ i, xs = [.int i] ∧ Q (.int i) H) ∨ ∃ k, xs = [.bl k] ∧ Q (.int (if k then 1 else 0)) H) call_int1 (by rfl) T.int (by decide +kernel) (pa_cons (pe_op op_add (pv 5) (pv 8)) pa_nil)) (pv 1))) pa_nil))))) pss_nil)
      (pss_one (ps_ret (pe_callTy call_tuple_of (by rfl) T.tuple (by decide +kernel) (pa_cons (pe_lc (own := [("_law_k", 5)]) (g := gName 5) (tt := tYes) rfl scLeads.nd (pi_range1 (by rfl) T.range (pa_cons (pv 1) pa_nil))
          (blkOk_by (own := [("_law_k", 5)]) (N := nLeads) (sc := defScope s_law_leads) (by decide +kernel)) (fun _ _ _ _ _ => pg_name (i := 5) scLeads.nd rfl (Or.inl rfl)) (fun _ _ _ _ _ => pts_nil)
          (fun _ _ _ _ _ => D.call hr1 (pa_cons (pv 0) (pa_cons (pv 1) pa_nil)))) pa_nil))))))))), ?_⟩
    have fin : ∀ (D : Addr) (H' : Hp) (ws : List Int), Stp p H H' → H' D = some (.lst (ws.map V.int)) → ws.length = n → (∀ x ∈ ws, 0 ≤ x ∧ x < (n : Int)) → ∃ q ys, [V.ref D] = [.ref q] ∧ ((SqL K H' q ys ∧ ∀ l, H' l = none → Q (.ref l) (upd H' l (.tup ys))) ∨ (SqT K H' q ys ∧ Q (.ref q) H')) := by
      intro D H' ws S h1 h2 h3
      exact ⟨D, _, rfl, .inl ⟨SqL.of h1, fun l hl => k l _ ws (S.post (Same.new hl)) upd_same h2 h3⟩⟩
    have done : ∀ (D : Addr) (H1 H' : Hp), Stp p H H1 → Grow p D H1 n n H' → ∃ q ys, [V.ref D] = [.ref q] ∧ ((SqL K H' q ys ∧ ∀ l, H' l = none → Q (.ref l) (upd H' l (.tup ys))) ∨ (SqT K H' q ys ∧ Q (.ref q) H')) := by
      rintro D H1 H' S ⟨S1, ws, h1, h2, h3⟩
      exact fin D H' ws (S.trans S1) h1 h2 h3
    refine ⟨_, rfl, p, 7, rfl, by decide, by decide, hH, fun d H1 d0 d1 S1 => ?_⟩
    refine ⟨_, rfl, rfl, _, rfl, ite2 (fun _ => ?_) (fun _ => ?_)⟩
    · refine ⟨_, rfl, (n : Int), rfl, RgOk.of_le (by decide) (by omega) (by decide) (by omega), fun q hq => ⟨by show 0 ≤ sizeLine; decide, fun r hr' => ⟨_, _, rfl, ?_⟩⟩⟩
      have qr : q ≠ r := ne_of_none upd_same hr'
      have hqH : H q = none := S1.free hq
      have hrH : H r = none := (S1.post (Same.new hq)).free hr'
      refine ⟨_, rfl, (n : Int), rfl, by omega, by omega, ?_⟩
      refine for_range (lo := 0) (n := n) (fun i σ H' => Stp p H H' ∧ ∃ (ls ws : List Int) (u : Option V), H' q = some (.lst (ls.map V.int)) ∧ H' r = some (.lst (ws.map V.int)) ∧ ls.length + i = n ∧ ws.length = i ∧ (∀ x ∈ ls, 0 ≤ x ∧ x < (n : Int)) ∧ (∀ x ∈ ws, 0 ≤ x ∧ x < (n : Int)) ∧
        σ = [some (.ref p), some (.int (n : Int)), some (.int d), some (.ref q), some (.ref r), u, none, none, none]) ⟨(S1.post (Same.new hq)).post (Same.new hr'), (List.range n).map fun i : Nat => (i : Int), [], none, ?_, upd_same, ?_, rfl, ?_, fun x hx => absurd hx List.not_mem_nil, rfl⟩ ?_ ?_
      · rw [upd_ne qr, upd_same]
        unfold rgV
        rw [List.map_map]
        rw [show ((n : Int) - 0).toNat = n by omega]
        refine congrArg (fun z => some (HO.lst z)) (List.map_congr_left fun i _ => ?_)
        show V.int (0 + (i : Nat)) = V.int (i : Int)
        rw [Int.zero_add]
      · rw [List.length_map, List.length_range] <;> rfl
      · intro x hx
        obtain ⟨i, hi, rfl⟩ := List.mem_map.mp hx
        have := List.mem_range.mp hi
        omega
      · rintro i σ H' hi ⟨S2, ls, ws, u, h1, h2, h3, h4, h5, h6, rfl⟩
        have nq : q ≠ p := ne_of h1 S2.hand.dk.choose_spec (by intro z; cases z)
        have nr : r ≠ p := ne_of h2 S2.hand.dk.choose_spec (by intro z; cases z)
        refine ⟨_, rfl, .inl ⟨rfl, _, SqL.of h2⟩, _, rfl, .inl ⟨rfl, _, SqL.of h1⟩, _, rfl, _, rfl, q, _, rfl, .inl (SqL.of h1), p, _, rfl, ?_, ?_, S2.hand, fun d2 H3 e0 e1 S3 => ?_⟩
        · rw [List.length_map]
          omega
        · rw [List.length_map]
          omega
        · rw [List.length_map] at e1
          obtain ⟨j, rfl⟩ := Int.eq_ofNat_of_zero_le e0
          have hj : j < ls.length := by omega
          have h1' := S3.keep _ _ nq h1
          have h2' := S3.keep _ _ nr h2
          refine ⟨q, _, (j : Int), j, V.int ls[j], rfl, rfl, h1', by omega, by omega, ?_, ?_, ?_⟩
          · unfold seqIndex?
            rw [if_neg (show ¬ ((j : Int) < 0) by omega), List.length_map]
            simp
            omega
          · rw [List.getElem?_map, List.getElem?_eq_getElem hj] <;> rfl
          · have S4 : Stp p H (upd H3 q (.lst ((ls.map V.int).eraseIdx j))) := (S2.trans S3).mut hH hqH
            refine ⟨r, _, _, rfl, rfl, by rw [upd_ne (Ne.symm qr)]; exact h2', ?_, S4.mut hH hrH, ls.eraseIdx j, ws ++ [ls[j]], _, ?_, ?_, ?_, ?_, ?_, ?_, rfl⟩
            · rw [List.length_map, h4]
              exact small1000 (by omega)
            · rw [upd_ne qr, upd_same, erase_mapI]
            · rw [upd_same, List.map_append] <;> rfl
            · rw [List.length_eraseIdx_of_lt hj]
              omega
            · rw [List.length_append, h4] <;> rfl
            · exact fun x hx => h5 x (List.mem_of_mem_eraseIdx hx)
            · intro x hx
              rcases List.mem_append.mp hx with hx | hx
              · exact h6 x hx
              · rw [List.mem_singleton.mp hx]
                exact h5 _ (List.getElem_mem hj)
      · rintro σ H' ⟨S2, ls, ws, u, h1, h2, h3, h4, h5, h6, rfl⟩
        exact ⟨_, rfl, fin r H' ws S2 h2 h4 h6⟩
    refine ⟨_, rfl, rfl, _, rfl, ite2 (fun _ => ?_) (fun _ => ?_)⟩
    · refine ⟨_, rfl, _, rfl, p, (n : Int), rfl, by omega, by omega, S1.hand, fun a1 H2 a0 a2 S2 => ?_⟩
      refine ⟨_, rfl, _, rfl, p, (n : Int), rfl, by omega, by omega, S2.hand, fun b1 H3 b0 b2 S3 => ⟨by show 2 ≤ sizeLine; decide, fun q hq => ?_⟩⟩
      have S4 : Stp p H (upd H3 q (.lst [.int a1, .int b1])) := ((S1.trans S2).trans S3).post (Same.new hq)
      have g4 : (upd H3 q (.lst [.int a1, .int b1])) q = some (.lst [.int a1, .int b1]) := upd_same
      generalize upd H3 q (.lst [.int a1, .int b1]) = H4 at S4 g4 ⊢
      have nq : q ≠ p := ne_of g4 S4.hand.dk.choose_spec (by intro z; cases z)
      refine ⟨_, rfl, (n : Int), rfl, by omega, by omega, fun D hD => ?_⟩
      refine lc_range (lo := 0) (n := n) (Grow p D H4 n) (Grow.zero S4.hand hD) (fun i H' hi g => ?_) fun H' g => done D H4 H' S4 g
      refine ⟨rfl, _, rfl, _, rfl, p, q, _, rfl, .inl (SqL.of (g.1.keep _ _ nq g4)), by show 0 < 2; decide, by show 2 < _; decide, g.1.hand, fun j x H5 hj S5 => ?_⟩
      have e : ∃ z : Int, x = .int z ∧ 0 ≤ z ∧ z < (n : Int) := by
        have hx := List.mem_of_getElem? hj
        simp only [List.mem_cons, List.not_mem_nil, or_false] at hx
        rcases hx with rfl | rfl
        · exact ⟨a1, rfl, a0, a2⟩
        · exact ⟨b1, rfl, b0, b2⟩
      obtain ⟨z, rfl, z0, z1⟩ := e
      exact g.put S4.hand hD S5 (by omega) z0 z1
    refine ⟨_, rfl, rfl, _, rfl, ite2 (fun _ => ?_) (fun _ => ?_)⟩
    · refine ⟨_, rfl, (n : Int), rfl, by omega, by omega, fun D hD => ?_⟩
      refine lc_range (lo := 0) (n := n) (Grow p D H1 n) (Grow.zero S1.hand hD) (fun i H' hi g => ?_) fun H' g => done D H1 H' S1 g
      refine ⟨rfl, _, rfl, p, 3, rfl, by decide, by decide, g.1.hand, fun d2 H2 e0 e1 S2 => ⟨rfl, _, rfl, ite2 (fun _ => ?_) (fun _ => ?_)⟩⟩
      · exact ⟨_, rfl, _, rfl, p, (n : Int), rfl, by omega, by omega, S2.hand, fun d3 H3 f0 f1 S3 => g.put S1.hand hD (S2.trans S3) (by omega) f0 f1⟩
      · exact ⟨_, rfl, g.put S1.hand hD S2 (by omega) (by omega) (by omega)⟩
    refine ⟨_, rfl, rfl, _, rfl, ite2 (fun _ => ?_) (fun _ => ?_)⟩
    · refine ⟨_, rfl, _, _, rfl, rfl, ⟨by decide, by decide⟩, ?_⟩
      refine ⟨_, rfl, (n : Int), rfl, by omega, by omega, fun D hD => ?_⟩
      refine lc_range (lo := 0) (n := n) (Grow p D H1 n) (Grow.zero S1.hand hD) (fun i H' hi g => ?_) fun H' g => done D H1 H' S1 g
      refine ⟨rfl, _, rfl, _, rfl, _, _, rfl, rfl, _, rfl, ite2 (fun hlt => ?_) (fun _ => ?_)⟩
      · have hlt := of_decide_eq_true hlt
        exact ⟨_, rfl, _, rfl, p, (n : Int) / 2, rfl, by omega, by omega, g.1.hand, fun d3 H3 f0 f1 S3 => g.put S1.hand hD S3 (by omega) f0 (by omega)⟩
      · exact ⟨_, rfl, _, rfl, _, rfl, _, rfl, _, _, rfl, rfl, p, (n : Int) - (n : Int) / 2, rfl, by omega, by omega, g.1.hand, fun d3 H3 f0 f1 S3 => ⟨_, _, rfl, rfl, g.put S1.hand hD S3 (by omega) (by omega) (by omega)⟩⟩
    refine ⟨_, rfl, rfl, _, rfl, ite2 (fun _ => ?_) (fun _ => ?_)⟩
    · refine ⟨_, rfl, _, rfl, p, (n : Int), rfl, by omega, by omega, S1.hand, fun d2 H2 e0 e1 S2 => ⟨_, _, rfl, rfl, ?_⟩⟩
      have S12 := S1.trans S2
      refine ⟨_, rfl, (n : Int), rfl, by omega, by omega, fun D hD => ?_⟩
      refine lc_range (lo := 0) (n := n) (Grow p D H2 n) (Grow.zero S2.hand hD) (fun i H' hi g => ?_) fun H' g => done D H2 H' S12 g
      have np : (0 : Int) < n := by omega
      exact ⟨rfl, _, rfl, _, rfl, _, _, rfl, rfl, .inl ⟨_, rfl, _, rfl, _, _, rfl, rfl, np, g.put S2.hand hD (Stp.refl g.1.hand) (by omega) (Int.emod_nonneg _ (by omega)) (Int.emod_lt_of_pos _ np)⟩⟩
    · refine ⟨_, rfl, (n : Int), rfl, by omega, by omega, fun D hD => ?_⟩
      refine lc_range (lo := 0) (n := n) (Grow p D H1 n) (Grow.zero S1.hand hD) (fun i H' hi g => ?_) fun H' g => done D H1 H' S1 g
      exact ⟨rfl, _, rfl, _, rfl, p, (n : Int), rfl, by omega, by omega, g.1.hand, fun d3 H3 f0 f1 S3 => g.put S1.hand hD S3 (by omega) f0 f1⟩
end
end Law


namespace L2
open PySem PySem.Spec PyProof.Rows
/-! ### (x,) * n for every n; t.count(k); set(t) of a tuple of ints -/
theorem tuple_mul0 (l : Addr) (items : Array Value) (n : Nat) (dd : Option Addr) (sl : Array (Option Value)) (u : Tok) (hi : items.isEmpty = false) :
    Meets (Builtin.«tuple.__mul__» ⟨[.ref l, .int 0 u], []⟩) (fun _ R s => s.heap.get? l = some { cls := .type "tuple", dict := dd, data := .seq items n, slots := sl } ∧
      R (.ok (.ret (Value.ref s.heap.objs.size))) { s with heap := s.heap.push { cls := Value.type "tuple", data := Data.seq #[] }, toks := s.toks }) :=
  .of_wp fun prog w A R s h => by
    obtain ⟨hp, g, d, tk, os⟩ := s
    obtain ⟨hl, h⟩ := h
    have f1 := AutoSeq1.idx_int
    have c1 : (items.isEmpty || (0 : Int) == 1) = false := by rw [hi] <;> rfl
    wp_walk using wpAny_loadPart' hl
    repeat (first
      | (refine wpAny_ite_false (decide_eq_false (by decide)) ?_; wp_walk using wpAny_loadPart' hl)
      | (refine wpAny_ite_false (decide_eq_false (by rw [c1]; exact Bool.false_ne_true)) ?_; wp_walk using wpAny_loadPart' hl)
      | (refine wpAny_ite_true (decide_eq_true (by simp)) ?_; wp_walk using wpAny_loadPart' hl))
    exact ⟨_, rfl, h⟩
theorem tuple_mul1 (l : Addr) (items : Array Value) (n : Nat) (dd : Option Addr) (sl : Array (Option Value)) (u : Tok) :
    Meets (Builtin.«tuple.__mul__» ⟨[.ref l, .int 1 u], []⟩) (fun _ R s => s.heap.get? l = some { cls := .type "tuple", dict := dd, data := .seq items n, slots := sl } ∧ R (.ok (.ret (Value.ref l))) s) :=
  .of_wp fun prog w A R s h => by
    obtain ⟨hp, g, d, tk, os⟩ := s
    obtain ⟨hl, h⟩ := h
    have f1 := AutoSeq1.idx_int
    have c1 : (items.isEmpty || (1 : Int) == 1) = true := by simp
    wp_walk using wpAny_loadPart' hl
    repeat (first
      | (refine wpAny_ite_false (decide_eq_false (by decide)) ?_; wp_walk using wpAny_loadPart' hl)
      | (refine wpAny_ite_true (decide_eq_true (by rw [c1])) ?_; wp_walk using wpAny_loadPart' hl, wpAny_typeOf' ⟨_, hl, rfl⟩))
    exact ⟨_, rfl, h⟩
def rCntT (K : PySem.W.Frag) : V → List V → Hp → VK → Prop := fun x xs H Q => ∃ (p : Addr) (ns : List Int) (k : Int), x = .ref p ∧ xs = [.int k] ∧ SqT K H p (ns.map V.int) ∧ Q (.int (ns.count k : Nat)) H
def rSetI (K : PySem.W.Frag) (w : World) : List V → Hp → VK → Prop := fun vs H Q => ∃ (a : Addr) (ns : List Int), vs = [V.ref a] ∧ SqT K H a (ns.map V.int) ∧ ns.length ≤ 1000 ∧
  ∀ (p : Addr) (c : Nat), H p = none → c ≤ ns.length → Q (.ref p) (upd H p (SetO w p (fun j => decide (j ∈ ns)) c))
section
variable {X : Cx}
theorem mt_tcount : MtR X "tuple.count" (rCntT X.K) := by
  intro pins s σ H x xs v us Q I rx rxs h
  obtain ⟨p, ns, k, rfl, rfl, hs, q⟩ := h
  cases rx
  obtain ⟨u, rfl, ru⟩ := rxs.one
  obtain ⟨t, rfl⟩ := ru
  obtain ⟨its, rv, ⟨⟨cls, dd, data, sl⟩, ho, hc, n, hd⟩, hlen⟩ := I.tuple hs
  simp only at hc hd
  subst hc hd
  have hi := ints_of_vals rv
  refine call_meets PySem.F.slot_tuple_count ⟨_, ho, rfl⟩ PySem.F.entry_tuple_count (PySem.F.args_tuple_count_2 _ _)
    (SeqAt.tuple_countAt p its.toArray n dd sl (.int k t) (eqk k)) ⟨ho, fun y hy => (eqk_gives hi y (by simpa using hy)).at _ _, ?_⟩
  have ec : its.toArray.toList.countP (eqk k) = ns.count k := eqk_count hi
  refine ⟨.int (ns.count k : Nat), H, I.tok _, ⟨s.toks, ?_⟩, q⟩
  show Value.int ((its.toArray.toList.countP (eqk k) : Nat) : Int) s.toks = Value.int ((ns.count k : Nat) : Int) s.toks
  rw [ec]
theorem cr_setI (hc : X.calm = true) : CallR X (.type "set") (rSetI X.K X.w) := by
  intro pins s σ H xs us Q I r h
  obtain ⟨a, ns, rfl, hq, hl, q⟩ := h
  rw [Vals.ref1 r]
  obtain ⟨its, rv, pt, hz⟩ := I.tuple hq
  have hi : IntsAre its.toArray.toList ns := ints_of_vals rv
  refine call_set_tupI ns (I.ok.hd hc) (show s.heap.IsTuple a its.toArray from pt) hi (by unfold scanBound; omega) fun h' tk c R1 hcn k => ?_
  exact ⟨.ref _, upd H s.heap.objs.size (SetO X.w s.heap.objs.size (fun j => decide (j ∈ ns)) c), I.laid (t' := tk) k (Nat.le_refl _) (setO_new R1), rfl, q _ c (I.hok.fresh (Nat.le_refl _)) hcn⟩
def rRepI (K : PySem.W.Frag) : R2 := fun x y H Q => ∃ l k xs, x = .ref l ∧ y = .int k ∧ SqT K H l xs ∧ xs ≠ [] ∧ 0 ≤ k ∧ k ≤ 1000 ∧ xs.length ≤ 1000 ∧
  (k = 0 → ∀ p, H p = none → Q (.ref p) (upd H p (.tup []))) ∧ (k = 1 → Q (.ref l) H) ∧ (2 ≤ k → ∀ p, H p = none → Q (.ref p) (upd H p (.tup (List.replicate k.toNat xs).flatten)))
theorem op_repI : OpR X (binaryOp .Mult) (rRepI X.K) := by
  intro pins s σ H x y v u Q I rx ry h
  obtain ⟨l, k, xs, rfl, rfl, hT, hne, h1, h2, hz, q0, q1, q2⟩ := h
  by_cases k2 : 2 ≤ k
  · exact op_repT pins s σ H _ _ v u Q I rx ry ⟨l, k, xs, rfl, rfl, hT, hne, k2, h2, hz, q2 k2⟩
  cases rx
  obtain ⟨t, rfl⟩ := ry
  obtain ⟨its, r, ⟨⟨cls, dd, data, sl⟩, ho, hc, n, hd⟩, hs⟩ := I.tuple hT
  simp only at hc hd
  subst hc hd
  have hle : its.length = xs.length := r.length.symm
  have hn : its ≠ [] := fun e => hne (by
    rw [e] at hle
    exact List.eq_nil_of_length_eq_zero hle.symm)
  have hi : its.toArray.isEmpty = false := by
    cases its with
    | nil => exact absurd rfl hn
    | cons a b => rfl
  by_cases k0 : k = 0
  · subst k0
    refine wpAny_binaryOp_repeat_ref (T := "tuple") (U := "int") (by decide) ⟨_, ho, rfl⟩ (fun s' => typeIs_int s' 0 t) noFill_tuple_mul F.fills_int_mul F.slot_int_rmul repeat_tuple F.slot_int_index.lookup
      (call_meets F.slot_int_rmul (typeIs_int s 0 t) F.entry_int_rmul (F.args_int_rmul_2 _ _) (int_rmul_tuple 0 t l its.toArray n dd sl)
        ⟨ho, rfl, ⟨_, ho, rfl⟩, call_meets F.slot_tuple_mul ⟨_, ho, rfl⟩ F.entry_tuple_mul (F.args_tuple_mul_2 _ _) (tuple_mul0 l its.toArray n dd sl t hi) ⟨ho, ?_⟩⟩)
    refine ⟨.ref s.heap.objs.size, _, I.laid (t' := s.toks) (o := .tup []) (fun b ob q => Heap.get?_push_of_some _ q) (Nat.le_refl _) ?_, rfl, q0 rfl _ (I.hok.fresh (Nat.le_refl _))⟩
    exact ⟨Nat.zero_le _, [], .nil, IsTup.new _ _⟩
  · have k1 : k = 1 := by omega
    subst k1
    exact wpAny_binaryOp_repeat_ref (T := "tuple") (U := "int") (by decide) ⟨_, ho, rfl⟩ (fun s' => typeIs_int s' 1 t) noFill_tuple_mul F.fills_int_mul F.slot_int_rmul repeat_tuple F.slot_int_index.lookup
      (call_meets F.slot_int_rmul (typeIs_int s 1 t) F.entry_int_rmul (F.args_int_rmul_2 _ _) (int_rmul_tuple 1 t l its.toArray n dd sl)
        ⟨ho, rfl, ⟨_, ho, rfl⟩, call_meets F.slot_tuple_mul ⟨_, ho, rfl⟩ F.entry_tuple_mul (F.args_tuple_mul_2 _ _) (tuple_mul1 l its.toArray n dd sl t) ⟨ho, ⟨.ref l, H, I, rfl, q1 rfl⟩⟩⟩)
end
end L2


namespace Law
open PySem L2
/-! ### drawn moves -/
theorem Stp.mvAt {p : Addr} {K : PySem.W.Frag} {H H' : Hp} {v : V} {m : Mv} (S : Stp p H H') (hp : HandAt H p) (h : MvAt K H v m) : MvAt K H' v m := by
  obtain ⟨a, s, l, h1, h2, h3, h4⟩ := h
  exact ⟨a, s, l, h1, S.sqT hp h2, S.sqT hp h3, S.sqT hp h4⟩
theorem Stp.mv {p : Addr} {K : PySem.W.Frag} {H H' : Hp} {vs : List V} {ms : List Mv} (S : Stp p H H') (hp : HandAt H p) (h : MvsIn K H vs ms) : MvsIn K H' vs ms := ⟨h.1, fun i v hv => by
  obtain ⟨m, h1, h2⟩ := h.2 i v hv
  exact ⟨m, h1, S.mvAt hp h2⟩⟩
theorem Stp.mvs {p : Addr} {K : PySem.W.Frag} {H H' : Hp} {a : Addr} {ms : List Mv} (S : Stp p H H') (hp : HandAt H p) (h : MvsAt K H a ms) : MvsAt K H' a ms := by
  obtain ⟨vs, h1, h2⟩ := h
  exact ⟨vs, S.sqT hp h1, S.mv hp h2⟩
theorem mvAt_upd {K : PySem.W.Frag} {H : Hp} {D : Addr} {acc : List V} {o : HO} {v : V} {m : Mv} (hD : H D = some (.lst acc)) (h : MvAt K H v m) : MvAt K (upd H D o) v m := by
  obtain ⟨a, s, l, h1, h2, h3, h4⟩ := h
  exact ⟨a, s, l, h1, sqT_upd hD h2, sqT_upd hD h3, sqT_upd hD h4⟩
theorem MvsIn.snoc {K : PySem.W.Frag} {H : Hp} {D : Addr} {acc : List V} {ms : List Mv} {v : V} {m : Mv} (h : MvsIn K H acc ms) (hD : H D = some (.lst acc)) (hv : MvAt K H v m) : MvsIn K (upd H D (.lst (acc ++ [v]))) (acc ++ [v]) (ms ++ [m]) := by
  refine ⟨by rw [List.length_append, List.length_append, h.1]; rfl, fun i u hu => ?_⟩
  rcases snoc_get hu with ⟨hi, e⟩ | ⟨hi, e⟩
  · obtain ⟨g, h1, h2⟩ := h.2 i u e
    exact ⟨g, by rw [List.getElem?_append_left (by rw [← h.1]; exact hi)]; exact h1, mvAt_upd hD h2⟩
  · subst e
    refine ⟨m, ?_, mvAt_upd hD hv⟩
    rw [List.getElem?_append_right (by rw [hi, h.1]; exact Nat.le_refl _), hi, h.1, Nat.sub_self]
    rfl
section
variable {P : Program} {w : World} {K : PySem.W.Frag} {mg : Str → Option Value} {base : Heap}
/-- moves that are drawn: as a System may have them, their shares of moderate size -/
structure MvsOk (many : Nat) (ms : List Mv) : Prop where
  ok : SysOk many ms
  lt : ∀ m ∈ ms, m.1.1 < 10 ^ 12 ∧ m.1.2 < 10 ^ 12
def spMoves (K : PySem.W.Frag) : Sp := fun vs H Q _ => ∃ (p : Addr) (many most : Nat), vs = [.ref p, .int (many : Int), .int (most : Int)] ∧ 1 ≤ many ∧ many ≤ 12 ∧ 1 ≤ most ∧ most ≤ 24 ∧ HandAt H p ∧
  ∀ (l : Addr) (H' : Hp) (ms : List Mv), Stp p H H' → MvsAt K H' l ms → MvsOk many ms → Q (.ref l) H'
end
end Law

namespace L2
open PySem PySem.Spec PyProof.Rows HT
/-! ### t[::-1] of a tuple; set(xs) and len(set(xs)) of a list of ints -/
theorem places_rev (n : Nat) : Builtin.Slice.slicePlaces ((n : Int) - 1) (-1) (-1) = n := by
  unfold Builtin.Slice.slicePlaces
  have h1 : ¬ ((-1 : Int) > 0) := by decide
  simp only [h1, if_false]
  by_cases h : (n : Int) - 1 > -1
  · simp only [h, if_true]
    rw [show (- -1 : Int) = 1 by decide, Int.ediv_one]
    omega
  · simp only [h, if_false]
    omega
theorem adjust_rev (n : Nat) : Builtin.Slice.sliceAdjust none none (-1) (n : Int) = ((n : Int) - 1, -1) := by
  first
  | rfl
  | simp [Builtin.Slice.sliceAdjust]
theorem fmap_congr {α β : Type} {f g : α → Option β} : ∀ l : List α, (∀ a ∈ l, f a = g a) → l.filterMap f = l.filterMap g
  | [], _ => rfl
  | a :: l, h => by rw [List.filterMap_cons, List.filterMap_cons, h a List.mem_cons_self, fmap_congr l fun b hb => h b (List.mem_cons_of_mem _ hb)]
theorem pick_rev (xs : Array Value) : ((List.range xs.size).filterMap fun (m : Nat) => xs[(((xs.size : Nat) : Int) - 1 + (m : Int) * (-1)).toNat]?).toArray = xs.toList.reverse.toArray := by
  congr 1
  have e : (List.range xs.size).filterMap (fun (m : Nat) => xs[(((xs.size : Nat) : Int) - 1 + (m : Int) * (-1)).toNat]?) = ((List.range xs.size).map fun k => xs.size - 1 - k).filterMap (xs[·]?) := by
    rw [List.filterMap_map]
    refine fmap_congr _ fun m hm => ?_
    have := List.mem_range.mp hm
    show xs[(((xs.size : Nat) : Int) - 1 + (m : Int) * (-1)).toNat]? = xs[xs.size - 1 - m]?
    rw [show (((xs.size : Nat) : Int) - 1 + (m : Int) * (-1)).toNat = xs.size - 1 - m by omega]
  rw [e, PySem.W.krv_range, List.filterMap_reverse, PySem.W.krv_all]
section
variable {prog : Program} {w : World} {A : Around} {E : Value → Shared → Prop} {s : Shared}
theorem applied_rev {sl : Addr} {vs : Value} {n : Nat} {Q : Int × Int × Nat → Shared → Prop} (hs : s.heap.IsSliceOf sl .none .none vs) (ps : IsPart vs (some (-1))) (h : Q ((n : Int) - 1, -1, n) s) :
    wpAny (model prog w) A (Builtin.Slice.sliceApplied (.ref sl) (pure (n : Int))) Q E s := by
  obtain ⟨os, hos, hcs, hds⟩ := id hs
  unfold Builtin.Slice.sliceApplied; unfold Builtin.Slice.sliceFields
  refine wpAny_bind (wpAny_bind (wpAny_field hos hds (x := .none) rfl (wpAny_bind (wpAny_field hos hds (x := .none) rfl (wpAny_bind (wpAny_field hos hds (x := vs) rfl (wpAny_pure ?_)))))))
  refine wpAny_bind (slicePart_ ps ?_)
  show wpAny _ _ (if ((-1 : Int) == 0) = true then _ else _) _ _ s
  rw [if_neg (show ¬ ((-1 : Int) == 0) = true by decide)]
  refine wpAny_bind (slicePart_ .none (wpAny_bind (slicePart_ .none (wpAny_bind (wpAny_pure ?_)))))
  show wpAny _ _ (match Builtin.Slice.sliceAdjust none none (-1) (n : Int) with | (lo, hi) => pure (lo, (-1 : Int), Builtin.Slice.slicePlaces lo hi (-1))) _ _ s
  rw [adjust_rev n]
  show wpAny _ _ (pure ((n : Int) - 1, (-1 : Int), Builtin.Slice.slicePlaces ((n : Int) - 1) (-1) (-1))) _ _ s
  rw [places_rev]
  exact wpAny_pure h
theorem getItem_tuple_rev {t sl : Addr} {items : Array Value} {vs : Value} {Q : Value → Shared → Prop} (ht : IsTup s.heap t items) (hs : s.heap.IsSliceOf sl .none .none vs) (ps : IsPart vs (some (-1)))
    (h : Q (.ref s.heap.objs.size) { s with heap := s.heap.push { cls := .type "tuple", data := .seq items.toList.reverse.toArray } }) (hsz : items.size ≤ sizeLine) : wpAny (model prog w) A (getItem (.ref t) (.ref sl)) Q E s := by
  have hr : sizeOk (.seq items.toList.reverse.toArray) := by
    show items.toList.reverse.toArray.size ≤ sizeLine
    rw [List.size_toArray, List.length_reverse, Array.length_toList]
    exact hsz
  obtain ⟨os, hos, hcs, hds⟩ := id hs
  have hTs : s.TypeIs (.ref sl) "slice" := ⟨os, hos, hcs⟩; unfold getItem
  try with_reducible refine wpAny_holding ?_
  first | (refine wpAny_bind (wpAny_pure ?_)) | (skip)
  refine wpAny_bind (wpAny_sequenceKey ht.typeIs (show _ by decide) ?_)
  refine wpAny_bind (wpAny_callSpecial?_slot (name := Str.ofString "__getitem__") ht.typeIs PyProof.Rows.slot_tuple_getitem (wpAny_call_entry PyProof.Rows.slot_tuple_getitem ht.typeIs entry_tuple_getitem ?_ (args_tuple_getitem _ _)))
  show wpAny _ _ (Builtin.Tuple.tupleItemsOf (Value.ref t) >>= _) _ _ s
  refine wpAny_bind (tupleItemsOf_ ht ?_); refine wpAny_bind (wpAny_typeOf hTs ?_)
  rw [if_pos (show _ by decide)]
  refine wpAny_bind (applied_rev (n := items.size) hs ps ?_)
  have hno : ¬ (((((items.size : Nat) : Int) - 1) == 0 && (-1 : Int) == 1 && items.size == items.size) = true) := by
    rw [show ((-1 : Int) == 1) = false by decide, Bool.and_false, Bool.false_and]
    exact Bool.false_ne_true
  show wpAny _ _ (if ((((items.size : Nat) : Int) - 1) == 0 && (-1 : Int) == 1 && items.size == items.size) = true then _ else _) _ _ s
  rw [if_neg hno, pick_rev]
  first
    | exact wpAny_bind (m := Builtin.Tuple.tupleExact _) (wpAny_newObj_type (wpAny_pure ⟨_, rfl, wpAny_pure h⟩) hr)
    | exact wpAny_bind (m := Builtin.Tuple.tupleExact _) (wpAny_newObj_type (wpAny_bind (wpAny_pure (wpAny_pure ⟨_, rfl, wpAny_pure h⟩))) hr)
    | exact wpAny_bind (wpAny_bind (m := Builtin.Tuple.tupleExact _) (wpAny_newObj_type (wpAny_pure (wpAny_pure ⟨_, rfl, wpAny_pure h⟩)) hr))
    | exact wpAny_bind (wpAny_bind (m := Builtin.Tuple.tupleExact _) (wpAny_newObj_type (wpAny_pure ⟨_, rfl, wpAny_pure h⟩) hr))
end
def tRevT (K : PySem.W.Frag) (te : TE) : TE := fun σ H Q => te σ H fun x H1 => ∃ a xs, x = .ref a ∧ SqT K H1 a xs ∧ ∀ p, H1 p = none → Q (.ref p) (upd H1 p (.tup xs.reverse))
theorem pe_revT {X : Cx} {e : Expr} {te : TE} {k : Nat} {p1 p2 p3 pos : Pos} (he : PE X e te) : PE X (.Subscript e (.Slice none none (some (.UnaryOp .USub (.Constant (.int 1) k p1) p2)) p3) pos) (tRevT X.K te) := by
  refine ⟨fun pins s σ H Q I h => Subscript_ (thn (he.run pins s σ H _ I h) fun v s1 ⟨x, H1, I1, r1, q1⟩ => ?_)⟩
  obtain ⟨a, xs, rfl, hx, q⟩ := q1
  cases r1
  have hst : PO X (some (.UnaryOp .USub (.Constant (.int 1) k p1) p2)) (tPart (tUn (rU fun i => .int (-i)) (tC (.int 1)))) := po_some (pe_un un_neg pe_int)
  refine wpAny_Slice (thn (po_none.run pins s1 σ H1 (fun o H2 => o = none ∧ H2 = H1) I1 ⟨rfl, rfl⟩) fun vl s2 ⟨l, H2, I2, pl, el, e2⟩ => ?_)
  subst el; subst e2
  refine thn (po_none.run pins s2 σ H2 (fun o H3 => o = none ∧ H3 = H2) I2 ⟨rfl, rfl⟩) fun vu s3 ⟨u, H3, I3, pu, eu, e3⟩ => ?_
  subst eu; subst e3
  refine thn (hst.run pins s3 σ H3 (fun o H4 => o = some (-1) ∧ H4 = H3) I3 ⟨1, rfl, -1, rfl, rfl, rfl⟩) fun vs s4 ⟨o, H4, I4, ps, eo, e4⟩ => ?_
  subst eo; subst e4
  cases pl
  cases pu
  have I5 : Inv X pins σ H4 { s4 with heap := s4.heap.push { cls := .type "slice", data := .fields #[.none, .none, vs] } } := I4.kept (t' := s4.toks) fun b ob q => Heap.get?_push_of_some _ q
  obtain ⟨its, r, ht, hz⟩ := I5.tuple hx
  have hlen := r.length
  show wpAny (model X.prog X.w) X.A (subscriptTail e (.Slice none none (some (.UnaryOp .USub (.Constant (.int 1) k p1) p2)) p3) (.ref a) (.ref s4.heap.objs.size)) (EP X pins σ Q) X.xe { s4 with heap := s4.heap.push { cls := .type "slice", data := .fields #[.none, .none, vs] } }
  refine tail_any (ops := [.ref a, .ref s4.heap.objs.size]) ht.typeIs (PyProof.Rows.slot_tuple_getitem.lookup) ?_ (by with_unfolding_all rfl)
  refine getItem_tuple_rev ht (Heap.IsSliceOf.new _ .none .none vs) ps ?_ (by rw [List.size_toArray]; omega)
  refine ⟨.ref _, _, I5.laid (t' := s4.toks) (o := .tup xs.reverse) (fun b ob q => Heap.get?_push_of_some _ q) (Nat.le_refl _) ?_, rfl, q _ (I5.hok.fresh (Nat.le_refl _))⟩
  refine ⟨by rw [List.length_reverse]; exact hz, its.reverse, ?_, IsTup.new _ _⟩
  exact r.reverse
end L2
namespace L2
open PySem PySem.Spec PyProof.Rows
def freshSet (w : World) : Obj := { cls := .type "set", dict := none, data := .set #[] 0 (.fresh 0 0 (!w.params.followText "set-order")) }
section
variable {P : Program} {w : World} {A : Around} {E : Value → Shared → Prop} {s : Shared}
set_option maxRecDepth 100000 in
set_option maxHeartbeats 3200000 in
/-- set(xs), xs a list of ints -/
theorem call_setLst {l : Addr} {items : Array Value} (ns : List Int) {Q : Value → Shared → Prop} (hh : A.handled = none) (hl : s.heap.IsList l items) (hit : IntsAre items.toList ns) (hb : ns.length + 1 < scanBound)
    (h : ∀ (h' : Heap) (tk c : Nat), SetR w h' s.heap.objs.size (fun j => decide (j ∈ ns)) c → c ≤ ns.length → (∀ b o, s.heap.get? b = some o → h'.get? b = some o) → Q (.ref s.heap.objs.size) { s with heap := h', toks := tk }) :
    wpAny (model P w) A (call (.type "set") [Value.ref l]) Q E s := by
  have hisz : items.size = ns.length := by
    have q := IntsAre.length hit; rw [Array.length_toList] at q; exact q
  obtain ⟨c, tl, hmro⟩ := F.called_set.mro; have hmade := F.called_set.made; have hsub := F.called_set.sub
  refine wpAny_call (codeAny_of_tree ?_)
  show wpAny _ _ (callAny (.type "set") _) _ _ _
  refine wpAny_pure ⟨Code.quiet_builtin _ (show _ by decide +kernel), codeAny_builtin F.entry_type_call ?_⟩
  rw [Around.under_plain (weight_type_call_type "set" [Value.ref l] []) rfl]
  have h1 := F.called_set.notType; have h2 := F.called_set.canCreate; have hct := F.typeCall_set_1 (.ref l)
  repeat (any_goals (first | (assumption) | (wp_step)))
  refine codeAny_mono (code_set_led1 (.ref l) (E := E) (Q₁ := fun obj s₁ => obj = .ref s.heap.objs.size ∧ s₁ = { s with heap := s.heap.push (freshSet w) }) ⟨rfl, rfl⟩) fun r s₁ hr => ?_
  rcases r with e | fl
  · exact hr
  · cases fl with
    | ret obj =>
      obtain ⟨rfl, rfl⟩ := hr
      have hS : (s.heap.push (freshSet w)).get? s.heap.objs.size = some (freshSet w) := Heap.get?_push_size _ rfl
      have hT : Shared.TypeIs { s with heap := s.heap.push (freshSet w) } (.ref s.heap.objs.size) "set" := ⟨_, hS, rfl⟩
      have hli := F.called_set.init.lookup; have hbi := F.called_set.init.bind (.ref s.heap.objs.size)
      repeat (any_goals (first | (assumption) | (wp_step)))
      refine codeAny_mono (codeAny_call_builtin (R := wants (fun r s₂ => r = .none ∧ ∃ h' tk c, s₂ = { s with heap := h', toks := tk } ∧ SetR w h' s.heap.objs.size (fun j => decide (j ∈ ns)) c ∧ c ≤ ns.length ∧ (∀ b o, s.heap.get? b = some o → h'.get? b = some o)) E)
        F.called_set.init.plain F.entry_set_init (check_set_init_1 hT ?_)) fun r₂ s₂ hr₂ => ?_
      · obtain ⟨⟨ocls, odict, odata, oslots⟩, hol, hcl, nl, hdl⟩ := hl
        simp only at hcl hdl
        subst hcl hdl
        have hol' : (s.heap.push (freshSet w)).get? l = some { cls := .type "list", dict := odict, data := .seq items nl, slots := oslots } := Heap.get?_push_of_some _ hol
        have hsls := F.sub_list_set; have hslf := F.sub_list_frozenset
        have hne : (Value.type "list" == Value.type "dict") = false := show _ by decide
        have hl1 : (s.heap.push (freshSet w)).IsList l items := ⟨_, hol', rfl, nl, rfl⟩
        unfold Builtin.«set.__init__»; unfold noKeywords; unfold Builtin.Frozenset.updateFrom
        generalize hPI : pyIter = PI
        wp_walk; subst hPI
        refine wpAny_pyIter_list hl1 ?_; refine wpAny_bind (wpAny_runValue ?_)
        have hlS : l < s.heap.objs.size := Heap.lt_size hol
        have hh3 : A.in1.in1.in1.handled = none := by simp [hh]
        have hneI : l ≠ (s.heap.push (freshSet w)).objs.size := by
          rw [Heap.size_push]; exact (Nat.ne_of_lt (Nat.lt_succ_of_lt hlS))
        have hSf : s.heap.objs.size ∉ [(s.heap.push (freshSet w)).objs.size, l] := by
          rw [Heap.size_push]; simp only [List.mem_cons, List.mem_singleton, List.not_mem_nil, or_false, not_or]; exact ⟨Nat.ne_of_lt (Nat.lt_succ_self _), Nat.ne_of_gt hlS⟩
        have hval : ∀ (i : Nat) (v : Value), items[i]? = some v → ∃ k t, ns[i]? = some k ∧ v = .int k t := fun i v hv => by
          have hi : i < ns.length := hisz ▸ (Array.getElem?_eq_some_iff.mp hv).1
          obtain ⟨t, e⟩ := PyProof.Rows.IntsAre.int_at hit i v (by rw [Array.getElem?_toList] <;> exact hv)
          exact ⟨ns[i], t, List.getElem?_eq_getElem hi, by rw [e, List.getD_eq_getElem?_getD, List.getElem?_eq_getElem hi] <;> rfl⟩
        refine set_update_ints ((Walks.list hh3 _ l hneI items).toS) s.heap.objs.size hSf ns hisz hb hval (items.size - 0) 0 _ (by omega) (Nat.zero_le _) ⟨⟨_, Heap.get?_push_size _ rfl, rfl, rfl⟩, (hl1.push _)⟩ ?hS0 ?hR
        case hS0 =>
          have hget : ((s.heap.push (freshSet w)).push { cls := .type "list_iterator", data := .fields #[.ref l, .int 0 0] }).get? s.heap.objs.size = some (freshSet w) := Heap.get?_push_of_some _ hS
          exact ⟨0, (Nat.le_refl 0), setR_new_at hget⟩
        case hR =>
          intro s' c' hm hc' hS'
          obtain ⟨h', g2, d', tk', os'⟩ := s'
          have eg : g2 = s.gens := hm.gens; have ed : d' = s.drawn := hm.drawn; have eo : os' = s.os := hm.os
          subst eg ed eo
          show wpAny _ _ _ _ _ _; refine wpAny_pure ?_
          show wpAny _ _ (ret Value.none) _ _ _; rw [hisz] at hc'
          refine wpAny_pure ⟨rfl, h', tk', c', rfl, hS', hc', fun b o e => hm.heap b o ?_ (Heap.get?_push_of_some _ (Heap.get?_push_of_some _ e))⟩
          have hb0 : b < s.heap.objs.size := Heap.lt_size e
          simp only [List.mem_cons, List.mem_singleton, List.not_mem_nil, or_false, not_or, Heap.size_push]
          exact ⟨Nat.ne_of_lt hb0, Nat.ne_of_lt (Nat.lt_succ_of_lt hb0)⟩
      · rcases r₂ with e | fl₂
        · exact hr₂
        · cases fl₂ with
          | ret r =>
            obtain ⟨rfl, h', tk, c', rfl, hS', hc', hk'⟩ := hr₂
            repeat (any_goals (first | (assumption) | (wp_step)))
            exact (h _ _ _ hS' hc' hk')
          | _ => exact (hr₂.elim)
    | _ => exact (hr.elim)
end
def rSetLst (K : PySem.W.Frag) (w : World) : List V → Hp → VK → Prop := fun vs H Q => ∃ (a : Addr) (ns : List Int), vs = [V.ref a] ∧ SqL K H a (ns.map V.int) ∧ ns.length ≤ 1000 ∧
  ∀ (p : Addr) (c : Nat), H p = none → c ≤ ns.length → Q (.ref p) (upd H p (SetO w p (fun j => decide (j ∈ ns)) c))
theorem cr_setL {X : Cx} (hc : X.calm = true) : CallR X (.type "set") (rSetLst X.K X.w) := by
  intro pins s σ H xs us Q I r h
  obtain ⟨a, ns, rfl, hq, hl, q⟩ := h
  rw [Vals.ref1 r]
  obtain ⟨its, rv, pt, hz⟩ := I.list hq
  have hi : IntsAre its.toArray.toList ns := ints_of_vals rv
  refine call_setLst ns (I.ok.hd hc) pt.isList hi (by unfold scanBound; omega) fun h' tk c R1 hcn k => ?_
  exact ⟨.ref _, upd H s.heap.objs.size (SetO X.w s.heap.objs.size (fun j => decide (j ∈ ns)) c), I.laid (t' := tk) k (Nat.le_refl _) (setO_new R1), rfl, q _ c (I.hok.fresh (Nat.le_refl _)) hcn⟩
/-- len(s) of a set of ints: so many unlike members -/
def rLenSet (w : World) : List V → Hp → VK → Prop := fun vs H Q => ∃ (a : Addr) (S : Int → Bool) (n : Nat), vs = [V.ref a] ∧ H a = some (SetO w a S n) ∧ ((∃ ms : List Int, ms.Nodup ∧ ms.length = n ∧ ∀ k, S k = true ↔ k ∈ ms) → Q (.int (n : Nat)) H)
theorem cr_lenSet {X : Cx} : CallR X (.builtin "len") (rLenSet X.w) := by
  intro pins s σ H vs us Q I r h
  obtain ⟨a, S, n, rfl, ha, q⟩ := h
  obtain ⟨o, es, ep, t, ho, hx, hd, g, nd, hm, hb, hf, hn, _⟩ := setO_get I ha
  rw [Vals.ref1 r]
  refine call_len_set ho hx hd hf (by unfold scanBound at hb; omega) ⟨.int (n : Nat), H, I.tok _, ⟨_, by rw [hn]⟩, q ⟨es.toList.map keyOf, nd, by rw [List.length_map, Array.length_toList]; exact hn, hm⟩⟩
end L2
namespace L2
open PySem
theorem rep_one {α : Type} (z : α) : ∀ m : Nat, (List.replicate m [z]).flatten = List.replicate m z
  | 0 => rfl
  | m + 1 => by rw [List.replicate_succ, List.flatten_cons, rep_one z m, List.replicate_succ] <;> rfl
end L2

namespace Law
open PySem L2
section
variable {P : Program} {w : World} {K : PySem.W.Frag} {mg : Str → Option Value} {base : Heap}
def spMovesN (K : PySem.W.Frag) : Sp := fun vs H Q _ => ∃ (p : Addr) (many most : Nat), vs = [.ref p, .int (many : Int), .int (most : Int)] ∧ 1 ≤ many ∧ many ≤ 12 ∧ 1 ≤ most ∧ most ≤ 24 ∧ HandAt H p ∧
  ∀ (l : Addr) (H' : Hp) (ms : List Mv), Stp p H H' → MvsAt K H' l ms → MvsOk many ms → ms.length ≤ most → Q (.ref l) H'
abbrev nMoves : List Str := ["_law_hand_here", "_law_many", "_law_most", "_law_count", "_law_one", "_law_found", "_law_share_here", "_law_leads_here", "_law_k"]
theorem scMoves : FnScope nMoves ["_law_hand_here", "_law_many", "_law_most"] (defScope s_law_moves) := ⟨rfl, rfl, rfl, by decide +kernel, rfl, by decide +kernel, by decide +kernel⟩
theorem ok_moves {f fD fS fL : Addr} {fd fdD fdS fdL : FuncData} (F : Fun K "_law_moves" "_law_moves" s_law_moves f fd) (T : NmA mg) (D : Cl P w K mg base CX0 1 "_law_draw" fD fdD ["_law_hand_here", "_law_many"] spDraw)
    (S : Cl P w K mg base CX0 35 "_law_shares" fS fdS ["_law_hand_here", "_law_many"] (spShares K)) (L : Cl P w K mg base CX0 3 "_law_leads" fL fdL ["_law_hand_here", "_law_many"] (spLeads K)) :
    FnOk P w K mg base CX0 36 f fd ["_law_hand_here", "_law_many", "_law_most"] (spMovesN K) := by
  refine F.ok scMoves (fun vs H Q E h => ?_) (fun cdv A' outer s H vs Q E hr h => ?_)
  · obtain ⟨p, many, most, rfl, _⟩ := h
    rfl
  · obtain ⟨p, many, most, rfl, m1, m12, c1, c24, hH, k⟩ := h
    have hr1 := hr.mono (show 1 ≤ 35 by decide)
    refine ⟨_, pss_cons (ps_set (i := 3) scMoves.nd rfl (Or.inl rfl) (pe_op op_add pe_int (D.call hr1 (pa_cons (pv 0) (pa_cons (pv 2) pa_nil)))))
      (pss_cons (ps_set (i := 4) scMoves.nd rfl (Or.inl rfl) (D.call hr1 (pa_cons (pv 0) (pa_cons pe_int pa_nil))))
      (pss_cons (ps_set (i := 5) scMoves.nd rfl (Or.inl rfl) (pe_lst pa_nil))
      (pss_cons (ps_for PassesOwn.never rfl (pi_list (S.call hr (pa_cons (pv 0) (pa_cons (pv 3) pa_nil)))) (pg_name (i := 6) scMoves.nd rfl (Or.inl rfl))
        (pss_cons (ps_set (i := 7) scMoves.nd rfl (Or.inr rfl) (L.call (hr.mono (by decide)) (pa_cons (pv 0) (pa_cons (pv 1) pa_nil))))
        (pss_cons (ps_if (PW.pt (pw_and (pt_cmpR op_eq (pv 4) pe_int (nomark _)) (pw_and1 (pt_cmpR op_gt (pe_callB call_len_seq (by rfl) T.len PySem.boot_len (pa_cons (pv 5) pa_nil)) pe_int (nomark _)))))
          (pss_one (ps_set (i := 7) scMoves.nd rfl (Or.inr rfl) (pe_callTy call_tuple_of (by rfl) T.tuple (by decide +kernel) (pa_cons (pe_lc (own := [("_law_k", 8)]) (g := gName 8) (tt := tYes) rfl scMoves.nd (pi_tup (pe_ix ix_tup (pe_ix ix_list (pv 5) pe_int (fun _ _ => rfl)) pe_int (fun _ _ => rfl)))
            (blkOk_by (own := [("_law_k", 8)]) (N := nMoves) (sc := defScope s_law_moves) (by decide +kernel)) (fun _ _ _ _ _ => pg_name (i := 8) scMoves.nd rfl (Or.inl rfl)) (fun _ _ _ _ _ => pts_nil)
            (fun _ _ _ _ _ => pe_op op_mod (pe_callTy (r := fun xs H Q => (∃ i, xs = [.int i] ∧ Q (.int i) H) ∨ ∃ k, xs = [.bl k] ∧ Q (.int (if k then 1 else 0)) H) call_int1 (by rfl) T.int (by decide +kernel)
              (pa_cons (pe_op op_add (pv 8) (pe_ix (r := rIxT K) (show IxR _ (rIxT K) from ix_tup) (pv 7) pe_int (fun _ _ => rfl))) pa_nil)) (pv 1))) pa_nil)))) pss_nil)
        (pss_one (ps_expr (pe_bm PySem.F.plainAttrs_list PySem.F.slot_list_append PySem.F.type_list_append mt_append (pv 5) (pa_cons (pe_tup (pa_cons (pv 6) (pa_cons (pv 7) pa_nil))) pa_nil)))))))
      (pss_one (ps_ret (pe_callTy call_tuple_of (by rfl) T.tuple (by decide +kernel) (pa_cons (pv 5) pa_nil))))))), ?_⟩
    refine ⟨_, rfl, _, rfl, p, (most : Int), rfl, by omega, by omega, hH, fun d H1 d0 d1 S1 => ⟨_, _, rfl, rfl, ?_⟩⟩
    obtain ⟨c, rfl⟩ := Int.eq_ofNat_of_zero_le d0
    refine ⟨_, rfl, p, 5, rfl, by decide, by decide, S1.hand, fun e H2 e0 e1 S2 => ?_⟩
    refine ⟨by show 0 ≤ sizeLine; decide, fun W hW => ?_⟩
    have S12 := S1.trans S2
    have hWH : H W = none := S12.free hW
    have S3 : Stp p H (upd H2 W (.lst [])) := S12.post (Same.new hW)
    have g3 : (upd H2 W (.lst [])) W = some (.lst []) := upd_same
    generalize upd H2 W (.lst []) = H3 at S3 g3 ⊢
    refine ⟨_, rfl, _, rfl, p, 1 + c, rfl, by omega, by omega, S3.hand, fun D H4 us fs hD3 S4 hD hF hn hg one => ?_⟩
    have WD : W ≠ D := ne_of_none g3 hD3
    have nW : W ≠ p := ne_of g3 S3.hand.dk.choose_spec (by intro z; cases z)
    have hus : us.length = fs.length := hF.1
    refine ⟨D, rfl, ⟨_, SqL.of hD⟩, for_list (K := K) (a := D) (xs := us) (fun i σ H' => Stp p H H' ∧ H' D = some (.lst us) ∧ FrsIn K H' us fs ∧ ∃ (acc : List V) (ms : List Mv) (u v : Option V), H' W = some (.lst acc) ∧ MvsIn K H' acc ms ∧ ms.map (·.1) = fs.take i ∧ (∀ m ∈ ms, MvOk many m ∧ m.1.1 < 10 ^ 12 ∧ m.1.2 < 10 ^ 12) ∧
      σ = [some (.ref p), some (.int (many : Int)), some (.int (most : Int)), some (.int (1 + (c : Int))), some (.int e), some (.ref W), u, v, none]) ?_ (fun i σ H' _ h => SqL.of h.2.1) ?_ ?_⟩
    · refine ⟨S3.trans S4, hD, hF, [], [], none, none, S4.keep _ _ nW g3, ⟨rfl, fun i v hv => by simp at hv⟩, rfl, fun m hm => absurd hm List.not_mem_nil, rfl⟩
    · rintro i x σ H' hi ⟨S5, h1, h2, acc, ms, u, v, h3, h4, h5, h6, rfl⟩
      obtain ⟨g, hg1, t, rfl, hT⟩ := h2.2 i x hi
      have gm := List.mem_of_getElem? hg1
      have hil : i < fs.length := (List.getElem?_eq_some_iff.mp hg1).1
      have hml : ms.length = i := by
        have z := congrArg List.length h5
        rw [List.length_map, List.length_take] at z
        omega
      have nD : D ≠ p := ne_of h1 S5.hand.dk.choose_spec (by intro z; cases z)
      have nW' : W ≠ p := nW
      refine ⟨_, rfl, _, rfl, p, many, rfl, m1, m12, S5.hand, fun l H6 xs S6 hl hxl hxb => ?_⟩
      have fin : ∀ (l' : Addr) (H7 : Hp) (ys : List Int), Stp p H' H7 → H7 l' = some (.tup (ys.map V.int)) → ys.length = many → (∀ x ∈ ys, 0 ≤ x ∧ x < (many : Int)) →
          ∀ q, H7 q = none → ∃ l xs y, V.ref W = .ref l ∧ [V.ref q] = [y] ∧ (upd H7 q (.tup [.ref t, .ref l'])) l = some (.lst xs) ∧ xs.length < sizeLine ∧
            (Stp p H (upd (upd H7 q (.tup [.ref t, .ref l'])) l (.lst (xs ++ [y]))) ∧ (upd (upd H7 q (.tup [.ref t, .ref l'])) l (.lst (xs ++ [y]))) D = some (.lst us) ∧ FrsIn K (upd (upd H7 q (.tup [.ref t, .ref l'])) l (.lst (xs ++ [y]))) us fs ∧
              ∃ (acc : List V) (ms : List Mv) (u v : Option V), (upd (upd H7 q (.tup [.ref t, .ref l'])) l (.lst (xs ++ [y]))) W = some (.lst acc) ∧ MvsIn K (upd (upd H7 q (.tup [.ref t, .ref l'])) l (.lst (xs ++ [y]))) acc ms ∧ ms.map (·.1) = fs.take (i + 1) ∧ (∀ m ∈ ms, MvOk many m ∧ m.1.1 < 10 ^ 12 ∧ m.1.2 < 10 ^ 12) ∧
              [some (V.ref p), some (.int (many : Int)), some (.int (most : Int)), some (.int (1 + (c : Int))), some (.int e), some (.ref W), some (.ref t), some (.ref l'), none] = [some (.ref p), some (.int (many : Int)), some (.int (most : Int)), some (.int (1 + (c : Int))), some (.int e), some (.ref W), u, v, none]) := by
        intro l' H7 ys S7 hl' hyl hyb q hq
        have s8 : Same H7 (upd H7 q (.tup [.ref t, .ref l'])) := Same.new hq
        have g8 : (upd H7 q (.tup [.ref t, .ref l'])) q = some (.tup [.ref t, .ref l']) := upd_same
        generalize upd H7 q (.tup [.ref t, .ref l']) = H8 at s8 g8 ⊢
        have S8 : Stp p H' H8 := S7.post s8
        have w8 := S8.keep _ _ nW h3
        have F8 : FrsIn K H8 us fs := S8.fr S5.hand h2
        refine ⟨W, acc, _, rfl, rfl, w8, small1000 (by have := h4.1; omega), (S5.trans S8).mut hH hWH, ?_, ⟨F8.1, fun j v hj => ?_⟩, acc ++ [.ref q], ms ++ [(g, ys)], _, _, upd_same, (S8.mv S5.hand h4).snoc w8 ⟨q, t, l', rfl, SqT.of g8, S8.sqT S5.hand hT, SqT.of (s8 _ _ hl')⟩, ?_, ?_, rfl⟩
        · rw [upd_ne (Ne.symm WD)]
          exact S8.keep _ _ nD h1
        · obtain ⟨f, y1, y2, y3, y4⟩ := F8.2 j v hj
          exact ⟨f, y1, y2, y3, sqT_upd w8 y4⟩
        · rw [List.map_append, h5, List.take_add_one, hg1] <;> rfl
        · intro m hm
          rcases List.mem_append.mp hm with hm | hm
          · exact h6 m hm
          · rw [List.mem_singleton.mp hm]
            obtain ⟨⟨g1, g2, g3⟩, g4, g5⟩ := hg g gm
            exact ⟨⟨g1, g2, g3, hyl, hyb⟩, g4, g5⟩
      have fin1 : ∀ q, H6 q = none → _ := fin l H6 xs S6 hl hxl hxb
      have w6 := S6.keep _ _ nW h3
      refine ⟨_, rfl, rfl, _, rfl, ite2 (fun _ => ?_) (fun _ => ?_)⟩
      · refine ⟨_, rfl, W, _, rfl, .inl (SqL.of w6), _, _, rfl, rfl, _, rfl, ite2 (fun hlen => ?_) (fun _ => ?_)⟩
        · have hlen := of_decide_eq_true hlen
          have ha : 0 < acc.length := by omega
          obtain ⟨v0, hv0, hv0m, hv0a⟩ := at_len ha
          obtain ⟨m0, hm0, a0, s0, l0, rfl, hA0, hT0, hL0⟩ := (S6.mv S5.hand h4).2 0 v0 hv0
          obtain ⟨k0, _⟩ := h6 m0 (List.mem_of_getElem? hm0)
          refine ⟨_, rfl, W, _, _, _, rfl, rfl, SqL.of w6, hv0a, a0, _, _, _, rfl, rfl, hA0, ats1 _ _, l0, rfl, ⟨_, hL0⟩, fun E hE => ?_⟩
          refine lc_tup (K := K) (a := l0) (xs := m0.2.map V.int) (Grow p E H6 many) (Grow.zero S6.hand hE) (fun j H7 _ z => z.1.sqT S6.hand hL0) (fun j x H7 hj z => ?_) (fun H7 z => ?_)
          · rw [List.getElem?_map] at hj
            obtain ⟨y, hy, rfl⟩ := Option.map_eq_some_iff.mp hj
            have hjl := (List.getElem?_eq_some_iff.mp hy).1
            have mp : (0 : Int) < many := by omega
            have nl : l ≠ p := ne_of hl S6.hand.dk.choose_spec (by intro z; cases z)
            have hx0 : 0 < (xs.map V.int).length := by
              rw [List.length_map]
              omega
            obtain ⟨x0, hx1, hx2, hx3⟩ := at_len hx0
            rw [List.getElem?_map] at hx1
            obtain ⟨x00, _, rfl⟩ := Option.map_eq_some_iff.mp hx1
            refine ⟨rfl, _, rfl, _, rfl, l, _, _, _, rfl, rfl, SqT.of (z.1.keep _ _ nl hl), hx3, _, _, rfl, rfl, .inl ⟨_, rfl, _, rfl, _, _, rfl, rfl, mp, ?_⟩⟩
            exact z.put S6.hand hE (Stp.refl z.1.hand) (by have := k0.2.2.2.1; omega) (Int.emod_nonneg _ (by omega)) (Int.emod_lt_of_pos _ mp)
          · obtain ⟨S7, ws, z1, z2, z3⟩ := z
            rw [List.length_map, k0.2.2.2.1] at z2
            refine ⟨E, _, rfl, .inl ⟨SqL.of z1, fun l2 hl2 => ?_⟩⟩
            have s9 : Same H7 (upd H7 l2 (.tup (ws.map V.int))) := Same.new hl2
            have S9 : Stp p H' (upd H7 l2 (.tup (ws.map V.int))) := (S6.trans S7).post s9
            exact ⟨_, rfl, .inl ⟨rfl, _, SqL.of (S9.keep _ _ nW h3)⟩, _, rfl, _, rfl, (by show 2 ≤ sizeLine; decide), fin l2 _ ws S9 upd_same z2 z3⟩
        · exact ⟨_, rfl, .inl ⟨rfl, _, SqL.of w6⟩, _, rfl, _, rfl, (by show 2 ≤ sizeLine; decide), fin1⟩
      · exact ⟨_, rfl, .inl ⟨rfl, _, SqL.of w6⟩, _, rfl, _, rfl, (by show 2 ≤ sizeLine; decide), fin1⟩
    · rintro σ H' ⟨S5, h1, h2, acc, ms, u, v, h3, h4, h5, h6, rfl⟩
      rw [hus, List.take_length] at h5
      have hml : ms.length = 1 + c := by
        have z := congrArg List.length h5
        rw [List.length_map] at z
        omega
      refine ⟨_, rfl, W, _, rfl, .inl ⟨SqL.of h3, fun l hl => ?_⟩⟩
      have s6 : Same H' (upd H' l (.tup acc)) := Same.new hl
      exact k l _ ms (S5.post s6) ⟨acc, SqT.of upd_same, h4.same s6⟩ ⟨⟨m1, m12, by omega, by omega, fun m hm => (h6 m hm).1, by rw [h5]; exact one⟩, fun m hm => (h6 m hm).2⟩ (by omega)
end
end Law


namespace L2
open PySem PySem.Spec PyProof.Rows TL
/-! ### texts: cut at a sign -/
theorem first_of {c : Nat} : ∀ {l : List Nat}, c ∈ l → ∃ a b, l = a ++ c :: b ∧ c ∉ a
  | [], h => absurd h List.not_mem_nil
  | x :: l, h => by
    by_cases e : x = c
    · exact ⟨[], l, by rw [e] <;> rfl, List.not_mem_nil⟩
    · rcases List.mem_cons.mp h with h | h
      · exact absurd h.symm e
      · obtain ⟨a, b, h1, h2⟩ := first_of h
        refine ⟨x :: a, b, by rw [h1] <;> rfl, fun m => ?_⟩
        rcases List.mem_cons.mp m with m | m
        · exact e m.symm
        · exact h2 m
theorem part_at {x : Str} {c : Nat} {a b : List Nat} (e : tl x = a ++ c :: b) (h : c ∉ a) : Txt.partition x ⟨#[c]⟩ = (⟨a.toArray⟩, ⟨#[c]⟩, ⟨b.toArray⟩) := by
  have hy : tl (⟨#[c]⟩ : Str) = [c] := rfl
  rw [partition_par x ⟨#[c]⟩ (by rw [hy]; simp), hy, e, show a ++ c :: b = a ++ ([c] ++ b) from rfl, par_part1 h, List.nil_append]
theorem part_no {x : Str} {c : Nat} (h : c ∉ tl x) : Txt.partition x ⟨#[c]⟩ = (x, Str.empty, Str.empty) := by
  have hy : tl (⟨#[c]⟩ : Str) = [c] := rfl
  rw [partition_par x ⟨#[c]⟩ (by rw [hy]; simp), hy, par_none1 h]
theorem find_at {x : Str} {c : Nat} {a b : List Nat} (e : tl x = a ++ c :: b) (h : c ∉ a) : Txt.find x ⟨#[c]⟩ = (a.length : Int) := by
  have p := part_at e h
  unfold Txt.partition at p
  unfold Txt.find
  cases ho : Builtin.Str.occurrences x ⟨#[c]⟩ 0 x.length 1 with
  | nil =>
    rw [ho] at p
    have q : Str.empty = (⟨#[c]⟩ : Str) := congrArg (fun z : Str × Str × Str => z.2.1) p
    have q := congrArg (fun z : Str => z.length) q
    exact absurd (show (0 : Nat) = 1 from q) (by decide)
  | cons i r =>
    rw [ho] at p
    obtain ⟨hb, _⟩ := PySem.StrLaws.occ_spec x ⟨#[c]⟩ 0 x.length 1 i (by rw [ho]; exact List.mem_cons_self ..)
    have q : Builtin.Str.strSub x 0 i = (⟨a.toArray⟩ : Str) := congrArg (fun z : Str × Str × Str => z.1) p
    have q := congrArg (fun z : Str => (tl z).length) q
    have l : (tl x).length = x.length := (len_tl x).symm
    change (tl (Builtin.Str.strSub x 0 i)).length = a.length at q
    rw [tl_strSub, List.length_take, List.length_drop, l] at q
    have hb' : i + 1 ≤ x.length := hb
    have : i = a.length := by omega
    show (i : Int) = (a.length : Int)
    omega
theorem tl_cutS_to {z : Str} {n : Nat} : tl (cutS z none (some (n : Int))) = (tl z).take n := by
  unfold cutS
  show ((z.cps.toList.drop 0).take (HT.sIx z.length z.length (some (n : Int)) - 0)) = _
  have l := len_tl z
  rw [HT.sIx_nat, List.drop_zero, Nat.sub_zero]
  rcases Nat.le_total n z.length with h | h
  · rw [Nat.min_eq_left h]
  · rw [Nat.min_eq_right h]
    show (tl z).take z.length = _
    rw [List.take_of_length_le (by omega), List.take_of_length_le (by omega)]
theorem tl_cutS_from {z : Str} {n : Nat} : tl (cutS z (some (n : Int)) none) = (tl z).drop n := by
  unfold cutS
  show ((z.cps.toList.drop (HT.sIx z.length 0 (some (n : Int)))).take (z.length - HT.sIx z.length 0 (some (n : Int)))) = _
  have l := len_tl z
  rw [HT.sIx_nat]
  show ((tl z).drop (min n z.length)).take (z.length - min n z.length) = _
  rw [List.take_of_length_le (by rw [List.length_drop]; omega)]
  rcases Nat.le_total n z.length with h | h
  · rw [Nat.min_eq_left h]
  · rw [Nat.min_eq_right h, List.drop_of_length_le (by omega), List.drop_of_length_le (by omega)]
theorem tl_cutS_last {z : Str} : tl (cutS z none (some (-1))) = (tl z).take ((tl z).length - 1) := by
  unfold cutS
  show ((z.cps.toList.drop 0).take (HT.sIx z.length z.length (some (-1)) - 0)) = _
  have l := len_tl z
  have e : HT.sIx z.length z.length (some (-1)) = z.length - 1 := by
    have := HT.sIx_le z.length z.length (Nat.le_refl _) (some (-1))
    unfold HT.sIx
    simp only
    split <;> omega
  rw [e, List.drop_zero, Nat.sub_zero, l]
/-! ### numbers as texts -/
/-- what number_of_text tells -/
def numO (w : Str) : Option Int :=
  if (!Txt.isascii w || !Txt.isdigit w || decide ((12 : Int) < ((w.length : Nat) : Int))) = true then none else if (Txt.startswith w "0" && !decide (w = "0")) = true then none else some (NumText.digitsVal (tl w) : Int)
theorem asc_iff (w : Str) : Txt.isascii w = true ↔ ∀ c ∈ tl w, c < 128 := by
  unfold Txt.isascii
  rw [← Array.all_toList, List.all_eq_true]
  exact ⟨fun h c hc => of_decide_eq_true (h c hc), fun h c hc => decide_eq_true (h c hc)⟩
theorem dig_of {c : Nat} (h : c < 128) : Unicode.isDigit c = decide (48 ≤ c ∧ c ≤ 57) := by
  have key : ∀ c, c < 128 → Unicode.isDigit c = decide (48 ≤ c ∧ c ≤ 57) := by decide +kernel
  exact key c h
theorem dig_iff {w : Str} (ha : ∀ c ∈ tl w, c < 128) : Txt.isdigit w = true ↔ tl w ≠ [] ∧ NumText.AllDigits (tl w) := by
  unfold Txt.isdigit
  rw [Bool.and_eq_true, ← Array.all_toList, List.all_eq_true]
  have l := len_tl w
  constructor
  · rintro ⟨h1, h2⟩
    refine ⟨fun z => ?_, fun c hc => ?_⟩
    · rw [z] at l
      have := of_decide_eq_true h1
      rw [l] at this
      exact absurd this (by decide)
    · have := h2 c hc
      rw [dig_of (ha c hc)] at this
      exact of_decide_eq_true this
  · rintro ⟨h1, h2⟩
    refine ⟨decide_eq_true ?_, fun c hc => ?_⟩
    · have := List.length_pos_iff.mpr h1
      omega
    · rw [dig_of (ha c hc)]
      exact decide_eq_true (h2 c hc)
theorem tl_zero : tl ("0" : Str) = [48] := by decide +kernel
theorem starts0 (w : Str) : Txt.startswith w "0" = ((tl w).take 1 == [48]) := by
  unfold Txt.startswith
  rw [PySem.StrLaws.subAt_eq]
  have h0 : ("0" : Str).length = 1 := by decide +kernel
  have h1 : ("0" : Str).cps.toList = [48] := tl_zero
  have l := len_tl w
  rw [h0, h1, List.drop_zero]
  show (decide (0 + 1 ≤ w.length) && ((tl w).take 1 == [48])) = _
  cases hw : tl w with
  | nil =>
    rw [hw] at l
    have : ¬ (0 + 1 ≤ w.length) := by rw [l]; decide
    rw [decide_eq_false this] <;> rfl
  | cons c r =>
    rw [hw] at l
    have : 0 + 1 ≤ w.length := by rw [l, List.length_cons]; omega
    rw [decide_eq_true this, Bool.true_and]
theorem eq_zero (w : Str) : decide (w = ("0" : Str)) = decide (tl w = [48]) := by
  by_cases h : w = "0"
  · rw [decide_eq_true h, h, tl_zero] <;> rfl
  · rw [decide_eq_false h, decide_eq_false fun z => h (ext_tl (z.trans tl_zero.symm))]
theorem val_snoc (u : List Nat) (c : Nat) : NumText.digitsVal (u ++ [c]) = NumText.digitsVal u * 10 + (c - 48) := by
  unfold NumText.digitsVal
  rw [List.foldl_append] <;> rfl
/-- digits without a needless nought are their number's -/
theorem num_back : ∀ (k : Nat) (u : List Nat), u.length = k → u ≠ [] → NumText.AllDigits u → (u.head? = some 48 → u = [48]) → numL (NumText.digitsVal u) = u ∧ (u ≠ [48] → 0 < NumText.digitsVal u)
  | 0, u, hl, hn, _, _ => absurd (List.length_eq_zero_iff.mp hl) hn
  | k + 1, u, hl, hn, hd, h0 => by
    obtain ⟨v, c, rfl⟩ : ∃ v c, u = v ++ [c] := ⟨u.dropLast, u.getLast hn, (List.dropLast_concat_getLast hn).symm⟩
    have hc := hd c (List.mem_append.mpr (.inr (List.mem_singleton.mpr rfl)))
    rw [val_snoc]
    by_cases hv : v = []
    · subst hv
      have e : NumText.digitsVal [] = 0 := rfl
      rw [e, Nat.zero_mul, Nat.zero_add, numL_lt (by omega)]
      refine ⟨by show [48 + (c - 48)] = [c]; rw [show 48 + (c - 48) = c by omega], fun z => ?_⟩
      have : c ≠ 48 := fun q => z (by rw [q] <;> rfl)
      omega
    · have hv0 : v.head? = some 48 → v = [48] := fun q => by
        have z := h0 (by rw [List.head?_append, q] <;> rfl)
        have z := congrArg List.length z
        rw [List.length_append] at z
        have := List.length_pos_iff.mpr hv
        have z' : v.length + 1 = 1 := z
        omega
      rw [List.length_append] at hl
      obtain ⟨i1, i2⟩ := num_back k v (by simpa using hl) hv (fun d hd' => hd d (List.mem_append.mpr (.inl hd'))) hv0
      have v48 : v ≠ [48] := fun q => by
        have z := h0 (by rw [q] <;> rfl)
        rw [q] at z
        have z := congrArg List.length z
        exact absurd z (by simp)
      have p := i2 v48
      refine ⟨?_, fun _ => by omega⟩
      have e1 : (NumText.digitsVal v * 10 + (c - 48)) / 10 = NumText.digitsVal v := by omega
      have e2 : (NumText.digitsVal v * 10 + (c - 48)) % 10 = c - 48 := by omega
      rw [numL_step (by omega), e1, e2, i1, show 48 + (c - 48) = c by omega]
theorem numL_head {k : Nat} (h : (numL k).head? = some 48) : numL k = [48] := by
  have key : ∀ n k : Nat, k ≤ n → (numL k).head? = some 48 → k = 0 := by
    intro n
    induction n with
    | zero => exact fun k hk _ => by omega
    | succ n ih =>
      intro k hk h
      by_cases k10 : k < 10
      · rw [numL_lt k10] at h
        have := Option.some.inj h
        omega
      · rw [numL_step (by omega), List.head?_append] at h
        cases hq : (numL (k / 10)).head? with
        | none => exact absurd (List.head?_eq_none_iff.mp hq) (numL_ne _)
        | some z =>
          rw [hq] at h
          have := ih (k / 10) (by omega) (hq.trans h)
          omega
  have := key k k (Nat.le_refl _) h
  subst this
  exact numL_lt (by decide)
theorem numO_num {w : Str} {k : Nat} (h : tl w = numL k) (hk : k < 10 ^ 12) : numO w = some (k : Int) := by
  have hd := numL_digits k
  have ha : ∀ c ∈ tl w, c < 128 := fun c hc => by
    rw [h] at hc
    have := hd c hc
    omega
  have l := len_tl w
  have l12 : w.length ≤ 12 := by
    rw [l, h]
    exact numL_len (by decide) hk
  unfold numO
  have c1 : (!Txt.isascii w || !Txt.isdigit w || decide ((12 : Int) < ((w.length : Nat) : Int))) = false := by
    rw [(asc_iff w).mpr ha, (dig_iff ha).mpr ⟨by rw [h]; exact numL_ne k, by rw [h]; exact hd⟩, decide_eq_false (by omega)] <;> rfl
  have c2 : (Txt.startswith w "0" && !decide (w = "0")) = false := by
    rw [starts0, eq_zero, h]
    by_cases q : (numL k).take 1 = [48]
    · have hh : (numL k).head? = some 48 := by
        cases hn : numL k with
        | nil => exact absurd hn (numL_ne k)
        | cons c r =>
          rw [hn] at q
          have : c = 48 := by simpa using q
          rw [this] <;> rfl
      rw [decide_eq_true (numL_head hh), Bool.not_true, Bool.and_false]
    · rw [show ((numL k).take 1 == [48]) = false from beq_eq_false_iff_ne.mpr q, Bool.false_and]
  rw [c1, c2, h, numL_val] <;> rfl
theorem numO_back {w : Str} {i : Int} (h : numO w = some i) : ∃ k : Nat, i = (k : Int) ∧ tl w = numL k ∧ w.length ≤ 12 ∧ NumText.AllDigits (tl w) := by
  unfold numO at h
  by_cases c1 : (!Txt.isascii w || !Txt.isdigit w || decide ((12 : Int) < ((w.length : Nat) : Int))) = true
  · rw [if_pos c1] at h
    cases h
  · rw [if_neg c1] at h
    by_cases c2 : (Txt.startswith w "0" && !decide (w = "0")) = true
    · rw [if_pos c2] at h
      cases h
    · rw [if_neg c2] at h
      rw [Bool.not_eq_true, Bool.or_eq_false_iff, Bool.or_eq_false_iff, Bool.not_eq_false', Bool.not_eq_false'] at c1
      obtain ⟨⟨a1, a2⟩, a3⟩ := c1
      have ha := (asc_iff w).mp a1
      obtain ⟨d1, d2⟩ := (dig_iff ha).mp a2
      have l12 := of_decide_eq_false a3
      have h0 : (tl w).head? = some 48 → tl w = [48] := fun q => by
        rw [Bool.not_eq_true, starts0, eq_zero] at c2
        have t1 : ((tl w).take 1 == [48]) = true := by
          cases hw : tl w with
          | nil => rw [hw] at q; cases q
          | cons c r =>
            rw [hw] at q
            have := Option.some.inj q
            rw [this] <;> rfl
        rw [t1, Bool.true_and, Bool.not_eq_false'] at c2
        exact of_decide_eq_true c2
      obtain ⟨e1, _⟩ := num_back _ (tl w) rfl d1 d2 h0
      exact ⟨NumText.digitsVal (tl w), (Option.some.inj h).symm, e1.symm, by omega, d2⟩
def numV (w : Str) : V := match numO w with
  | some i => .int i
  | none => .non
/-- a word is a number below n -/
def goodW (n : Nat) (w : List Nat) : Bool := ((List.range n).map numL).contains w
theorem goodW_iff {n : Nat} {w : List Nat} : goodW n w = true ↔ ∃ k, k < n ∧ w = numL k := by
  unfold goodW
  rw [List.contains_iff_mem, List.mem_map]
  exact ⟨fun ⟨k, h1, h2⟩ => ⟨k, List.mem_range.mp h1, h2.symm⟩, fun ⟨k, h1, h2⟩ => ⟨k, List.mem_range.mpr h1, h2.symm⟩⟩
/-- what is_within tells of what number_of_text tells -/
theorem numO_good {n : Nat} (hn : n ≤ 10 ^ 12) (w : Str) : goodW n (tl w) = true ↔ ∃ k : Nat, numO w = some (k : Int) ∧ k < n ∧ tl w = numL k := by
  rw [goodW_iff]
  constructor
  · rintro ⟨k, h1, h2⟩
    exact ⟨k, numO_num h2 (by omega), h1, h2⟩
  · rintro ⟨k, _, h2, h3⟩
    exact ⟨k, h2, h3⟩
/-! ### a text of coins: its words, the first wrong one -/
def wdsOf (l : List Nat) : List (List Nat) := if l = [] then [] else spl [32] 0 [] l
def firstBad (n : Nat) : List (List Nat) → Option Nat
  | [] => none
  | w :: ws => if goodW n w = true then (firstBad n ws).map (· + 1) else some 0
theorem firstBad_none {n : Nat} : ∀ {ws : List (List Nat)}, firstBad n ws = none ↔ ∀ w ∈ ws, goodW n w = true
  | [] => ⟨fun _ w hw => absurd hw List.not_mem_nil, fun _ => rfl⟩
  | w :: ws => by
    unfold firstBad
    by_cases h : goodW n w = true
    · rw [if_pos h, Option.map_eq_none_iff, firstBad_none]
      exact ⟨fun q v hv => by
        rcases List.mem_cons.mp hv with e | e
        · rw [e]; exact h
        · exact q v e, fun q v hv => q v (List.mem_cons_of_mem _ hv)⟩
    · rw [if_neg h]
      exact ⟨fun q => (by cases q), fun q => absurd (q w List.mem_cons_self) h⟩
theorem firstBad_some {n : Nat} : ∀ {ws : List (List Nat)} {i : Nat}, (∀ j, j < i → ∃ w, ws[j]? = some w ∧ goodW n w = true) → (∃ w, ws[i]? = some w ∧ goodW n w = false) → firstBad n ws = some i
  | [], i, _, ⟨w, h, _⟩ => by simp at h
  | w :: ws, 0, _, ⟨v, h, g⟩ => by
    have e := Option.some.inj h
    subst e
    unfold firstBad
    rw [if_neg (by rw [g]; exact Bool.false_ne_true)]
  | w :: ws, i + 1, h, ⟨v, h1, g⟩ => by
    obtain ⟨u, hu, gu⟩ := h 0 (Nat.succ_pos _)
    have e := Option.some.inj hu
    subst e
    have ih := firstBad_some (ws := ws) (i := i) (fun j hj => h (j + 1) (by omega)) ⟨v, h1, g⟩
    unfold firstBad
    rw [if_pos gu, ih] <;> rfl
/-- (line, whether it is closed, what stands behind) -/
def cutL (l : List Nat) : List Nat × Bool × List Nat := match par [10] [] l with
  | some (a, b) => (a, true, b)
  | none => (l, false, [])
theorem cutL_at {l a b : List Nat} (e : l = a ++ 10 :: b) (h : 10 ∉ a) : cutL l = (a, true, b) := by
  unfold cutL
  rw [e, show a ++ 10 :: b = a ++ ([10] ++ b) from rfl, par_part1 h] <;> rfl
theorem cutL_no {l : List Nat} (h : 10 ∉ l) : cutL l = (l, false, []) := by
  unfold cutL
  rw [par_none1 h]
/-- the first wrong word of a text of coins, if one is wrong -/
def badF (n : Nat) (l : List Nat) : Option Nat := match firstBad n (wdsOf (cutL l).1) with
  | some i => some i
  | none => if (cutL l).2.1 = true ∧ (cutL l).2.2 = [] then none else some (wdsOf (cutL l).1).length
end L2
namespace L2
open PySem TL
/-- a text that is split is its parts joined -/
theorem join_spl {s : Nat} : ∀ (l acc : List Nat), joinL [s] (spl [s] 0 acc l) = acc ++ l
  | [], acc => by rw [spl_nil, List.append_nil] <;> rfl
  | c :: r, acc => by
    by_cases e : c = s
    · subst e
      have h : pre [c] (c :: r) = true := pre_self [c] r
      rw [spl_hit h]
      have n : spl [c] ([c].length - 1) [] r ≠ [] := by
        show spl [c] 0 [] r ≠ []
        intro z
        have ih := join_spl (s := c) r []
        have l := congrArg List.length (join_spl (s := c) r [])
        cases r with
        | nil => rw [spl_nil] at z; cases z
        | cons d r2 =>
          by_cases e2 : d = c
          · rw [e2, spl_hit (show pre [c] (c :: r2) = true from pre_self [c] r2)] at z
            cases z
          · rw [z] at l
            exact absurd l (by simp [joinL])
      cases hq : spl [c] ([c].length - 1) [] r with
      | nil => exact absurd hq n
      | cons p q =>
        show acc ++ ([c] ++ joinL [c] (p :: q)) = _
        rw [← hq]
        show acc ++ ([c] ++ joinL [c] (spl [c] 0 [] r)) = _
        rw [join_spl r []]
        rfl
    · rw [spl_miss (pre_of_head [] r e), join_spl r (acc ++ [c]), List.append_assoc] <;> rfl
theorem spl_ne (s : Nat) (l acc : List Nat) : spl [s] 0 acc l ≠ [] := by
  cases l with
  | nil => rw [spl_nil]; simp
  | cons c r =>
    by_cases e : c = s
    · rw [e, spl_hit (show pre [s] (s :: r) = true from pre_self [s] r)]
      simp
    · intro z
      have h := join_spl (s := s) (c :: r) acc
      rw [z] at h
      have l := congrArg List.length h
      rw [List.length_append] at l
      exact absurd l (by simp [joinL])
theorem joinL_len (s : Nat) : ∀ (ps : List (List Nat)), (∀ p ∈ ps, p ≠ []) → 2 * ps.length ≤ (joinL [s] ps).length + 1
  | [], _ => by simp
  | [p], h => by
    have := List.length_pos_iff.mpr (h p List.mem_cons_self)
    show 2 * 1 ≤ p.length + 1
    omega
  | p :: q :: r, h => by
    have := List.length_pos_iff.mpr (h p List.mem_cons_self)
    have ih := joinL_len s (q :: r) fun x hx => h x (List.mem_cons_of_mem _ hx)
    show 2 * ((q :: r).length + 1) ≤ (p ++ ([s] ++ joinL [s] (q :: r))).length + 1
    rw [List.length_append, List.length_append]
    show _ ≤ p.length + (1 + _) + 1
    omega
theorem wds_join (l : List Nat) : joinL [32] (wdsOf l) = l := by
  unfold wdsOf
  by_cases e : l = []
  · rw [if_pos e, e] <;> rfl
  · rw [if_neg e, join_spl, List.nil_append]
/-- a well-formed text of so many signs has half as many words -/
theorem wds_len {n : Nat} {l : List Nat} (h : badF n l = none) : 2 * (wdsOf (cutL l).1).length ≤ l.length := by
  unfold badF at h
  cases hb : firstBad n (wdsOf (cutL l).1) with
  | some i => rw [hb] at h; cases h
  | none =>
    rw [hb] at h
    have good := firstBad_none.mp hb
    have hc : (cutL l).2.1 = true ∧ (cutL l).2.2 = [] := by
      by_cases z : (cutL l).2.1 = true ∧ (cutL l).2.2 = []
      · exact z
      · change (if _ then _ else _) = none at h
        rw [if_neg z] at h
        cases h
    have j := joinL_len 32 (wdsOf (cutL l).1) fun p hp => by
      obtain ⟨k, _, rfl⟩ := goodW_iff.mp (good p hp)
      exact numL_ne k
    rw [wds_join] at j
    have len : (cutL l).1.length + 1 ≤ l.length := by
      by_cases m : 10 ∈ l
      · obtain ⟨a, b, e1, e2⟩ := first_of m
        rw [cutL_at e1 e2, e1, List.length_append]
        show a.length + 1 ≤ a.length + (b.length + 1)
        omega
      · rw [cutL_no m] at hc
        cases hc.1
    omega
theorem mem_joinL (s : Nat) : ∀ {ps : List (List Nat)} {p : List Nat}, p ∈ ps → p.length ≤ (joinL [s] ps).length
  | [], _, h => absurd h List.not_mem_nil
  | [q], p, h => by rw [List.mem_singleton.mp h]; exact Nat.le_refl _
  | q :: r :: t, p, h => by
    have e : (joinL [s] (q :: r :: t)).length = q.length + (1 + (joinL [s] (r :: t)).length) := by
      show (q ++ ([s] ++ joinL [s] (r :: t))).length = _
      rw [List.length_append, List.length_append] <;> rfl
    rcases List.mem_cons.mp h with rfl | h
    · omega
    · have := mem_joinL s h
      omega
theorem cnt_joinL (s : Nat) : ∀ (ps : List (List Nat)), ps.length ≤ (joinL [s] ps).length + 1
  | [] => Nat.zero_le _
  | [p] => by show 1 ≤ p.length + 1; omega
  | p :: q :: r => by
    have ih := cnt_joinL s (q :: r)
    show (q :: r).length + 1 ≤ (p ++ ([s] ++ joinL [s] (q :: r))).length + 1
    rw [List.length_append, List.length_append]
    show _ ≤ p.length + (1 + _) + 1
    omega
theorem nums_vals : ∀ {ws : List Str} {cs : List Int}, ws.map tl = (cs.map fun c => numL c.toNat) → (∀ c ∈ cs, 0 ≤ c ∧ c < 10 ^ 12) → ws.map numV = cs.map V.int
  | [], [], _, _ => rfl
  | [], c :: cs, h, _ => by cases h
  | w :: ws, [], h, _ => by cases h
  | w :: ws, c :: cs, h, hc => by
    rw [List.map_cons, List.map_cons] at h
    injection h with h1 h2
    obtain ⟨c0, c1⟩ := hc c List.mem_cons_self
    have e := numO_num h1 (by omega)
    rw [List.map_cons, List.map_cons, nums_vals h2 fun d hd => hc d (List.mem_cons_of_mem _ hd)]
    unfold numV
    rw [e, show ((c.toNat : Nat) : Int) = c by omega]
theorem nums_of {n : Nat} : ∀ {ws : List (List Nat)}, (∀ w ∈ ws, goodW n w = true) → ∃ cs : List Int, (∀ c ∈ cs, 0 ≤ c ∧ c < (n : Int)) ∧ ws = cs.map fun c => numL c.toNat
  | [], _ => ⟨[], fun c hc => absurd hc List.not_mem_nil, rfl⟩
  | w :: ws, h => by
    obtain ⟨k, k1, k2⟩ := goodW_iff.mp (h w List.mem_cons_self)
    obtain ⟨cs, c1, c2⟩ := nums_of fun v hv => h v (List.mem_cons_of_mem _ hv)
    refine ⟨(k : Int) :: cs, fun c hc => ?_, by rw [k2, c2] <;> rfl⟩
    rcases List.mem_cons.mp hc with rfl | hc
    · omega
    · exact c1 c hc
end L2
namespace L2
open PySem PySem.Spec PyProof.Rows TL
/-! ### texts of systems: what is read -/
/-- all of them, if none is missing -/
def allO {α : Type} : List (Option α) → Option (List α)
  | [] => some []
  | none :: _ => none
  | some a :: r => (allO r).map (a :: ·)
theorem allO_some {α : Type} : ∀ {l : List (Option α)} {m : List α}, allO l = some m → l = m.map some
  | [], m, h => by
    cases h
    rfl
  | none :: _, m, h => by cases h
  | some a :: r, m, h => by
    obtain ⟨k, h1, h2⟩ := Option.map_eq_some_iff.mp (show (allO r).map (a :: ·) = some m from h)
    rw [← h2, List.map_cons, ← allO_some h1]
theorem allO_map {α : Type} : ∀ m : List α, allO (m.map some) = some m
  | [] => rfl
  | a :: m => by
    show (allO (m.map some)).map (a :: ·) = _
    rw [allO_map m] <;> rfl
theorem allO_none {α : Type} : ∀ {l : List (Option α)}, allO l = none ↔ none ∈ l
  | [] => ⟨fun h => (nomatch h), fun h => absurd h List.not_mem_nil⟩
  | none :: r => ⟨fun _ => List.mem_cons_self, fun _ => rfl⟩
  | some a :: r => by
    show (allO r).map (a :: ·) = none ↔ _
    rw [Option.map_eq_none_iff, allO_none, List.mem_cons]
    exact ⟨fun h => .inr h, fun h => h.elim (fun z => nomatch z) id⟩
theorem split_no {x : Str} {c : Nat} (hc : c < 256) (h : c ∉ tl x) : Txt.split x ⟨#[c]⟩ = [x] := by
  have hy : tl (⟨#[c]⟩ : Str) = [c] := rfl
  refine map_tl_inj ?_
  rw [split_spl x _ (by rw [hy]; simp) (kind_ok (by simp [hc])), hy, spl_last1 h] <;> rfl
theorem split_at {x : Str} {c : Nat} {a b : List Nat} (hc : c < 256) (e : tl x = a ++ c :: b) (h : c ∉ a) : Txt.split x ⟨#[c]⟩ = ⟨a.toArray⟩ :: Txt.split ⟨b.toArray⟩ ⟨#[c]⟩ := by
  have hy : tl (⟨#[c]⟩ : Str) = [c] := rfl
  refine map_tl_inj ?_
  rw [List.map_cons, split_spl x _ (by rw [hy]; simp) (kind_ok (by simp [hc])), split_spl ⟨b.toArray⟩ _ (by rw [hy]; simp) (kind_ok (by simp [hc])), hy, e, show a ++ c :: b = a ++ ([c] ++ b) from rfl, spl_part1 h] <;> rfl
theorem split_ne {x : Str} {c : Nat} (hc : c < 256) : Txt.split x ⟨#[c]⟩ ≠ [] := by
  by_cases m : c ∈ tl x
  · obtain ⟨a, b, e1, e2⟩ := first_of m
    rw [split_at hc e1 e2]
    simp
  · rw [split_no hc m]
    simp
theorem split_two {x : Str} {c : Nat} (hc : c < 256) (m : c ∈ tl x) : ∃ u v r, Txt.split x ⟨#[c]⟩ = u :: v :: r := by
  obtain ⟨a, b, e1, e2⟩ := first_of m
  rw [split_at hc e1 e2]
  cases h : Txt.split (⟨b.toArray⟩ : Str) ⟨#[c]⟩ with
  | nil => exact absurd h (split_ne hc)
  | cons v r => exact ⟨_, v, r, rfl⟩
theorem numO_bad {w : Str} {c : Nat} (h : c ∈ tl w) (hc : c < 48 ∨ 57 < c) : numO w = none := by
  cases e : numO w with
  | none => rfl
  | some i =>
    obtain ⟨k, _, _, _, d⟩ := numO_back e
    have := d c h
    omega
theorem numO_nil : numO Str.empty = none := by
  cases e : numO Str.empty with
  | none => rfl
  | some i =>
    obtain ⟨k, _, h, _⟩ := numO_back e
    exact absurd h.symm (numL_ne k)
theorem val_lt : ∀ (u : List Nat) (a : Nat), NumText.AllDigits u → u.foldl (fun n c => n * 10 + (c - 48)) a < (a + 1) * 10 ^ u.length
  | [], a, _ => by simp
  | c :: u, a, h => by
    have hc := h c List.mem_cons_self
    have ih := val_lt u (a * 10 + (c - 48)) fun d hd => h d (List.mem_cons_of_mem _ hd)
    refine Nat.lt_of_lt_of_le ih ?_
    have : (a + 1) * 10 ^ (c :: u).length = (a * 10 + 10) * 10 ^ u.length := by rw [List.length_cons, Nat.pow_succ, Nat.mul_comm (10 ^ u.length) 10, ← Nat.mul_assoc, Nat.add_mul]
    rw [this]
    exact Nat.mul_le_mul_right _ (by omega)
theorem numO_nn {w : Str} {i : Int} (h : numO w = some i) : 0 ≤ i ∧ i < 10 ^ 12 := by
  obtain ⟨k, rfl, h1, h2, h3⟩ := numO_back h
  refine ⟨by omega, ?_⟩
  have l := len_tl w
  have z := val_lt (tl w) 0 h3
  rw [h1] at z
  have e : (numL k).foldl (fun n c => n * 10 + (c - 48)) 0 = k := numL_val k
  rw [e, Nat.zero_add, Nat.one_mul, ← h1, ← l] at z
  have := Nat.lt_of_lt_of_le z (Nat.pow_le_pow_right (show 0 < 10 by decide) h2)
  omega
def headO (x : Str) : Option Int := if (Txt.partition x ⟨#[32]⟩).1 = ("states" : Str) then numO (Txt.partition x ⟨#[32]⟩).2.2 else none
def headL (x : Str) : Option Int := match Txt.split x ⟨#[32]⟩ with
  | [a, b] => if a = ("states" : Str) then numO b else none
  | _ => none
theorem head_eq (x : Str) : headL x = headO x := by
  unfold headL headO
  by_cases m : 32 ∈ tl x
  · obtain ⟨a, b, e1, e2⟩ := first_of m
    rw [split_at (by decide) e1 e2, part_at e1 e2]
    by_cases m2 : 32 ∈ tl (⟨b.toArray⟩ : Str)
    · obtain ⟨u, v, r, e⟩ := split_two (by decide) m2
      rw [e, numO_bad m2 (.inl (by decide))]
      simp
    · rw [split_no (by decide) m2]
  · rw [split_no (by decide) m, part_no m, numO_nil]
    simp
def frac2 : Option Int → Option Int → Option (Int × Int)
  | some t, some b => if b ≠ 1 ∧ 0 < b ∧ Nat.gcd t.natAbs b.natAbs = 1 then some (t, b) else none
  | _, _ => none
theorem frac2_no (o : Option Int) : frac2 o none = none := by cases o <;> rfl
def fracO (x : Str) : Option (Int × Int) := if (Txt.partition x ⟨#[47]⟩).2.1 = Str.empty then (numO (Txt.partition x ⟨#[47]⟩).1).map fun t => (t, 1) else frac2 (numO (Txt.partition x ⟨#[47]⟩).1) (numO (Txt.partition x ⟨#[47]⟩).2.2)
theorem sl_ne : ¬ (⟨#[47]⟩ : Str) = Str.empty := fun z => by
  have := congrArg (fun z : Str => z.length) z
  exact absurd (show (1 : Nat) = 0 from this) (by decide)
def fracL (x : Str) : Option (Int × Int) := match allO ((Txt.split x ⟨#[47]⟩).map numO) with
  | some [t] => some (t, 1)
  | some [t, b] => if 1 < b ∧ Nat.gcd t.natAbs b.natAbs = 1 then some (t, b) else none
  | _ => none
theorem frac_eq (x : Str) : fracL x = fracO x := by
  unfold fracL fracO
  by_cases m : 47 ∈ tl x
  · obtain ⟨a, b, e1, e2⟩ := first_of m
    rw [split_at (by decide) e1 e2, part_at e1 e2]
    simp only
    rw [if_neg sl_ne]
    by_cases m2 : 47 ∈ tl (⟨b.toArray⟩ : Str)
    · obtain ⟨u, v, r, e⟩ := split_two (by decide) m2
      rw [e, numO_bad m2 (.inl (by decide)), frac2_no]
      have key : ∀ o p q (s : List (Option Int)), (match allO (o :: p :: q :: s) with
        | some [t] => some (t, 1)
        | some [t, b] => if 1 < b ∧ Nat.gcd t.natAbs b.natAbs = 1 then some (t, b) else none
        | _ => none) = (none : Option (Int × Int)) := fun o p q s => by
        cases o with
        | none => rfl
        | some o =>
          cases p with
          | none => rfl
          | some p =>
            cases q with
            | none => rfl
            | some q =>
              cases h : allO s with
              | none => simp [allO, h]
              | some l => simp [allO, h]
      rw [List.map_cons, List.map_cons, List.map_cons, key]
    · rw [split_no (by decide) m2, List.map_cons, List.map_cons, List.map_nil]
      cases numO (⟨a.toArray⟩ : Str) with
      | none => rfl
      | some t =>
        cases numO (⟨b.toArray⟩ : Str) with
        | none => rfl
        | some b =>
          show (if _ then _ else _) = if _ then _ else _
          by_cases h1 : 1 < b
          · by_cases h2 : Nat.gcd t.natAbs b.natAbs = 1
            · rw [if_pos ⟨h1, h2⟩, if_pos ⟨by omega, by omega, h2⟩]
            · rw [if_neg (fun z => h2 z.2), if_neg (fun z => h2 z.2.2)]
          · rw [if_neg (fun z => h1 z.1), if_neg (fun z => by omega)]
  · rw [split_no (by decide) m, part_no m, List.map_cons, List.map_nil]
    simp only
    rw [if_pos trivial]
    cases numO x <;> rfl
theorem frac_sp {x : Str} (m : 32 ∈ tl x) : fracO x = none := by
  unfold fracO
  by_cases m2 : 47 ∈ tl x
  · obtain ⟨a, b, e1, e2⟩ := first_of m2
    rw [part_at e1 e2]
    simp only
    rw [if_neg sl_ne]
    rw [e1] at m
    rcases List.mem_append.mp m with m | m
    · rw [numO_bad (w := ⟨a.toArray⟩) (c := 32) m (.inl (by decide))] <;> rfl
    · rcases List.mem_cons.mp m with m | m
      · cases m
      · rw [numO_bad (w := ⟨b.toArray⟩) (c := 32) m (.inl (by decide)), frac2_no]
  · rw [part_no m2]
    simp only
    rw [if_pos trivial, numO_bad m (.inl (by decide))] <;> rfl
/-- what fracO tells is in lowest terms -/
theorem frac_ok {x : Str} {t b : Int} (h : fracO x = some (t, b)) : 0 ≤ t ∧ t < 10 ^ 12 ∧ 0 < b ∧ b < 10 ^ 12 ∧ Nat.gcd t.natAbs b.natAbs = 1 := by
  unfold fracO at h
  by_cases c : (Txt.partition x ⟨#[47]⟩).2.1 = Str.empty
  · rw [if_pos c] at h
    obtain ⟨t', h1, h2⟩ := Option.map_eq_some_iff.mp h
    cases h2
    obtain ⟨a1, a2⟩ := numO_nn h1
    exact ⟨a1, a2, by decide, by decide, by simp⟩
  · rw [if_neg c] at h
    cases h1 : numO (Txt.partition x ⟨#[47]⟩).1 with
    | none => rw [h1] at h; cases h
    | some t' =>
      cases h2 : numO (Txt.partition x ⟨#[47]⟩).2.2 with
      | none => rw [h1, h2] at h; cases h
      | some b' =>
        rw [h1, h2] at h
        obtain ⟨a1, a2⟩ := numO_nn h1
        obtain ⟨b1, b2⟩ := numO_nn h2
        change (if _ then _ else _) = _ at h
        by_cases d : b' ≠ 1 ∧ 0 < b' ∧ Nat.gcd t'.natAbs b'.natAbs = 1
        · rw [if_pos d] at h
          cases h
          exact ⟨a1, a2, d.2.1, b2, d.2.2⟩
        · rw [if_neg d] at h
          cases h
def numsO (x : Str) : Option (List Int) := allO ((Txt.split x ⟨#[32]⟩).map numO)
theorem nums_nil : numsO Str.empty = none := by
  unfold numsO
  rw [split_no (by decide) (show 32 ∉ tl Str.empty from List.not_mem_nil), List.map_cons, numO_nil] <;> rfl
theorem nums_ok {x : Str} {l : List Int} (h : numsO x = some l) : (∀ i ∈ l, 0 ≤ i ∧ i < 10 ^ 12) ∧ l.length = (Txt.split x ⟨#[32]⟩).length := by
  have z := allO_some h
  refine ⟨fun i hi => ?_, by have y := congrArg List.length z; rw [List.length_map, List.length_map] at y; exact y.symm⟩
  have : some i ∈ (Txt.split x ⟨#[32]⟩).map numO := by rw [z]; exact List.mem_map.mpr ⟨i, hi, rfl⟩
  obtain ⟨w, _, hw⟩ := List.mem_map.mp this
  exact numO_nn hw
/-- ": " -/
abbrev cs : Str := ⟨#[58, 32]⟩
def moveO (x : Str) : Option ((Int × Int) × List Int) := match fracO (Txt.partition x cs).1, numsO (Txt.partition x cs).2.2 with
  | some f, some l => some (f, l)
  | _, _ => none
def lineL (x : Str) : Option ((Int × Int) × List Int) := match Txt.split x ⟨#[32]⟩ with
  | w :: v :: r => if (tl w).getLast? = some 58 then (match fracO ⟨(tl w).dropLast.toArray⟩, allO ((v :: r).map numO) with
    | some f, some l => some (f, l)
    | _, _ => none) else none
  | _ => none
theorem pre2 {l : List Nat} (h : pre [58, 32] l = true) : ∃ r, l = 58 :: 32 :: r := by
  have e : l.take 2 = [58, 32] := eq_of_beq h
  match l, e with
  | c :: d :: r, e =>
    have e : [c, d] = [58, 32] := e
    injection e with e1 e
    injection e with e2 e
    exact ⟨r, by rw [e1, e2]⟩
theorem line_eq (x : Str) : lineL x = moveO x := by
  unfold lineL moveO
  have hy : tl cs = [58, 32] := rfl
  have pp := partition_par x cs (by rw [hy]; simp)
  rw [hy] at pp
  by_cases m : 32 ∈ tl x
  · obtain ⟨a, b, e1, e2⟩ := first_of m
    rw [split_at (by decide) e1 e2]
    cases hs : Txt.split (⟨b.toArray⟩ : Str) ⟨#[32]⟩ with
    | nil => exact absurd hs (split_ne (by decide))
    | cons v r =>
      by_cases hl : a.getLast? = some 58
      · obtain ⟨a', ha⟩ := List.getLast?_eq_some_iff.mp hl
        have no : ∀ i, i < a'.length → pre [58, 32] ((a' ++ ([58, 32] ++ b)).drop i) = false := fun i hi => by
          cases hp : pre [58, 32] ((a' ++ ([58, 32] ++ b)).drop i) with
          | false => rfl
          | true =>
            obtain ⟨q, hq⟩ := pre2 hp
            have z : (a' ++ ([58, 32] ++ b))[i + 1]? = some 32 := by
              have : ((a' ++ ([58, 32] ++ b)).drop i)[1]? = some 32 := by rw [hq] <;> rfl
              rw [List.getElem?_drop] at this
              exact this
            have z2 : a[i + 1]? = some 32 := by
              have e : a' ++ ([58, 32] ++ b) = a ++ (32 :: b) := by rw [ha, List.append_assoc] <;> rfl
              rw [e, List.getElem?_append_left (by rw [ha, List.length_append]; simp; omega)] at z
              exact z
            exact absurd (List.mem_of_getElem? z2) e2
        have e3 : tl x = a' ++ ([58, 32] ++ b) := by rw [e1, ha, List.append_assoc] <;> rfl
        rw [e3, par_part (by simp) no, List.nil_append] at pp
        rw [pp]
        have hl2 : (tl (⟨a.toArray⟩ : Str)).getLast? = some 58 := hl
        simp only
        rw [if_pos hl2]
        have dl : (tl (⟨a.toArray⟩ : Str)).dropLast = a' := by
          show a.dropLast = a'
          rw [ha, List.dropLast_concat]
        rw [dl]
        unfold numsO
        rw [hs]
      · have hl2 : ¬ (tl (⟨a.toArray⟩ : Str)).getLast? = some 58 := hl
        simp only
        rw [if_neg hl2]
        have bad : fracO (Txt.partition x cs).1 = none ∨ numsO (Txt.partition x cs).2.2 = none := by
          rw [pp]
          cases hp : par [58, 32] [] (tl x) with
          | none => exact .inr nums_nil
          | some q =>
            obtain ⟨u, z⟩ := q
            refine .inl (frac_sp ?_)
            show 32 ∈ u
            -- u is ahead of the first mark
            have key : ∀ (l acc u z : List Nat), par [58, 32] acc l = some (u, z) → ∃ p, u = acc ++ p ∧ l = p ++ 58 :: 32 :: z := fun l => by
              induction l with
              | nil => intro acc u z h; cases h
              | cons c l ih =>
                intro acc u z h
                cases hc : pre [58, 32] (c :: l) with
                | true =>
                  obtain ⟨q, hq⟩ := pre2 hc
                  rw [par_hit hc, hq] at h
                  cases h
                  exact ⟨[], (List.append_nil _).symm, hq⟩
                | false =>
                  rw [par_miss hc] at h
                  obtain ⟨p, h1, h2⟩ := ih _ _ _ h
                  exact ⟨c :: p, by rw [h1, List.append_assoc] <;> rfl, by rw [h2] <;> rfl⟩
            obtain ⟨p, h1, h2⟩ := key _ _ _ _ hp
            rw [List.nil_append] at h1
            subst h1
            -- the first blank stands in it
            by_cases hm : 32 ∈ u
            · exact hm
            · exfalso
              rw [e1] at h2
              have la : a = u ++ [58] := by
                have n2 : 32 ∉ u ++ [58] := fun z => by
                  rcases List.mem_append.mp z with z | z
                  · exact hm z
                  · simp at z
                have uq : ∀ (p q r s : List Nat), 32 ∉ p → 32 ∉ q → p ++ 32 :: r = q ++ 32 :: s → p = q := fun p => by
                  induction p with
                  | nil =>
                    intro q r s _ hq h
                    cases q with
                    | nil => rfl
                    | cons d q =>
                      injection h with h _
                      exact absurd (h ▸ List.mem_cons_self) hq
                  | cons c p ih =>
                    intro q r s hp hq h
                    cases q with
                    | nil =>
                      injection h with h _
                      exact absurd (h ▸ List.mem_cons_self) hp
                    | cons d q =>
                      injection h with h1 h2
                      rw [h1, ih q r s (fun z => hp (List.mem_cons_of_mem _ z)) (fun z => hq (List.mem_cons_of_mem _ z)) h2]
                refine uq a (u ++ [58]) b z e2 n2 ?_
                rw [h2, List.append_assoc] <;> rfl
              exact hl (by rw [la]; simp)
        rcases bad with bad | bad
        · rw [bad]
        · rw [bad]
          cases fracO (Txt.partition x cs).1 <;> rfl
  · rw [split_no (by decide) m]
    have no : par [58, 32] [] (tl x) = none := by
      refine par_none fun i hi => ?_
      cases hp : pre [58, 32] ((tl x).drop i) with
      | false => rfl
      | true =>
        obtain ⟨q, hq⟩ := pre2 hp
        have : 32 ∈ (tl x).drop i := by rw [hq]; simp
        exact absurd (List.mem_of_mem_drop this) m
    rw [no] at pp
    rw [pp]
    simp only
    rw [nums_nil]
    cases fracO x <;> rfl
end L2
namespace L2
open PySem PySem.Spec PyProof.Rows TL
abbrev Mv3 := (Int × Int) × List Int
/-- the place of the first one that is missing -/
def firstNo {α : Type} : List (Option α) → Option Nat
  | [] => none
  | none :: _ => some 0
  | some _ :: r => (firstNo r).map (· + 1)
theorem firstNo_none {α : Type} : ∀ {l : List (Option α)}, firstNo l = none → l = (l.filterMap id).map some
  | [], _ => rfl
  | none :: _, h => by cases h
  | some a :: r, h => by
    have z := firstNo_none (Option.map_eq_none_iff.mp (show (firstNo r).map (· + 1) = none from h))
    show some a :: r = some a :: (r.filterMap id).map some
    rw [← z]
theorem firstNo_at {α : Type} : ∀ {l : List (Option α)} {i : Nat}, firstNo l = some i → l[i]? = some none ∧ ∀ j, j < i → ∃ a, l[j]? = some (some a)
  | [], _, h => by cases h
  | none :: _, _, h => by
    cases h
    exact ⟨rfl, fun j hj => absurd hj (Nat.not_lt_zero _)⟩
  | some a :: r, i, h => by
    obtain ⟨k, h1, h2⟩ := Option.map_eq_some_iff.mp (show (firstNo r).map (· + 1) = some i from h)
    subst h2
    obtain ⟨a1, a2⟩ := firstNo_at h1
    refine ⟨a1, fun j hj => ?_⟩
    cases j with
    | zero => exact ⟨a, rfl⟩
    | succ j => exact a2 j (by omega)
theorem firstNo_of {α : Type} : ∀ {l : List (Option α)} {i : Nat}, l[i]? = some none → (∀ j, j < i → ∃ a, l[j]? = some (some a)) → firstNo l = some i
  | [], i, h, _ => by simp at h
  | none :: r, 0, _, _ => rfl
  | none :: r, i + 1, _, h => by
    obtain ⟨a, ha⟩ := h 0 (Nat.succ_pos _)
    cases ha
  | some a :: r, 0, h, _ => by cases h
  | some a :: r, i + 1, h, g => by
    have ih := firstNo_of (l := r) (i := i) h fun j hj => g (j + 1) (by omega)
    show (firstNo r).map (· + 1) = _
    rw [ih] <;> rfl
theorem firstNo_all {α : Type} : ∀ {l : List (Option α)}, (∀ (j : Nat) (o : Option α), l[j]? = some o → ∃ a, o = some a) → firstNo l = none
  | [], _ => rfl
  | none :: r, h => by
    obtain ⟨a, ha⟩ := h 0 none rfl
    cases ha
  | some a :: r, h => by
    show (firstNo r).map (· + 1) = none
    rw [firstNo_all fun j o hj => h (j + 1) o hj] <;> rfl
/-- a part of a System that is wrong -/
abbrev Part := Sum Str Nat
def mvB (many : Int) (m : Mv3) : Bool := decide (0 < m.1.1) && (m.2.all (fun s => decide (s < many)) && decide ((m.2.length : Int) = many))
def badMv (many : Int) (ms : List Mv3) : Option Nat := firstNo (ms.map fun m => if mvB many m = true then some m else none)
def wrongF (one : List (Int × Int) → Bool) (many : Int) (ms : List Mv3) : Option Part :=
  if ¬ (1 ≤ many ∧ many ≤ 12) then some (.inl "many") else if ¬ (1 ≤ ms.length ∧ ms.length ≤ 24) then some (.inl "moves") else
  match badMv many ms with
  | some i => some (.inr i)
  | none => if one (ms.map (·.1)) = true then none else some (.inl "shares")
inductive Out
  | line (n : Nat)
  | part (p : Part)
  | told (many : Int) (ms : List Mv3)
def madeF (one : List (Int × Int) → Bool) (many : Int) (ms : List Mv3) : Out := match wrongF one many ms with
  | some p => .part p
  | none => .told many ms
/-- what is read of the lines, the last one behind the last line feed -/
def readF (one : List (Int × Int) → Bool) (ls : List Str) : Out := match ls.dropLast with
  | [] => .line 1
  | h :: r => match headO h with
    | none => .line 1
    | some many => match firstNo (r.map moveO) with
      | some i => .line (i + 2)
      | none => if ls.getLast? = some Str.empty then madeF one many ((r.map moveO).filterMap id) else .line ls.length
/-! ### the text of a system -/
def fracT (f : Int × Int) : List Nat := numL f.1.toNat ++ (if f.2 = 1 then [] else 47 :: numL f.2.toNat)
def moveT (m : Mv3) : List Nat := fracT m.1 ++ [58, 32] ++ joinL [32] (m.2.map fun s => numL s.toNat)
def headT (many : Int) : List Nat := [115, 116, 97, 116, 101, 115, 32] ++ numL many.toNat
def textT (many : Int) (ms : List Mv3) : List Nat := headT many ++ [10] ++ (ms.map fun m => moveT m ++ [10]).flatten
theorem tl_states : tl ("states" : Str) = [115, 116, 97, 116, 101, 115] := by decide +kernel
theorem head_back {many : Int} (h0 : 0 ≤ many) (h1 : many < 10 ^ 12) : headO ⟨(headT many).toArray⟩ = some many := by
  have e : tl (⟨(headT many).toArray⟩ : Str) = [115, 116, 97, 116, 101, 115] ++ 32 :: numL many.toNat := by
    show headT many = _
    unfold headT
    rfl
  unfold headO
  rw [part_at e (by decide)]
  simp only
  rw [if_pos (ext_tl (by rw [tl_states]))]
  rw [numO_num (w := ⟨(numL many.toNat).toArray⟩) (k := many.toNat) rfl (by omega)]
  exact congrArg some (by omega)
theorem frac_back {f : Int × Int} (h0 : 0 ≤ f.1) (h1 : f.1 < 10 ^ 12) (h2 : 0 < f.2) (h3 : f.2 < 10 ^ 12) (h4 : Nat.gcd f.1.natAbs f.2.natAbs = 1) : fracO ⟨(fracT f).toArray⟩ = some f := by
  obtain ⟨t, b⟩ := f
  unfold fracO
  by_cases e : b = 1
  · have el : tl (⟨(fracT (t, b)).toArray⟩ : Str) = numL t.toNat := by
      show fracT (t, b) = _
      unfold fracT
      rw [if_pos e, List.append_nil]
    have no : 47 ∉ tl (⟨(fracT (t, b)).toArray⟩ : Str) := by rw [el]; exact numL_free (.inl (by decide))
    rw [part_no no]
    simp only
    rw [if_pos trivial, numO_num el (by have : t < 10 ^ 12 := h1; have : 0 ≤ t := h0; omega), e]
    exact congrArg some (by have : 0 ≤ t := h0; show (((t.toNat : Nat) : Int), (1 : Int)) = _; rw [show ((t.toNat : Nat) : Int) = t by omega])
  · have el : tl (⟨(fracT (t, b)).toArray⟩ : Str) = numL t.toNat ++ 47 :: numL b.toNat := by
      show fracT (t, b) = _
      unfold fracT
      rw [if_neg e]
    rw [part_at el (numL_free (.inl (by decide)))]
    simp only
    have p1 : 0 ≤ t := h0
    have p2 : t < 10 ^ 12 := h1
    have p3 : 0 < b := h2
    have p4 : b < 10 ^ 12 := h3
    rw [if_neg sl_ne, numO_num (w := ⟨(numL t.toNat).toArray⟩) (k := t.toNat) rfl (by omega), numO_num (w := ⟨(numL b.toNat).toArray⟩) (k := b.toNat) rfl (by omega), show ((t.toNat : Nat) : Int) = t by omega, show ((b.toNat : Nat) : Int) = b by omega]
    show (if _ then _ else _) = _
    rw [if_pos ⟨e, p3, h4⟩]
theorem nums_back {l : List Int} (hn : l ≠ []) (h : ∀ i ∈ l, 0 ≤ i ∧ i < 10 ^ 12) : numsO ⟨(joinL [32] (l.map fun s => numL s.toNat)).toArray⟩ = some l := by
  unfold numsO
  have e : (Txt.split (⟨(joinL [32] (l.map fun s => numL s.toNat)).toArray⟩ : Str) ⟨#[32]⟩).map tl = l.map fun s => numL s.toNat := by
    have hy : tl (⟨#[32]⟩ : Str) = [32] := rfl
    rw [split_spl _ _ (by rw [hy]; simp) (kind_ok (by simp)), hy]
    show spl [32] 0 [] (joinL [32] (l.map fun s => numL s.toNat)) = _
    refine spl_join (by simpa using hn) fun p hp => ?_
    obtain ⟨i, _, rfl⟩ := List.mem_map.mp hp
    exact numL_free (.inl (by decide))
  generalize Txt.split (⟨(joinL [32] (l.map fun s => numL s.toNat)).toArray⟩ : Str) ⟨#[32]⟩ = ws at e
  have key : ∀ (ws : List Str) (l : List Int), (∀ i ∈ l, 0 ≤ i ∧ i < 10 ^ 12) → ws.map tl = (l.map fun s => numL s.toNat) → ws.map numO = l.map some := fun ws => by
    induction ws with
    | nil =>
      intro l _ h
      cases l with
      | nil => rfl
      | cons a l => simp at h
    | cons w ws ih =>
      intro l hl h
      cases l with
      | nil => simp at h
      | cons a l =>
        rw [List.map_cons, List.map_cons] at h
        injection h with h1 h2
        obtain ⟨a0, a1⟩ := hl a List.mem_cons_self
        rw [List.map_cons, List.map_cons, ih l (fun i hi => hl i (List.mem_cons_of_mem _ hi)) h2, numO_num h1 (by omega), show ((a.toNat : Nat) : Int) = a by omega]
  rw [key ws l h e, allO_map]
def MvSm (m : Mv3) : Prop := 0 ≤ m.1.1 ∧ m.1.1 < 10 ^ 12 ∧ 0 < m.1.2 ∧ m.1.2 < 10 ^ 12 ∧ Nat.gcd m.1.1.natAbs m.1.2.natAbs = 1 ∧ ∀ i ∈ m.2, 0 ≤ i ∧ i < 10 ^ 12
theorem fracT_free {f : Int × Int} {c : Nat} (h : c < 47 ∨ 57 < c) : c ∉ fracT f := fun m => by
  unfold fracT at m
  rcases List.mem_append.mp m with m | m
  · exact numL_free (by omega) m
  · by_cases e : f.2 = 1
    · rw [if_pos e] at m
      cases m
    · rw [if_neg e] at m
      rcases List.mem_cons.mp m with m | m
      · omega
      · exact numL_free (by omega) m
theorem join_free {c : Nat} : ∀ (l : List Int), (c ≠ 32) → (c < 48 ∨ 57 < c) → c ∉ joinL [32] (l.map fun s => numL s.toNat)
  | [], _, _ => List.not_mem_nil
  | [a], _, h => numL_free h
  | a :: b :: l, n, h => fun m => by
    rcases List.mem_append.mp (show c ∈ numL a.toNat ++ ([32] ++ joinL [32] ((b :: l).map fun s => numL s.toNat)) from m) with m | m
    · exact numL_free h m
    · rcases List.mem_append.mp m with m | m
      · simp at m
        exact n m
      · exact join_free (b :: l) n h m
theorem move_back {m : Mv3} (h : MvSm m) (hn : m.2 ≠ []) : moveO ⟨(moveT m).toArray⟩ = some m := by
  obtain ⟨h1, h2, h3, h4, h5, h6⟩ := h
  unfold moveO
  have hy : tl cs = [58, 32] := rfl
  have pp := partition_par (⟨(moveT m).toArray⟩ : Str) cs (by rw [hy]; simp)
  have e : tl (⟨(moveT m).toArray⟩ : Str) = fracT m.1 ++ ([58, 32] ++ joinL [32] (m.2.map fun s => numL s.toNat)) := by
    show moveT m = _
    unfold moveT
    rw [List.append_assoc]
  rw [hy, e, par_part1 (fracT_free (.inr (by decide))), List.nil_append] at pp
  rw [pp]
  simp only
  rw [frac_back h1 h2 h3 h4 h5, nums_back hn h6]
theorem text_lines {many : Int} {ms : List Mv3} {x : Str} (h : tl x = textT many ms) : Txt.split x ⟨#[10]⟩ = (⟨(headT many).toArray⟩ : Str) :: ((ms.map fun m => (⟨(moveT m).toArray⟩ : Str)) ++ [Str.empty]) := by
  have hy : tl (⟨#[10]⟩ : Str) = [10] := rfl
  refine map_tl_inj ?_
  rw [split_spl x _ (by rw [hy]; simp) (kind_ok (by simp)), hy, h]
  unfold textT
  have f1 : 10 ∉ headT many := fun m => by
    rcases List.mem_append.mp m with m | m
    · revert m; decide
    · exact numL_free (.inl (by decide)) m
  rw [List.append_assoc, spl_part1 f1, List.nil_append, List.map_cons]
  congr 1
  clear h
  induction ms with
  | nil => rfl
  | cons m ms ih =>
    have f2 : 10 ∉ moveT m := fun z => by
      unfold moveT at z
      rcases List.mem_append.mp z with z | z
      · rcases List.mem_append.mp z with z | z
        · exact fracT_free (.inl (by decide)) z
        · revert z; decide
      · exact join_free m.2 (by decide) (.inl (by decide)) z
    rw [List.map_cons, List.flatten_cons, List.append_assoc, spl_part1 f2, List.nil_append, ih] <;> rfl
theorem firstNo_somes {α : Type} : ∀ l : List α, firstNo (l.map some) = none
  | [] => rfl
  | a :: l => by
    show (firstNo (l.map some)).map (· + 1) = none
    rw [firstNo_somes l] <;> rfl
theorem read_back {one : List (Int × Int) → Bool} {many : Int} {ms : List Mv3} {x : Str} (h : tl x = textT many ms) (m0 : 0 ≤ many) (m1 : many < 10 ^ 12) (hm : ∀ m ∈ ms, MvSm m ∧ m.2 ≠ []) : readF one (Txt.split x ⟨#[10]⟩) = madeF one many ms := by
  rw [text_lines h]
  unfold readF
  have e : ((⟨(headT many).toArray⟩ : Str) :: ((ms.map fun m => (⟨(moveT m).toArray⟩ : Str)) ++ [Str.empty])).dropLast = (⟨(headT many).toArray⟩ : Str) :: (ms.map fun m => (⟨(moveT m).toArray⟩ : Str)) := by
    rw [← List.cons_append, List.dropLast_concat]
  have l : ((⟨(headT many).toArray⟩ : Str) :: ((ms.map fun m => (⟨(moveT m).toArray⟩ : Str)) ++ [Str.empty])).getLast? = some Str.empty := by
    rw [← List.cons_append, List.getLast?_concat]
  rw [e]
  simp only
  rw [head_back m0 m1]
  simp only
  have z : (ms.map fun m => (⟨(moveT m).toArray⟩ : Str)).map moveO = ms.map some := by
    rw [List.map_map]
    exact List.map_congr_left fun m hmm => move_back (hm m hmm).1 (hm m hmm).2
  rw [z, firstNo_somes]
  simp only
  rw [if_pos l]
  congr 1
  induction ms with
  | nil => rfl
  | cons m ms ih => simp
end L2
namespace L2
open PySem PySem.Spec PyProof.Rows TL
@[elab_as_elim] theorem new_step {H : Hp} {a : Addr} {o : HO} {Q : Hp → Prop} (h : H a = none) (k : ∀ G, Same H G → G a = some o → Q G) : Q (upd H a o) := k _ (Same.new h) upd_same
theorem logn {n : Int} (h : n.natAbs < 2 ^ 1000) : n.natAbs.log2 < 1920 := by
  by_cases z : n.natAbs = 0
  · rw [z]
    decide
  · have := (Nat.log2_lt z (k := 1000)).mpr h
    omega
theorem natsum_le {c : Nat} : ∀ (l : List Nat), (∀ x ∈ l, x ≤ c) → l.sum ≤ l.length * c
  | [], _ => Nat.zero_le _
  | x :: l, h => by
    have := natsum_le l fun y hy => h y (List.mem_cons_of_mem _ hy)
    have := h x List.mem_cons_self
    rw [List.sum_cons, List.length_cons, Nat.add_mul, Nat.one_mul]
    omega
theorem len_joinL : ∀ (ps : List (List Nat)) (c : Nat), (∀ p ∈ ps, p.length ≤ c) → (joinL [32] ps).length ≤ ps.length * (c + 1)
  | [], _, _ => Nat.zero_le _
  | [p], c, h => by
    have := h p List.mem_cons_self
    show p.length ≤ 1 * (c + 1)
    omega
  | p :: q :: r, c, h => by
    have i := len_joinL (q :: r) c fun x hx => h x (List.mem_cons_of_mem _ hx)
    have := h p List.mem_cons_self
    show (p ++ ([32] ++ joinL [32] (q :: r))).length ≤ _
    rw [List.length_append, List.length_append, List.length_cons (a := p), Nat.add_mul (q :: r).length 1, Nat.one_mul]
    show p.length + (1 + _) ≤ _
    omega
def optV : Option Int → V
  | some i => .int i
  | none => .non
theorem numV_opt (w : Str) : numV w = optV (numO w) := by unfold numV optV; cases numO w <;> rfl
theorem inV_opts : ∀ l : List (Option Int), inV V.non (l.map optV) = decide (none ∈ l)
  | [] => rfl
  | o :: l => by
    unfold inV
    rw [List.map_cons, List.any_cons]
    have ih := inV_opts l
    unfold inV at ih
    rw [ih]
    cases o with
    | none =>
      show (true || _) = _
      rw [Bool.true_or, decide_eq_true (List.mem_cons_self)]
    | some i =>
      show (false || _) = _
      rw [Bool.false_or]
      refine decide_eq_decide.mpr ⟨fun h => List.mem_cons_of_mem _ h, fun h => ?_⟩
      rcases List.mem_cons.mp h with h | h
      · cases h
      · exact h
theorem flat_opts : ∀ l : List (Option Int), (l.map optV).all flatV = true
  | [] => rfl
  | o :: l => by
    rw [List.map_cons, List.all_cons, flat_opts l]
    cases o <;> rfl
theorem one_sp : tl (" " : Str) = [32] := by decide +kernel
theorem one_nl : tl ("\n" : Str) = [10] := by decide +kernel
theorem nl_is : ("\n" : Str) = (⟨#[10]⟩ : Str) := ext_tl one_nl
theorem sp_is : (" " : Str) = (⟨#[32]⟩ : Str) := ext_tl one_sp
theorem sl_is : ("/" : Str) = (⟨#[47]⟩ : Str) := ext_tl (by decide +kernel)
theorem cs_is : (": " : Str) = cs := ext_tl (by decide +kernel)
theorem e_emp : ("" : Str) = Str.empty := ext_tl (by decide +kernel)
theorem tl_str {c : Int} (h : 0 ≤ c) : tl (Str.ofString (toString c)) = numL c.toNat := by
  obtain ⟨k, rfl⟩ := Int.eq_ofNat_of_zero_le h
  exact tl_num k
theorem part_len (x y : Str) (hy : tl y ≠ []) : (Txt.partition x y).1.length ≤ x.length ∧ (Txt.partition x y).2.2.length ≤ x.length := by
  have pp := partition_par x y hy
  cases h : par (tl y) [] (tl x) with
  | none =>
    rw [h] at pp
    rw [pp]
    exact ⟨Nat.le_refl _, Nat.zero_le _⟩
  | some q =>
    obtain ⟨u, z⟩ := q
    rw [h] at pp
    rw [pp]
    have key : ∀ (l acc u z : List Nat), par (tl y) acc l = some (u, z) → u.length ≤ acc.length + l.length ∧ z.length ≤ l.length := fun l => by
      induction l with
      | nil => intro acc u z h; cases h
      | cons c l ih =>
        intro acc u z h
        cases hc : pre (tl y) (c :: l) with
        | true =>
          rw [par_hit hc] at h
          cases h
          exact ⟨by omega, by rw [List.length_drop]; omega⟩
        | false =>
          rw [par_miss hc] at h
          obtain ⟨h1, h2⟩ := ih _ _ _ h
          rw [List.length_append] at h1
          simp at h1
          rw [List.length_cons]
          omega
    obtain ⟨h1, h2⟩ := key _ _ _ _ h
    rw [len_tl x]
    rw [List.length_nil, Nat.zero_add] at h1
    exact ⟨h1, h2⟩
end L2
namespace Law
open PySem L2 TL
theorem dec_str (x y : Str) : decide (V.str x = V.str y) = decide (x = y) := by
  by_cases h : x = y
  · rw [h, decide_eq_true rfl, decide_eq_true rfl]
  · rw [decide_eq_false h]
    exact decide_eq_false fun e => h (V.str.inj e)
section
variable {P : Program} {w : World} {K : PySem.W.Frag} {mg : Str → Option Value} {base : Heap}
def spNum : Sp := fun vs H Q _ => ∃ (x : Str), vs = [.str x] ∧ x.length ≤ 16000000 ∧ Q (numV x) H
abbrev nNumberOfText : List Str := ["text"]
theorem scNumberOfText : FnScope nNumberOfText ["text"] (defScope s_number_of_text) := ⟨rfl, rfl, rfl, by decide +kernel, rfl, by decide +kernel, by decide +kernel⟩
theorem ok_number_of_text {f : Addr} {fd : FuncData} (F : Fun K "number_of_text" "number_of_text" s_number_of_text f fd) (T : NmA mg) : FnOk P w K mg base CX0 1 f fd ["text"] spNum := by
  refine F.ok scNumberOfText (fun vs H Q E h => ?_) (fun cdv A' outer s H vs Q E hr h => ?_)
  · obtain ⟨x, rfl, _⟩ := h
    rfl
  · obtain ⟨x, rfl, hl, k⟩ := h
    refine ⟨_, pss_cons (ps_if (PW.pt (pw_or (pt_not (pt_val (pe_m0 PySem.F.slot_str_isascii PySem.F.type_str_isascii mt_isascii (pv 0)))) (pw_or (pt_not (pt_val (pe_m0 PySem.F.slot_str_isdigit PySem.F.type_str_isdigit mt_isdigit (pv 0)))) (pw_or1 (pt_cmpR op_gt (pe_callB call_len_str (by rfl) T.len PySem.boot_len (pa_cons (pv 0) pa_nil)) pe_int (nomark _))))))
        (pss_one (ps_ret pe_non)) pss_nil)
      (pss_cons (ps_if (PW.pt (pw_and (pt_val (pe_m1 PySem.F.slot_str_startswith PySem.F.type_str_startswith mt_startswith (pv 0) pe_str)) (pw_and1 (pt_cmpR op_ne (pv 0) pe_str (nomark _)))))
        (pss_one (ps_ret pe_non)) pss_nil)
      (pss_one (ps_ret (pe_callTy call_int_str (by rfl) T.int (by decide +kernel) (pa_cons (pv 0) pa_nil))))), ?_⟩
    have z : x.length ≤ sizeLine := by rw [sizeLine_eq]; omega
    unfold numV numO at k
    refine ⟨_, rfl, ⟨_, rfl⟩, x, rfl, rfl, trivial, ?_⟩
    refine ⟨_, rfl, ?_⟩
    cases ha : Txt.isascii x with
    | false =>
      rw [ha] at k
      exact iteT k
    | true =>
      refine iteF ⟨_, rfl, ⟨_, rfl⟩, x, rfl, rfl, trivial, _, rfl, ?_⟩
      cases hd : Txt.isdigit x with
      | false =>
        rw [ha, hd] at k
        exact iteT k
      | true =>
        rw [ha, hd] at k
        change Q (match (if decide ((12 : Int) < ((x.length : Nat) : Int)) = true then none else _) with | some i => .int i | none => .non) H at k
        refine iteF ⟨_, rfl, x, rfl, z, _, _, rfl, rfl, _, rfl, ite2 (fun h12 => ?_) (fun h12 => ?_)⟩
        · rw [if_pos h12] at k
          exact k
        · rw [if_neg h12] at k
          refine ⟨_, rfl, ⟨_, rfl⟩, x, _, rfl, rfl, _, rfl, ?_⟩
          have fin : (Txt.startswith x "0" && !decide (x = "0")) = false → ∃ a n, [V.str x] = [.str a] ∧ PySem.intText? a = some n ∧ a.length ≤ 640 ∧ Q (.int n) H := fun e => by
            rw [e] at k
            have as := (asc_iff x).mp ha
            obtain ⟨d1, d2⟩ := (dig_iff as).mp hd
            have l12 : ¬ (12 : Int) < ((x.length : Nat) : Int) := fun q => h12 (decide_eq_true q)
            exact ⟨x, _, rfl, intText_digits d2 d1 (by omega), by omega, k⟩
          cases hs : Txt.startswith x "0" with
          | false => exact iteF ⟨_, rfl, fin (by rw [hs] <;> rfl)⟩
          | true =>
            refine iteT ⟨_, rfl, rfl, _, rfl, ?_⟩
            rw [dec_str]
            cases hz : decide (x = ("0" : Str)) with
            | true => exact iteF ⟨_, rfl, fin (by rw [hs, hz] <;> rfl)⟩
            | false =>
              rw [hs, hz] at k
              exact iteT k
def spNumT : Sp := fun vs H Q _ => ∃ (n : Int), vs = [.int n] ∧ 0 ≤ n ∧ n < 10 ^ 12 ∧ ∀ H', Same H H' → Q (.str (Str.ofString (toString n))) H'
abbrev nNumberText : List Str := ["number", "block", "parts", "rest"]
theorem scNumberText : FnScope nNumberText ["number"] (defScope s_number_text) := ⟨rfl, rfl, rfl, by decide +kernel, rfl, by decide +kernel, by decide +kernel⟩
theorem ok_number_text {f : Addr} {fd : FuncData} (F : Fun K "number_text" "number_text" s_number_text f fd) (T : NmA mg) : FnOk P w K mg base CX0 1 f fd ["number"] spNumT := by
  refine F.ok scNumberText (fun vs H Q E h => ?_) (fun cdv A' outer s H vs Q E hr h => ?_)
  · obtain ⟨n, rfl, _⟩ := h
    rfl
  · obtain ⟨n, rfl, n0, n1, k⟩ := h
    have hu := hu_of hr
    refine ⟨_, pss_cons (ps_set (i := 1) scNumberText.nd rfl (Or.inl rfl) (pe_op op_pow pe_int pe_int))
      (pss_cons (ps_set (i := 2) scNumberText.nd rfl (Or.inl rfl) (pe_lst pa_nil))
      (pss_cons (ps_while PassesOwn.never (pt_cmpR op_ge (pv 0) (pv 1) (nomark _))
        pss_never)
      (pss_cons (ps_expr (pe_bm PySem.F.plainAttrs_list PySem.F.slot_list_append PySem.F.type_list_append mt_append (pv 2) (pa_cons (pe_callTy call_str_int (by rfl) T.str (by decide +kernel) (pa_cons (pv 0) pa_nil)) pa_nil)))
      (pss_one (ps_ret (pe_joinRev rfl pe_str (by rfl) T.reversed (pv 2))))))), ?_⟩
    refine ⟨_, _, rfl, rfl, ⟨by decide, by decide, by decide⟩, by show 0 ≤ sizeLine; decide, fun L hL => ?_⟩
    refine ⟨fun _ σ' H' => σ' = [some (.int n), some (.int (10 ^ 60)), some (.ref L), none] ∧ H' = upd H L (.lst []), ⟨0, rfl, rfl⟩, ?_⟩
    rintro m σ' H' ⟨rfl, rfl⟩
    refine ⟨_, rfl, _, rfl, _, _, rfl, rfl, _, rfl, ?_⟩
    rw [decide_eq_false (show ¬ (n ≥ 10 ^ 60) by have : (10 : Int) ^ 12 ≤ 10 ^ 60 := by decide
                                                 omega)]
    refine iteF ⟨_, rfl, .inl ⟨rfl, _, SqL.of upd_same⟩, _, rfl, n, rfl, logn ?_, L, _, _, rfl, rfl, upd_same, by show 0 < sizeLine; decide, ?_⟩
    · have : (10 : Nat) ^ 12 < 2 ^ 1000 := by decide
      have : n.natAbs < 10 ^ 12 := by omega
      omega
    rw [upd_upd]
    have sz : (Str.ofString (toString n)).length ≤ 12 := by
      rw [len_tl, tl_str n0]
      exact numL_len (by decide) (by omega)
    refine ⟨⟨_, rfl⟩, _, rfl, _, L, [Str.ofString (toString n)], rfl, rfl, SqL.of upd_same, ?_, ?_⟩
    · have e0 : ("" : Str).length = 0 := by decide +kernel
      rw [e0, List.map_cons, List.map_nil, List.sum_cons, List.sum_nil]
      omega
    · refine k _ (Same.new hL)
def spHeadB : Sp := fun vs H Q _ => ∃ (x : Str), vs = [.str "states", .str x] ∧ x.length ≤ 16000000 ∧ ∀ H', Same H H' → Q (optV (headO x)) H'
abbrev nNumberBehind : List Str := ["word", "line", "begun", "_", "rest"]
theorem scNumberBehind : FnScope nNumberBehind ["word", "line"] (defScope s_number_behind) := ⟨rfl, rfl, rfl, by decide +kernel, rfl, by decide +kernel, by decide +kernel⟩
theorem ok_number_behind {f : Addr} {fd : FuncData} {fcNum : Addr} {fdcNum : FuncData} (F : Fun K "number_behind" "number_behind" s_number_behind f fd) (T : NmA mg) (cNum : Cl P w K mg base CX0 1 "number_of_text" fcNum fdcNum ["text"] spNum) : FnOk P w K mg base CX0 2 f fd ["word", "line"] spHeadB := by
  refine F.ok scNumberBehind (fun vs H Q E h => ?_) (fun cdv A' outer s H vs Q E hr h => ?_)
  · obtain ⟨x, rfl, _⟩ := h
    rfl
  · obtain ⟨x, rfl, xl, k⟩ := h
    have hu := hu_of hr
    refine ⟨_, pss_cons (ps_asg (pe_m1 PySem.F.slot_str_partition PySem.F.type_str_partition mt_partition (pv 1) pe_str) (pg_tup (by rfl) (pgs_cons (pg_name (i := 2) scNumberBehind.nd rfl (Or.inl rfl)) (pgs_cons (pg_name (i := 3) scNumberBehind.nd rfl (Or.inl rfl)) (pgs_cons (pg_name (i := 4) scNumberBehind.nd rfl (Or.inl rfl)) pgs_nil)))))
      (pss_one (ps_ret (pe_ifExp (pt_cmpR op_eq (pv 2) (pv 0) (nomark _)) (cNum.call (hr.mono (by decide)) (pa_cons (pv 4) pa_nil)) pe_non))), ?_⟩
    have z : x.length ≤ sizeLine := by rw [sizeLine_eq]; omega
    obtain ⟨l1, l2⟩ := part_len x (" " : Str) (by rw [one_sp]; simp)
    refine ⟨_, rfl, ⟨_, rfl⟩, x, _, rfl, rfl, by decide +kernel, z, fun p hp => ?_⟩
    refine new_step hp fun H1 s1 e1 => ?_
    refine ⟨p, _, rfl, SqT.of e1, rfl, _, _, rfl, _, _, rfl, _, _, rfl, rfl, ?_⟩
    have kk := k H1 s1
    unfold headO at kk
    rw [← sp_is] at kk
    refine ⟨_, rfl, _, rfl, rfl, _, rfl, ?_⟩
    rw [dec_str]
    by_cases e : (Txt.partition x (" " : Str)).1 = ("states" : Str)
    · rw [decide_eq_true e]
      rw [if_pos e] at kk
      exact iteT ⟨_, rfl, _, rfl, by omega, by rw [numV_opt]; exact kk⟩
    · rw [decide_eq_false e]
      rw [if_neg e] at kk
      exact iteF kk
def spNums (K : PySem.W.Frag) : Sp := fun vs H Q _ => ∃ (x : Str), vs = [.str x] ∧ x.length ≤ 16000000 ∧ (∀ H', numsO x = none → Same H H' → Q .non H') ∧ (∀ l p H', numsO x = some l → Same H H' → SqT K H' p (l.map V.int) → Q (.ref p) H')
theorem spl_bound (x : Str) : (∀ u ∈ Txt.split x (⟨#[32]⟩ : Str), u.length ≤ x.length) ∧ (Txt.split x (⟨#[32]⟩ : Str)).length ≤ x.length + 1 := by
  have hy : tl (⟨#[32]⟩ : Str) = [32] := rfl
  have e := split_spl x (⟨#[32]⟩ : Str) (by rw [hy]; simp) (kind_ok (by simp))
  rw [hy] at e
  have j : joinL [32] (spl [32] 0 [] (tl x)) = tl x := by rw [join_spl, List.nil_append]
  refine ⟨fun u hu => ?_, ?_⟩
  · have m : tl u ∈ spl [32] 0 [] (tl x) := by rw [← e]; exact List.mem_map.mpr ⟨u, hu, rfl⟩
    have := mem_joinL 32 m
    rw [j, ← len_tl, ← len_tl] at this
    exact this
  · have z := cnt_joinL 32 (spl [32] 0 [] (tl x))
    rw [j, ← len_tl, ← e, List.length_map] at z
    exact z
abbrev nNumbersOfText : List Str := ["text", "numbers", "word"]
theorem scNumbersOfText : FnScope nNumbersOfText ["text"] (defScope s_numbers_of_text) := ⟨rfl, rfl, rfl, by decide +kernel, rfl, by decide +kernel, by decide +kernel⟩
theorem ok_numbers_of_text {f : Addr} {fd : FuncData} {fcNum : Addr} {fdcNum : FuncData} (F : Fun K "numbers_of_text" "numbers_of_text" s_numbers_of_text f fd) (T : NmA mg) (cNum : Cl P w K mg base CX0 1 "number_of_text" fcNum fdcNum ["text"] spNum) : FnOk P w K mg base CX0 2 f fd ["text"] (spNums K) := by
  refine F.ok scNumbersOfText (fun vs H Q E h => ?_) (fun cdv A' outer s H vs Q E hr h => ?_)
  · obtain ⟨x, rfl, _⟩ := h
    rfl
  · obtain ⟨x, rfl, xl, k1, k2⟩ := h
    have hu := hu_of hr
    refine ⟨_, pss_cons (ps_setLc (i := 1) (own := [("word", 2)]) (g := (gName 2)) (tt := tYes) (by rfl) scNumbersOfText.nd rfl rfl (sw_true rfl rfl rfl (by decide +kernel)) (pi_list (pe_m1 PySem.F.slot_str_split PySem.F.type_str_split mt_split (pv 0) pe_str)) (blkOk_by (own := [("word", 2)]) (N := nNumbersOfText) (sc := defScope s_numbers_of_text) (by decide +kernel)) (fun _ _ _ _ _ => (pg_name (i := 2) scNumbersOfText.nd rfl (Or.inl rfl))) (fun _ _ _ _ _ => pts_nil) (fun _ _ _ _ _ => (cNum.call (hr.mono (by decide)) (pa_cons (pv 2) pa_nil))))
      (pss_one (ps_ret (pe_ifExp (pt_cmpR op_in_seq pe_non (pv 1) (by rfl)) pe_non (pe_callTy call_tuple_of (by rfl) T.tuple (by decide +kernel) (pa_cons (pv 1) pa_nil))))), ?_⟩
    have z : x.length ≤ sizeLine := by rw [sizeLine_eq]; omega
    obtain ⟨wl, cl⟩ := spl_bound x
    rw [← sp_is] at wl cl
    have hn : numsO x = allO ((Txt.split x (" " : Str)).map numO) := by rw [sp_is] <;> rfl
    refine ⟨_, rfl, ⟨_, rfl⟩, x, _, rfl, rfl, by decide +kernel, by rw [sizeLine_eq]; omega, fun p hp => ?_⟩
    refine new_step hp fun H1 s1 e1 => ?_
    generalize Txt.split x (" " : Str) = ws at wl cl e1 hn
    refine ⟨p, rfl, ⟨_, SqL.of e1⟩, fun D hD => ?_⟩
    refine lc_list (K := K) (a := p) (xs := ws.map V.str) (fun i H' => Same H1 H' ∧ H' D = some (.lst ((ws.take i).map numV))) ⟨Same.new hD, upd_same⟩ (fun i H' _ g => SqL.of (g.1 _ _ e1)) (fun i y H2 hi g => ?_) fun H2 g => ?_
    · obtain ⟨s2, g2⟩ := g
      rw [List.getElem?_map] at hi
      obtain ⟨u, hu, rfl⟩ := Option.map_eq_some_iff.mp hi
      have il := (List.getElem?_eq_some_iff.mp hu).1
      refine ⟨rfl, _, rfl, u, rfl, by have := wl u (List.mem_of_getElem? hu); omega, _, g2, ?_, s2.mut hD, ?_⟩
      · rw [List.length_map, List.length_take, sizeLine_eq]
        omega
      · rw [upd_same, List.take_add_one, hu, List.map_append] <;> rfl
    · obtain ⟨s2, g2⟩ := g
      rw [List.length_map, List.take_length] at g2
      have e2 : ws.map numV = (ws.map numO).map optV := by
        rw [List.map_map]
        exact List.map_congr_left fun w _ => numV_opt w
      rw [e2] at g2
      refine ⟨_, rfl, D, _, rfl, .inl (SqL.of g2), rfl, flat_opts _, _, rfl, ?_⟩
      rw [inV_opts]
      cases h : allO (ws.map numO) with
      | none =>
        rw [show (if false = true then !decide (none ∈ ws.map numO) else decide (none ∈ ws.map numO)) = true by rw [if_neg Bool.false_ne_true]; exact decide_eq_true (allO_none.mp h)]
        exact iteT (k1 H2 (hn.trans h) (s1.trans s2))
      | some l =>
        rw [show (if false = true then !decide (none ∈ ws.map numO) else decide (none ∈ ws.map numO)) = false by rw [if_neg Bool.false_ne_true]; exact decide_eq_false fun m => by rw [allO_none.mpr m] at h; cases h]
        have e3 := allO_some h
        rw [e3, List.map_map] at g2
        refine iteF ⟨_, rfl, D, _, rfl, .inl ⟨SqL.of g2, fun q hq => k2 l q _ (hn.trans h) ((s1.trans s2).mut (s1.free (s2.free hq))) (SqT.of upd_same)⟩⟩
end
end Law

namespace L2
open PySem PySem.Spec PyProof.Rows TL
def frB : Option Int → Option Int → Bool
  | some t, some b => decide (0 < b) && (Nat.gcd t.natAbs b.natAbs == 1)
  | _, _ => false
theorem frac2_frB (o p : Option Int) : frac2 o p = match o, p with
    | some t, some b => if p = some 1 ∨ frB o p = false then none else some (t, b)
    | _, _ => none := by
  cases o with
  | none => rfl
  | some t =>
    cases p with
    | none => rfl
    | some b =>
      show (if b ≠ 1 ∧ 0 < b ∧ Nat.gcd t.natAbs b.natAbs = 1 then some (t, b) else none) = if some b = some 1 ∨ (decide (0 < b) && (Nat.gcd t.natAbs b.natAbs == 1)) = false then none else some (t, b)
      by_cases h1 : b = 1
      · subst h1
        rw [if_neg (fun z => z.1 rfl), if_pos (.inl rfl)]
      · by_cases h2 : 0 < b
        · by_cases h3 : Nat.gcd t.natAbs b.natAbs = 1
          · rw [if_pos ⟨h1, h2, h3⟩, if_neg]
            rintro (z | z)
            · exact h1 (Option.some.inj z)
            · rw [decide_eq_true h2, Bool.true_and, beq_eq_false_iff_ne] at z
              exact z h3
          · rw [if_neg (fun z => h3 z.2.2), if_pos (.inr (by rw [beq_eq_false_iff_ne.mpr h3, Bool.and_false]))]
        · rw [if_neg (fun z => h2 z.2.1), if_pos (.inr (by rw [decide_eq_false h2, Bool.false_and]))]
theorem joinL_nil : ∀ ps : List (List Nat), joinL [] ps = ps.flatten
  | [] => rfl
  | [p] => by show p = p ++ []; rw [List.append_nil]
  | p :: q :: r => by
    show p ++ ([] ++ joinL [] (q :: r)) = p ++ (q :: r).flatten
    rw [List.nil_append, joinL_nil (q :: r)]
theorem fracT_len {f : Int × Int} (h0 : 0 ≤ f.1) (h1 : f.1 < 10 ^ 12) (h2 : 0 < f.2) (h3 : f.2 < 10 ^ 12) : (fracT f).length ≤ 25 := by
  have l1 : (numL f.1.toNat).length ≤ 12 := numL_len (by decide) (by omega)
  have l2 : (numL f.2.toNat).length ≤ 12 := numL_len (by decide) (by omega)
  unfold fracT
  rw [List.length_append]
  by_cases e : f.2 = 1
  · rw [if_pos e, List.length_nil]
    omega
  · rw [if_neg e, List.length_cons]
    omega
theorem optV_non (o : Option Int) : decide (optV o = V.non) = o.isNone := by
  cases o with
  | none => exact decide_eq_true rfl
  | some i => exact decide_eq_false fun z => nomatch z
theorem optV_one (o : Option Int) : decide (optV o = V.int 1) = decide (o = some 1) := by
  cases o with
  | none => rw [decide_eq_false (fun z => nomatch z), decide_eq_false (fun z => nomatch z)]
  | some i =>
    by_cases e : i = 1
    · rw [decide_eq_true (show optV (some i) = V.int 1 by rw [e] <;> rfl), decide_eq_true (by rw [e])]
    · rw [decide_eq_false (show ¬ optV (some i) = V.int 1 from fun z => e (V.int.inj z)), decide_eq_false (fun z => e (Option.some.inj z))]
end L2
namespace Law
open PySem L2 TL
section
variable {P : Program} {w : World} {K : PySem.W.Frag} {mg : Str → Option Value} {base : Heap}
theorem ty3_non {K : PySem.W.Frag} {H : Hp} : Ty3 K H .non false false := ⟨_, .base .non, kit_ty (by decide +kernel), kit_ty (by decide +kernel)⟩
def spFracG (K : PySem.W.Frag) : Sp := fun vs H Q _ => ∃ (a : Addr) (o p : Option Int), vs = [.ref a] ∧ SqT K H a [optV o, optV p] ∧ Q (.bl (frB o p)) H
abbrev nIsFractionG : List Str := ["thing", "top", "bottom"]
theorem scIsFractionG : FnScope nIsFractionG ["thing"] (defScope s_is_fraction) := ⟨rfl, rfl, rfl, by decide +kernel, rfl, by decide +kernel, by decide +kernel⟩
theorem ok_fracG {f : Addr} {fd : FuncData} {fcIsInt : Addr} {fdcIsInt : FuncData} (F : Fun K "is_fraction" "is_fraction" s_is_fraction f fd) (T : NmA mg) (cIsInt : Cl P w K mg base CX0 1 "is_integer" fcIsInt fdcIsInt ["thing"] (spIsInt K)) : FnOk P w K mg base CX0 2 f fd ["thing"] (spFracG K) := by
  refine F.ok scIsFractionG (fun vs H Q E h => ?_) (fun cdv A' outer s H vs Q E hr h => ?_)
  · obtain ⟨a, o, p, rfl, _⟩ := h
    rfl
  · obtain ⟨a, o, p, rfl, hS, k⟩ := h
    refine ⟨_, pss_cons (ps_if (PW.pt (pw_or (pt_not (pt_val (pe_callB call_isi (by rfl) T.isi (by decide +kernel) (pa_cons (pv 0) (pa_cons (pe_bltn (v := .ty "tuple") (u := .type "tuple") (by rfl) T.tuple (by decide +kernel) rfl) pa_nil))))) (pw_or1 (pt_cmpR op_ne (pe_callB call_len_seq (by rfl) T.len PySem.boot_len (pa_cons (pv 0) pa_nil)) pe_int (nomark _)))))
        (pss_one (ps_ret pe_bl)) pss_nil)
      (pss_cons (ps_asg (pv 0) (pg_tup (by rfl) (pgs_cons (pg_name (i := 1) scIsFractionG.nd rfl (Or.inl rfl)) (pgs_cons (pg_name (i := 2) scIsFractionG.nd rfl (Or.inl rfl)) pgs_nil))))
      (pss_one (ps_ret (pe_and (cIsInt.call (hr.mono (by decide)) (pa_cons (pv 1) pa_nil)) (pe_and (cIsInt.call (hr.mono (by decide)) (pa_cons (pv 2) pa_nil)) (pe_and (pe_cmpR op_gt (pv 2) pe_int (nomark _)) (pe_one (pe_cmpR op_eq (pe_callBfun cr_gcd (by rfl) T.gcd (pa_cons (pv 1) (pa_cons (pv 2) pa_nil))) pe_int (nomark _))))))))), ?_⟩
    refine ⟨_, rfl, _, _, _, _, _, rfl, .ty "tuple", tyx_tup hS, kit_tt, _, rfl, ?_⟩
    refine iteF ⟨_, rfl, a, _, rfl, .inr hS, rfl, _, rfl, iteF ?_⟩
    refine ⟨_, rfl, a, _, rfl, hS, rfl, _, _, rfl, _, _, rfl, rfl, ?_⟩
    cases o with
    | none => exact ⟨_, rfl, _, false, false, rfl, ty3_non, _, rfl, iteF k⟩
    | some t =>
      refine ⟨_, rfl, _, true, false, rfl, ty3_int t, _, rfl, iteT ?_⟩
      cases p with
      | none => exact ⟨_, rfl, _, false, false, rfl, ty3_non, _, rfl, iteF k⟩
      | some b =>
        refine ⟨_, rfl, _, true, false, rfl, ty3_int b, _, rfl, iteT ⟨_, rfl, _, _, rfl, rfl, _, rfl, ?_⟩⟩
        change Q (.bl (decide (0 < b) && (Nat.gcd t.natAbs b.natAbs == 1))) H at k
        refine ite2 (fun h1 => ?_) (fun h1 => ?_)
        · refine ⟨_, rfl, _, rfl, t, b, rfl, rfl, ?_⟩
          rw [dec_one]
          rw [h1, Bool.true_and] at k
          exact k
        · rw [Bool.not_eq_true] at h1
          rw [h1, Bool.false_and] at k
          exact k
def spFracT (K : PySem.W.Frag) : Sp := fun vs H Q _ => ∃ (a : Addr) (f : Fr), vs = [.ref a] ∧ SqT K H a [.int f.1, .int f.2] ∧ 0 ≤ f.1 ∧ f.1 < 10 ^ 12 ∧ 0 < f.2 ∧ f.2 < 10 ^ 12 ∧ ∀ t H', Same H H' → tl t = fracT f → Q (.str t) H'
abbrev nFractionText : List Str := ["share", "top", "bottom"]
theorem scFractionText : FnScope nFractionText ["share"] (defScope s_fraction_text) := ⟨rfl, rfl, rfl, by decide +kernel, rfl, by decide +kernel, by decide +kernel⟩
theorem ok_fraction_text {f : Addr} {fd : FuncData} {fcNumT : Addr} {fdcNumT : FuncData} (F : Fun K "fraction_text" "fraction_text" s_fraction_text f fd) (T : NmA mg) (cNumT : Cl P w K mg base CX0 1 "number_text" fcNumT fdcNumT ["number"] spNumT) : FnOk P w K mg base CX0 2 f fd ["share"] (spFracT K) := by
  refine F.ok scFractionText (fun vs H Q E h => ?_) (fun cdv A' outer s H vs Q E hr h => ?_)
  · obtain ⟨a, f, rfl, _⟩ := h
    rfl
  · obtain ⟨a, f, rfl, hS, f0, f1, f2, f3, k⟩ := h
    refine ⟨_, pss_cons (ps_asg (pv 0) (pg_tup (by rfl) (pgs_cons (pg_name (i := 1) scFractionText.nd rfl (Or.inl rfl)) (pgs_cons (pg_name (i := 2) scFractionText.nd rfl (Or.inl rfl)) pgs_nil))))
      (pss_cons (ps_if (pt_cmpR op_eq (pv 2) pe_int (nomark _))
        (pss_one (ps_ret (cNumT.call (hr.mono (by decide)) (pa_cons (pv 1) pa_nil)))) pss_nil)
      (pss_one (ps_ret (pe_op op_add_str (pe_op op_add_str (cNumT.call (hr.mono (by decide)) (pa_cons (pv 1) pa_nil)) pe_str) (cNumT.call (hr.mono (by decide)) (pa_cons (pv 2) pa_nil)))))), ?_⟩
    refine ⟨_, rfl, a, _, rfl, hS, rfl, _, _, rfl, _, _, rfl, rfl, ?_⟩
    have l1 : (Str.ofString (toString f.1)).length ≤ 12 := by
      rw [len_tl, tl_str f0]
      exact numL_len (by decide) (by omega)
    have l2 : (Str.ofString (toString f.2)).length ≤ 12 := by
      rw [len_tl, tl_str (Int.le_of_lt f2)]
      exact numL_len (by decide) (by omega)
    refine ⟨_, rfl, rfl, _, rfl, ?_⟩
    by_cases e : f.2 = 1
    · rw [decide_eq_true (by rw [e])]
      refine iteT ⟨_, rfl, _, rfl, f0, f1, fun H1 s1 => k _ H1 s1 ?_⟩
      unfold fracT
      rw [if_pos e, List.append_nil, tl_str f0]
    · rw [decide_eq_false (fun z => e (V.int.inj z))]
      refine iteF ⟨_, rfl, _, rfl, f0, f1, fun H1 s1 => ?_⟩
      have c1 : ("/" : Str).length = 1 := by decide +kernel
      refine ⟨_, _, rfl, rfl, by rw [sizeLine_eq, c1]; omega, _, rfl, _, rfl, Int.le_of_lt f2, f3, fun H2 s2 => ?_⟩
      refine ⟨_, _, rfl, rfl, by rw [sizeLine_eq, Str.length_append, c1]; omega, k _ H2 (s1.trans s2) ?_⟩
      unfold fracT
      rw [if_neg e, tl_append, tl_append, tl_str f0, tl_str (Int.le_of_lt f2), sl_is, List.append_assoc] <;> rfl
def spFracO (K : PySem.W.Frag) : Sp := fun vs H Q _ => ∃ (x : Str), vs = [.str x] ∧ x.length ≤ 16000000 ∧ (∀ H', fracO x = none → Same H H' → Q .non H') ∧ (∀ f p H', fracO x = some f → Same H H' → SqT K H' p [.int f.1, .int f.2] → Q (.ref p) H')
abbrev nFractionOfText : List Str := ["text", "above", "stroke", "below", "top", "bottom"]
theorem scFractionOfText : FnScope nFractionOfText ["text"] (defScope s_fraction_of_text) := ⟨rfl, rfl, rfl, by decide +kernel, rfl, by decide +kernel, by decide +kernel⟩
theorem ok_fraction_of_text {f : Addr} {fd : FuncData} {fcNum : Addr} {fdcNum : FuncData} {fcFracG : Addr} {fdcFracG : FuncData} (F : Fun K "fraction_of_text" "fraction_of_text" s_fraction_of_text f fd) (T : NmA mg) (cNum : Cl P w K mg base CX0 1 "number_of_text" fcNum fdcNum ["text"] spNum) (cFracG : Cl P w K mg base CX0 2 "is_fraction" fcFracG fdcFracG ["thing"] (spFracG K)) : FnOk P w K mg base CX0 3 f fd ["text"] (spFracO K) := by
  refine F.ok scFractionOfText (fun vs H Q E h => ?_) (fun cdv A' outer s H vs Q E hr h => ?_)
  · obtain ⟨x, rfl, _⟩ := h
    rfl
  · obtain ⟨x, rfl, xl, k1, k2⟩ := h
    have hu := hu_of hr
    refine ⟨_, pss_cons (ps_asg (pe_m1 PySem.F.slot_str_partition PySem.F.type_str_partition mt_partition (pv 0) pe_str) (pg_tup (by rfl) (pgs_cons (pg_name (i := 1) scFractionOfText.nd rfl (Or.inl rfl)) (pgs_cons (pg_name (i := 2) scFractionOfText.nd rfl (Or.inl rfl)) (pgs_cons (pg_name (i := 3) scFractionOfText.nd rfl (Or.inl rfl)) pgs_nil)))))
      (pss_cons (ps_set (i := 4) scFractionOfText.nd rfl (Or.inl rfl) (cNum.call (hr.mono (by decide)) (pa_cons (pv 1) pa_nil)))
      (pss_cons (ps_if (pt_cmpR op_eq (pv 2) pe_str (nomark _))
        (pss_one (ps_ret (pe_ifExp (pt_cmpR op_isN (pv 4) pe_non (nomark _)) pe_non (pe_tup (pa_cons (pv 4) (pa_cons pe_int pa_nil)))))) pss_nil)
      (pss_cons (ps_set (i := 5) scFractionOfText.nd rfl (Or.inl rfl) (cNum.call (hr.mono (by decide)) (pa_cons (pv 3) pa_nil)))
      (pss_cons (ps_if (PW.pt (pw_or (pt_cmpR op_eq (pv 5) pe_int (nomark _)) (pw_or1 (pt_not (pt_val (cFracG.call (hr.mono (by decide)) (pa_cons (pe_tup (pa_cons (pv 4) (pa_cons (pv 5) pa_nil))) pa_nil)))))))
        (pss_one (ps_ret pe_non)) pss_nil)
      (pss_one (ps_ret (pe_tup (pa_cons (pv 4) (pa_cons (pv 5) pa_nil))))))))), ?_⟩
    have z : x.length ≤ sizeLine := by rw [sizeLine_eq]; omega
    have hs : tl ("/" : Str) = [47] := by rw [sl_is] <;> rfl
    obtain ⟨l1, l2⟩ := part_len x ("/" : Str) (by rw [hs]; simp)
    refine ⟨_, rfl, ⟨_, rfl⟩, x, _, rfl, rfl, by decide +kernel, z, fun p hp => ?_⟩
    refine new_step hp fun H1 s1 e1 => ?_
    refine ⟨p, _, rfl, SqT.of e1, rfl, _, _, rfl, _, _, rfl, _, _, rfl, rfl, ?_⟩
    have hf : fracO x = if (Txt.partition x ("/" : Str)).2.1 = Str.empty then (numO (Txt.partition x ("/" : Str)).1).map fun t => (t, 1) else frac2 (numO (Txt.partition x ("/" : Str)).1) (numO (Txt.partition x ("/" : Str)).2.2) := by rw [sl_is] <;> rfl
    generalize Txt.partition x ("/" : Str) = pt at l1 l2 e1 hf ⊢
    refine ⟨_, rfl, _, rfl, by omega, ?_⟩
    rw [numV_opt]
    refine ⟨_, rfl, rfl, _, rfl, ?_⟩
    rw [dec_str, e_emp]
    by_cases e : pt.2.1 = Str.empty
    · rw [decide_eq_true e]
      rw [if_pos e] at hf
      refine iteT ⟨_, rfl, rfl, _, rfl, ?_⟩
      rw [optV_non]
      cases ho : numO pt.1 with
      | none =>
        rw [ho] at hf
        exact iteT (k1 H1 hf s1)
      | some t =>
        rw [ho] at hf
        refine iteF ⟨_, rfl, by show 2 ≤ sizeLine; decide, fun q hq => ?_⟩
        refine new_step hq fun H2 s2 e2 => ?_
        exact k2 (t, 1) q H2 hf (s1.trans s2) (SqT.of e2)
    · rw [decide_eq_false e]
      rw [if_neg e, frac2_frB] at hf
      refine iteF ⟨_, rfl, _, rfl, by omega, ?_⟩
      rw [numV_opt]
      refine ⟨_, rfl, (by cases numO pt.2.2 <;> rfl), _, rfl, ?_⟩
      rw [optV_one]
      have bad : frB (numO pt.1) (numO pt.2.2) = false → fracO x = none := fun h => by
        rw [hf]
        cases h1 : numO pt.1 with
        | none => rfl
        | some t =>
          cases h2 : numO pt.2.2 with
          | none => rfl
          | some b =>
            show (if _ then none else _) = none
            rw [if_pos (.inr (by rw [← h1, ← h2]; exact h))]
      by_cases o1 : numO pt.2.2 = some 1
      · rw [decide_eq_true o1]
        refine iteT (k1 H1 ?_ s1)
        rw [hf, o1]
        cases numO pt.1 with
        | none => rfl
        | some t => exact if_pos (.inl rfl)
      · rw [decide_eq_false o1]
        refine iteF ⟨_, rfl, _, rfl, by show 2 ≤ sizeLine; decide, fun q hq => ?_⟩
        refine new_step hq fun H2 s2 e2 => ?_
        refine ⟨q, _, _, rfl, SqT.of e2, _, rfl, ?_⟩
        cases hb : frB (numO pt.1) (numO pt.2.2) with
        | false => exact iteT (k1 H2 (bad hb) (s1.trans s2))
        | true =>
          cases h1 : numO pt.1 with
          | none => rw [h1] at hb; cases hb
          | some t =>
            cases h2 : numO pt.2.2 with
            | none => rw [h1, h2] at hb; cases hb
            | some b =>
              refine iteF ⟨_, rfl, _, rfl, by show 2 ≤ sizeLine; decide, fun q3 hq3 => ?_⟩
              refine new_step hq3 fun H3 s3 e3 => ?_
              refine k2 (t, b) q3 H3 ?_ ((s1.trans s2).trans s3) (SqT.of e3)
              rw [hf, h1, h2]
              show (if _ then none else _) = _
              rw [if_neg]
              rintro (z | z)
              · exact o1 (h2.trans z)
              · rw [h1, h2, z] at hb
                cases hb
def spMoveL (K : PySem.W.Frag) : Sp := fun vs H Q _ => ∃ (x : Str), vs = [.str x] ∧ x.length ≤ 16000000 ∧ (∀ H', moveO x = none → Same H H' → Q .non H') ∧ (∀ m p H', moveO x = some m → Same H H' → MvAt K H' (.ref p) m → Q (.ref p) H')
abbrev nMoveOfLine : List Str := ["line", "before", "_", "behind", "share", "leads"]
theorem scMoveOfLine : FnScope nMoveOfLine ["line"] (defScope s_move_of_line) := ⟨rfl, rfl, rfl, by decide +kernel, rfl, by decide +kernel, by decide +kernel⟩
theorem ok_move_of_line {f : Addr} {fd : FuncData} {fcFracO : Addr} {fdcFracO : FuncData} {fcNums : Addr} {fdcNums : FuncData} (F : Fun K "move_of_line" "move_of_line" s_move_of_line f fd) (T : NmA mg) (cFracO : Cl P w K mg base CX0 3 "fraction_of_text" fcFracO fdcFracO ["text"] (spFracO K)) (cNums : Cl P w K mg base CX0 2 "numbers_of_text" fcNums fdcNums ["text"] (spNums K)) : FnOk P w K mg base CX0 4 f fd ["line"] (spMoveL K) := by
  refine F.ok scMoveOfLine (fun vs H Q E h => ?_) (fun cdv A' outer s H vs Q E hr h => ?_)
  · obtain ⟨x, rfl, _⟩ := h
    rfl
  · obtain ⟨x, rfl, xl, k1, k2⟩ := h
    have hu := hu_of hr
    refine ⟨_, pss_cons (ps_asg (pe_m1 PySem.F.slot_str_partition PySem.F.type_str_partition mt_partition (pv 0) pe_str) (pg_tup (by rfl) (pgs_cons (pg_name (i := 1) scMoveOfLine.nd rfl (Or.inl rfl)) (pgs_cons (pg_name (i := 2) scMoveOfLine.nd rfl (Or.inl rfl)) (pgs_cons (pg_name (i := 3) scMoveOfLine.nd rfl (Or.inl rfl)) pgs_nil)))))
      (pss_cons (ps_set (i := 4) scMoveOfLine.nd rfl (Or.inl rfl) (cFracO.call (hr.mono (by decide)) (pa_cons (pv 1) pa_nil)))
      (pss_cons (ps_set (i := 5) scMoveOfLine.nd rfl (Or.inl rfl) (cNums.call (hr.mono (by decide)) (pa_cons (pv 3) pa_nil)))
      (pss_one (ps_ret (pe_ifExp (PW.pt (pw_or (pt_cmpR op_isN (pv 4) pe_non (nomark _)) (pw_or1 (pt_cmpR op_isN (pv 5) pe_non (nomark _))))) pe_non (pe_tup (pa_cons (pv 4) (pa_cons (pv 5) pa_nil)))))))), ?_⟩
    have z : x.length ≤ sizeLine := by rw [sizeLine_eq]; omega
    have hs : tl (": " : Str) = [58, 32] := by rw [cs_is] <;> rfl
    obtain ⟨l1, l2⟩ := part_len x (": " : Str) (by rw [hs]; simp)
    refine ⟨_, rfl, ⟨_, rfl⟩, x, _, rfl, rfl, by decide +kernel, z, fun p hp => ?_⟩
    refine new_step hp fun H1 s1 e1 => ?_
    refine ⟨p, _, rfl, SqT.of e1, rfl, _, _, rfl, _, _, rfl, _, _, rfl, rfl, ?_⟩
    have hf : moveO x = match fracO (Txt.partition x (": " : Str)).1, numsO (Txt.partition x (": " : Str)).2.2 with
        | some f, some l => some (f, l)
        | _, _ => none := by rw [cs_is] <;> rfl
    generalize Txt.partition x (": " : Str) = pt at l1 l2 e1 hf ⊢
    refine ⟨_, rfl, _, rfl, by omega, fun H2 h1 s2 => ?_, fun f a H2 h1 s2 ha => ?_⟩
    · rw [h1] at hf
      have hf : moveO x = none := hf
      refine ⟨_, rfl, _, rfl, by omega, fun H3 h2 s3 => ?_, fun l b H3 h2 s3 hb => ?_⟩
      · refine ⟨_, rfl, rfl, _, rfl, iteT ?_⟩
        exact k1 H3 hf ((s1.trans s2).trans s3)
      · refine ⟨_, rfl, rfl, _, rfl, iteT ?_⟩
        exact k1 H3 hf ((s1.trans s2).trans s3)
    · refine ⟨_, rfl, _, rfl, by omega, fun H3 h2 s3 => ?_, fun l b H3 h2 s3 hb => ?_⟩
      · rw [h1, h2] at hf
        refine ⟨_, rfl, rfl, _, rfl, iteF ⟨_, rfl, rfl, _, rfl, iteT ?_⟩⟩
        exact k1 H3 hf ((s1.trans s2).trans s3)
      · rw [h1, h2] at hf
        refine ⟨_, rfl, rfl, _, rfl, iteF ⟨_, rfl, rfl, _, rfl, iteF ?_⟩⟩
        refine ⟨_, rfl, _, rfl, by show 2 ≤ sizeLine; decide, fun q hq => ?_⟩
        refine new_step hq fun H4 s4 e4 => ?_
        exact k2 (f, l) q H4 hf (((s1.trans s2).trans s3).trans s4) ⟨q, a, b, rfl, SqT.of e4, (s3.trans s4).sqT ha, s4.sqT hb⟩
def spSysText (K : PySem.W.Frag) (C : Addr) : Sp := fun vs H Q _ => ∃ (sy : Addr) (many : Nat) (ms : List Mv), vs = [.ref sy] ∧ SysAt K C H sy many ms ∧ many ≤ 12 ∧ ms.length ≤ 24 ∧ (∀ m ∈ ms, MvSm m ∧ m.2.length ≤ 12) ∧ ∀ t H', Same H H' → tl t = textT many ms → Q (.str t) H'
theorem lead_len {m : Mv3} (h : MvSm m) (l : m.2.length ≤ 12) : (joinL [32] (m.2.map fun s => numL s.toNat)).length ≤ 156 := by
  have z := len_joinL (m.2.map fun s => numL s.toNat) 12 fun p hp => by
    obtain ⟨i, hi, rfl⟩ := List.mem_map.mp hp
    obtain ⟨_, _, _, _, _, h6⟩ := h
    obtain ⟨a, b⟩ := h6 i hi
    exact numL_len (by decide) (by omega)
  rw [List.length_map] at z
  omega
theorem moveT_len {m : Mv3} (h : MvSm m) (l : m.2.length ≤ 12) : (moveT m).length ≤ 183 := by
  have a := lead_len h l
  obtain ⟨h1, h2, h3, h4, _, _⟩ := h
  have b := fracT_len h1 h2 h3 h4
  unfold moveT
  rw [List.length_append, List.length_append]
  show _ + 2 + _ ≤ _
  omega
abbrev nSystemText : List Str := ["system", "lines", "share", "leads", "state", "line"]
theorem scSystemText : FnScope nSystemText ["system"] (defScope s_system_text) := ⟨rfl, rfl, rfl, by decide +kernel, rfl, by decide +kernel, by decide +kernel⟩
theorem ok_system_text {f : Addr} {fd : FuncData} {fcFracT : Addr} {fdcFracT : FuncData} {C : Addr} (F : Fun K "system_text" "system_text" s_system_text f fd) (T : NmA mg) (cFracT : Cl P w K mg base CX0 2 "fraction_text" fcFracT fdcFracT ["share"] (spFracT K)) (S : SysT K mg C) : FnOk P w K mg base CX0 3 f fd ["system"] (spSysText K C) := by
  refine F.ok scSystemText (fun vs H Q E h => ?_) (fun cdv A' outer s H vs Q E hr h => ?_)
  · obtain ⟨sy, many, ms, rfl, _⟩ := h
    rfl
  · obtain ⟨sy, many, ms, rfl, hS, m12, l24, hm, k⟩ := h
    have hu := hu_of hr
    refine ⟨_, pss_cons (ps_set (i := 1) scSystemText.nd rfl (Or.inl rfl) (pe_lst (pa_cons (pe_op op_add_str pe_str (pe_callTy call_str_int (by rfl) T.str (by decide +kernel) (pa_cons (pe_fld (pv 0) rfl) pa_nil))) pa_nil)))
      (pss_cons (ps_for PassesOwn.never rfl (pi_tup (pe_fld (pv 0) rfl)) (pg_tup (by rfl) (pgs_cons (pg_name (i := 2) scSystemText.nd rfl (Or.inl rfl)) (pgs_cons (pg_name (i := 3) scSystemText.nd rfl (Or.inl rfl)) pgs_nil)))
        (pss_one (ps_expr (pe_bm PySem.F.plainAttrs_list PySem.F.slot_list_append PySem.F.type_list_append mt_append (pv 1) (pa_cons (pe_op op_add_str (pe_op op_add_str (cFracT.call (hr.mono (by decide)) (pa_cons (pv 2) pa_nil)) pe_str) (pe_m1 PySem.F.slot_str_join PySem.F.type_str_join mt_join pe_str (pe_lc (own := [("state", 4)]) (g := (gName 4)) (tt := tYes) rfl scSystemText.nd  (pi_tup (pv 3)) (blkOk_by (own := [("state", 4)]) (N := nSystemText) (sc := defScope s_system_text) (by decide +kernel)) (fun _ _ _ _ _ => (pg_name (i := 4) scSystemText.nd rfl (Or.inl rfl))) (fun _ _ _ _ _ => pts_nil) (fun _ _ _ _ _ => (pe_callTy call_str_int (by rfl) T.str (by decide +kernel) (pa_cons (pv 4) pa_nil)))))) pa_nil)))))
      (pss_one (ps_ret (pe_m1 PySem.F.slot_str_join PySem.F.type_str_join mt_join pe_str (pe_lc (own := [("line", 5)]) (g := (gName 5)) (tt := tYes) rfl scSystemText.nd  (pi_list (pv 1)) (blkOk_by (own := [("line", 5)]) (N := nSystemText) (sc := defScope s_system_text) (by decide +kernel)) (fun _ _ _ _ _ => (pg_name (i := 5) scSystemText.nd rfl (Or.inl rfl))) (fun _ _ _ _ _ => pts_nil) (fun _ _ _ _ _ => (pe_op op_add_str (pv 5) pe_str))))))), ?_⟩
    obtain ⟨dx, mv, hsy, vs, hV, hM⟩ := id hS
    have vl := hM.1
    have c_st : ("states " : Str).length = 7 := by decide +kernel
    have c_cs : (": " : Str).length = 2 := by decide +kernel
    have c_nl : ("\n" : Str).length = 1 := by decide +kernel
    have t_st : tl ("states " : Str) = [115, 116, 97, 116, 101, 115, 32] := by decide +kernel
    have ln : (Str.ofString (toString (many : Int))).length ≤ 2 := by
      rw [len_tl, tl_num]
      exact numL_len (by decide) (by show many < 100; omega)
    refine ⟨_, rfl, sy, C, dx, _, _, rfl, hsy, S.cl, S.nK, sysF_many _ _, (many : Int), rfl, logn (Nat.lt_of_le_of_lt (show (many : Int).natAbs ≤ 12 by omega) (by decide)), ?_⟩
    refine ⟨_, _, rfl, rfl, by rw [sizeLine_eq, c_st]; omega, by show 1 ≤ sizeLine; decide, fun L hL => ?_⟩
    refine new_step hL fun H1 s1 e1 => ?_
    refine ⟨_, rfl, sy, C, dx, _, _, rfl, s1 _ _ hsy, S.cl, S.nM, sysF_moves _ _, mv, rfl, ⟨_, s1.sqT hV⟩, for_tup (K := K) (a := mv) (xs := vs) (fun i σ H' => (Same H H' ∧ ∃ ss : List Str, H' L = some (.lst (ss.map V.str)) ∧ ss.map tl = headT many :: (ms.take i).map moveT) ∧ ∃ u v : Option V, σ = [some (.ref sy), some (.ref L), u, v, none, none]) ⟨⟨s1, [("states " : Str) ++ Str.ofString (toString (many : Int))], e1, ?_⟩, none, none, rfl⟩ (fun i σ H' _ h => h.1.1.sqT hV) ?_ ?_⟩
    · rw [List.map_cons, List.map_nil, List.take_zero, List.map_nil, tl_append, t_st, tl_num]
      unfold headT
      rw [Int.toNat_natCast]
    · rintro i x σ H2 hi ⟨⟨s2, ss, g1, g2⟩, u, v, rfl⟩
      obtain ⟨m, hmi, a, s, l, rfl, hA, hT, hLd⟩ := hM.2 i x hi
      obtain ⟨sm, ll⟩ := hm m (List.mem_of_getElem? hmi)
      obtain ⟨f0, f1, f2, f3, _, f6⟩ := id sm
      have sl : ss.length = i + 1 := by
        have z := congrArg List.length g2
        have := (List.getElem?_eq_some_iff.mp hmi).1
        rw [List.length_map, List.length_cons, List.length_map, List.length_take] at z
        omega
      have il := (List.getElem?_eq_some_iff.mp hmi).1
      refine ⟨a, _, rfl, s2.sqT hA, rfl, _, _, rfl, _, _, rfl, rfl, ?_⟩
      refine ⟨_, rfl, .inl ⟨rfl, _, SqL.of g1⟩, _, rfl, s, m.1, rfl, s2.sqT hT, f0, f1, f2, f3, fun t H3 s3 ht => ?_⟩
      have tl1 : t.length ≤ 25 := by rw [len_tl, ht]; exact fracT_len f0 f1 f2 f3
      refine ⟨_, _, rfl, rfl, by rw [sizeLine_eq, c_cs]; omega, ⟨_, rfl⟩, _, rfl, l, rfl, ⟨_, (s2.trans s3).sqT hLd⟩, fun D hD => ?_⟩
      refine lc_tup (K := K) (a := l) (xs := m.2.map V.int) (fun j H' => Same H3 H' ∧ H' D = some (.lst ((m.2.take j).map fun c => V.str (Str.ofString (toString c))))) ⟨Same.new hD, upd_same⟩ (fun j H' _ g => ((s2.trans s3).trans g.1).sqT hLd) (fun j y H4 hj g => ?_) fun H4 g => ?_
      · obtain ⟨s4, g4⟩ := g
        rw [List.getElem?_map] at hj
        obtain ⟨c, hc, rfl⟩ := Option.map_eq_some_iff.mp hj
        obtain ⟨c0, c1⟩ := f6 c (List.mem_of_getElem? hc)
        have jl := (List.getElem?_eq_some_iff.mp hc).1
        refine ⟨rfl, _, rfl, c, rfl, logn (Nat.lt_of_lt_of_le (show c.natAbs < 10 ^ 12 by omega) (by decide)), _, g4, ?_, s4.mut hD, ?_⟩
        · rw [List.length_map, List.length_take]
          exact small1000 (by omega)
        · rw [upd_same, List.take_add_one, hc, List.map_append] <;> rfl
      · obtain ⟨s4, g4⟩ := g
        rw [List.length_map, List.take_length] at g4
        have jt : tl (Txt.join (" " : Str) (m.2.map fun c => Str.ofString (toString c))) = joinL [32] (m.2.map fun s => numL s.toNat) := by
          rw [join_eq, tl_join, one_sp, List.map_map]
          exact congrArg (joinL [32]) (List.map_congr_left fun c hc => tl_str (f6 c hc).1)
        have jl := lead_len sm ll
        have sb : ((m.2.map fun c => Str.ofString (toString c)).map (·.length)).sum ≤ (m.2.map fun c => Str.ofString (toString c)).length * 12 := by
          have z := natsum_le (c := 12) ((m.2.map fun c => Str.ofString (toString c)).map (·.length)) fun y hy => by
            obtain ⟨q, hq, rfl⟩ := List.mem_map.mp hy
            obtain ⟨c, hc, rfl⟩ := List.mem_map.mp hq
            obtain ⟨a0, a1⟩ := f6 c hc
            rw [len_tl, tl_str a0]
            exact numL_len (by decide) (by omega)
          rw [List.length_map (as := m.2.map _)] at z
          exact z
        rw [List.length_map] at sb
        refine ⟨_, D, m.2.map fun c => Str.ofString (toString c), rfl, rfl, .inl (SqL.of (by rw [List.map_map]; exact g4)), ?_, _, _, rfl, rfl, ?_, ?_⟩
        · have c_sp : (" " : Str).length = 1 := by decide +kernel
          rw [List.length_map, c_sp]
          omega
        · show (t ++ (": " : Str)).length + (Txt.join (" " : Str) (m.2.map fun c => Str.ofString (toString c))).length ≤ sizeLine
          rw [Str.length_append, c_cs, len_tl (Txt.join _ _), jt, sizeLine_eq]
          omega
        · have LD : L ≠ D := ne_of_none (s3 _ _ g1) hD
          refine ⟨L, _, _, rfl, rfl, s4 _ _ (s3 _ _ g1), by rw [List.length_map, sl]; exact small1000 (by omega), ⟨((s2.trans s3).trans s4).mut hL, ss ++ [t ++ (": " : Str) ++ Txt.join (" " : Str) (m.2.map fun c => Str.ofString (toString c))], ?_, ?_⟩, _, _, rfl⟩
          · rw [upd_same, List.map_append] <;> rfl
          · rw [List.map_append, g2, List.take_add_one, hmi]
            simp only [Option.toList, List.map_append, List.map_cons, List.map_nil, List.cons_append]
            congr 2
            unfold moveT
            rw [tl_append, tl_append, ht, jt, cs_is]
    · rintro σ H2 ⟨⟨s2, ss, g1, g2⟩, u, v, rfl⟩
      rw [vl, List.take_length] at g2
      have sl : ss.length = ms.length + 1 := by
        have z := congrArg List.length g2
        rw [List.length_map, List.length_cons, List.length_map] at z
        exact z
      have sb : ∀ s ∈ ss, s.length ≤ 183 := fun s hs => by
        have : tl s ∈ headT many :: ms.map moveT := by rw [← g2]; exact List.mem_map.mpr ⟨s, hs, rfl⟩
        rw [len_tl]
        rcases List.mem_cons.mp this with e | e
        · rw [e]
          unfold headT
          rw [List.length_append, Int.toNat_natCast]
          have : (numL many).length ≤ 2 := numL_len (by decide) (by show many < 100; omega)
          show 7 + _ ≤ _
          omega
        · obtain ⟨m, hmm, e⟩ := List.mem_map.mp e
          rw [← e]
          exact moveT_len (hm m hmm).1 (hm m hmm).2
      refine ⟨⟨_, rfl⟩, _, rfl, L, rfl, ⟨_, SqL.of g1⟩, fun D hD => ?_⟩
      refine lc_list (K := K) (a := L) (xs := ss.map V.str) (fun j H' => Same H2 H' ∧ H' D = some (.lst ((ss.take j).map fun s => V.str (s ++ ("\n" : Str))))) ⟨Same.new hD, upd_same⟩ (fun j H' _ g => SqL.of (g.1 _ _ g1)) (fun j y H4 hj g => ?_) fun H4 g => ?_
      · obtain ⟨s4, g4⟩ := g
        rw [List.getElem?_map] at hj
        obtain ⟨c, hc, rfl⟩ := Option.map_eq_some_iff.mp hj
        have cl := sb c (List.mem_of_getElem? hc)
        have jl := (List.getElem?_eq_some_iff.mp hc).1
        refine ⟨rfl, _, rfl, _, _, rfl, rfl, by rw [sizeLine_eq, c_nl]; omega, _, g4, ?_, s4.mut hD, ?_⟩
        · rw [List.length_map, List.length_take]
          exact small1000 (by omega)
        · rw [upd_same, List.take_add_one, hc, List.map_append] <;> rfl
      · obtain ⟨s4, g4⟩ := g
        rw [List.length_map, List.take_length] at g4
        have sz : ((ss.map fun s => s ++ ("\n" : Str)).map (·.length)).sum ≤ (ss.map fun s => s ++ ("\n" : Str)).length * 184 := by
          have z := natsum_le (c := 184) ((ss.map fun s => s ++ ("\n" : Str)).map (·.length)) fun y hy => by
            obtain ⟨q, hq, rfl⟩ := List.mem_map.mp hy
            obtain ⟨c, hc, rfl⟩ := List.mem_map.mp hq
            have := sb c hc
            rw [Str.length_append, c_nl]
            omega
          rw [List.length_map (as := ss.map _)] at z
          exact z
        rw [List.length_map] at sz
        refine ⟨_, D, ss.map fun s => s ++ ("\n" : Str), rfl, rfl, .inl (SqL.of (by rw [List.map_map]; exact g4)), ?_, k _ H4 (s2.trans s4) ?_⟩
        · have c0 : ("" : Str).length = 0 := by decide +kernel
          rw [c0]
          omega
        · have t0 : tl ("" : Str) = [] := by decide +kernel
          rw [join_eq, tl_join, t0, joinL_nil, List.map_map]
          have : (tl ∘ fun s : Str => s ++ ("\n" : Str)) = (fun l => l ++ [10]) ∘ tl := by
            funext s
            show tl (s ++ ("\n" : Str)) = tl s ++ [10]
            rw [tl_append, one_nl]
          rw [this, ← List.map_map, g2, List.map_cons, List.flatten_cons, List.map_map] <;> rfl
end
end Law

namespace L2
open PySem PySem.Spec PyProof.Rows
/-! ### several clauses 'except x as n', one name -/
def wManyAs (K : PySem.W.Frag) (i : Nat) (Wout : WX) (D : Ends) : List (Value × (Addr → Value → Option Addr → TS)) → WX
  | [] => Wout
  | (c, ts) :: r => fun cls d σ H => ∃ b, PySem.W.exmOne K cls c = some b ∧ (b = true → ∀ a, H a = none → ts a cls d { nx := fun σ' H' => D.nx (σ'.set i none) H', rt := D.rt, bk := fun σ' H' => D.bk (σ'.set i none) H', ct := fun σ' H' => D.ct (σ'.set i none) H' } (σ.set i (some (.ref a))) H) ∧ (b = false → wManyAs K i Wout D r cls d σ H)
inductive HdsAs (X : Cx) (n : Str) : List ExceptHandler → List (Value × (Addr → Value → Option Addr → TS)) → Prop
  | nil : HdsAs X n [] []
  | cons {x : Str} {c : Value} {ts : Addr → Value → Option Addr → TS} {b₀ : Stmt} {suite : List Stmt} {np pos' : Pos} {hds : List ExceptHandler} {l : List (Value × (Addr → Value → Option Addr → TS))} (hc : Names X x c)
      (hsu : ∀ (a : Addr) (oe : Obj) (cls : Value) (d : Option Addr) (pn : List (Addr × Obj)), Zc cls d oe → (∃ vs, oe.data = .fields vs) → PSs (X.suite a ((a, oe) :: pn)) (b₀ :: suite) (ts a cls d)) (r : HdsAs X n hds l) :
      HdsAs X n (.ExceptHandler (some (.Name x np)) (some n) (b₀ :: suite) pos' :: hds) ((c, ts) :: l)
section
variable {X : Cx} {n : Str} {i : Nat} {body : List Stmt} {h₀ : ExceptHandler} {hds : List ExceptHandler} {l : List (Value × (Addr → Value → Option Addr → TS))} {pos : Pos} {tb : WX → TS} {Wout : WX}
theorem ps_try_manyAs (hs : X.stack = X.env :: X.outer) (hf : X.env.frame = some X.env.locals) (hN : X.N.Nodup) (hi : X.N[i]? = some n) (hln : X.env.kindOf n = some .local) (tk : Takes X Wout)
    (hb : ∀ (W : WX) (pn : List (Addr × Obj)) (xe : Value → Shared → Prop), Takes (X.tr pn xe) W → PassesOwn (model X.prog X.w) X.A X.env xe → PSs (X.tr pn xe) body (tb W))
    (hh : HdsAs X n (h₀ :: hds) l) : PS X (.Try body (h₀ :: hds) [] [] pos) (fun D σ H => tb (wManyAs X.K i Wout D l) D σ H) := by
  refine ⟨fun pins s σ H D I h => ?_⟩
  have ok := I.ok
  have hfr : X.A.frames = some (X.env :: X.outer) := by rw [ok.frames, hs]
  have hloc : Loc X.env.scope n := .inl hln
  refine wpAny_Try_except ?_
  refine wpAny_mono ((hb (wManyAs X.K i Wout D l) (X.pn ++ pins) (fun e s₁ => wpAny (model X.prog X.w) X.A (noteFrame e X.env) (fun _ s₂ => wpAny (model X.prog X.w) X.A (setFlight e none) (fun _ s₃ =>
    wpAny (model X.prog X.w) X.A (handleBy e X.env (h₀ :: hds)) (SP X pins D) X.xe s₃) X.xe s₂) X.xe s₁) (fun u s' xx => ?_) PassesOwn.looking).run [] s σ H D (I.toTry _) h) (fun f s1 hsp => ?_) (fun e s1 he => he)
  · -- the catch
    obtain ⟨a, B, sI, pins', σ', H', cls, d, rfl, J', nb, up, sky, na, os, ag, w⟩ := xx
    have J : Inv X pins σ' H' sI := J'.ofTry ok
    have sky' : Sky B (X.env :: X.outer) a (Zc cls d) X.env.locals s'.heap := by rw [← hs]; exact sky
    show wpAny (model X.prog X.w) X.A (noteFrame (.ref a) X.env) _ _ _
    refine Sky.land Zc.steady hfr hf sky' fun h3 fl3 up3 => ?_
    have J3 : Inv X pins σ' H' { s' with heap := h3 } := J.landed nb fl3.1 (up.trans up3) os ag
    obtain ⟨oe3, vs3, he3, hz3, hd3⟩ := fl3.there
    have notFr : ∀ {h : Heap} {o : Obj} {vs : Array Value}, h.FunFrames B (X.env :: X.outer) → h.get? a = some o → o.data = .fields vs → a ∉ frs (X.env :: X.outer) := fun {h o vs} ff e dd hm => by
      obtain ⟨_, o', e', hnf⟩ := ff.mem hm
      rw [e] at e'; cases e'
      exact hnf _ dd
    have nfr := notFr fl3.2.2.1 he3 hd3
    have nL : a ≠ X.env.locals := fun z => nfr (List.mem_filterMap.mpr ⟨X.env, List.mem_cons_self, by rw [hf, z]⟩)
    have nF : a ∉ X.fs := fun hm => by
      obtain ⟨e, he, q⟩ := List.mem_filterMap.mp hm
      exact nfr (List.mem_filterMap.mpr ⟨e, List.mem_cons_of_mem _ he, q⟩)
    have S3 := J3.suite he3 hd3 na nL nF
    have go : ∀ {hds' : List ExceptHandler} {l' : List (Value × (Addr → Value → Option Addr → TS))}, HdsAs X n hds' l' → wManyAs X.K i Wout D l' cls d σ' H' →
        wpAny (model X.prog X.w) X.A (handleBy (.ref a) X.env hds') (SP X pins D) X.xe { s' with heap := h3 } := by
      intro hds' l' hk
      induction hk with
      | nil =>
        intro w
        refine wpAny_handleBy_nil ?_
        obtain ⟨k1, k2, k3, oe, vs, T, oT, ts', he, hz, hd, h1, hr⟩ := id fl3
        unfold PySem.passOn
        refine wpAny_bind (wpAny_field he hd h1 ?_)
        rw [if_neg (show ¬ ((Value.ref T == Value.none) = true) from by simp)]
        have fin : wpAny (model X.prog X.w) X.A (setFlight (.ref a) X.env.frame) (fun _ s4 => wpAny (model X.prog X.w) X.A (throw (.ref a) : Sem Flow) (SP X pins D) X.xe s4) X.xe { s' with heap := h3 } := by
          rw [hf]
          refine HandSPX.setFlight_upZ fl3 fun h4 hh4 up4 => wpAny_throw (tk _ _ ?_)
          exact ⟨a, B, sI, pins, σ', H', cls, d, rfl, J, nb, (up.trans up3).trans up4, .inr (.inr (by rw [hs]; exact hh4)), na, os, ag, w⟩
        first
          | exact wpAny_bind (wpAny_pure (wpAny_bind fin))
          | exact wpAny_bind fin
      | @cons x c ts b₀ suite np pos' hds2 l2 hc hsu r ih =>
        intro w
        obtain ⟨b, hb1, hyes, hno⟩ := w
        refine wpAny_handleBy_cons (codeAny_handlers_test ?_) (by intro q; cases q)
        have LT : PySem.W.Looks (model X.prog X.w) h3 (typeOf (.ref a)) cls := fun A Q E s k q => wpAny_typeOf_ref (k _ _ he3) (by rw [hz3.1]; exact q)
        have LM := PySem.W.exm_one (M := model X.prog X.w) (J3.kIn) LT hb1
        have test : ∀ {Q : Value → Shared → Prop} {E : Value → Shared → Prop}, Q c { s' with heap := h3 } → wpAny (model X.prog X.w) (X.A.mark (some (.ref a))) (eval (.Name x np) X.env) Q E { s' with heap := h3 } := fun {Q E} q => by
          obtain ⟨hg, hdbg, hm | ⟨hm, hv, hnn⟩⟩ := hc
          · exact ld_glob (X := X.suite a ((a, oe3) :: (X.pn ++ pins))) S3 hg hm q hdbg
          · exact ld_blt (X := X.suite a ((a, oe3) :: (X.pn ++ pins))) S3 hg hm hv q hnn hdbg
        refine test (LM.here ?_)
        cases b with
        | true =>
          refine codeAny_handlers_suite_as ?_
          refine HandSPX.lands_againZ fl3 fun h4 fl4 up4 => ?_
          have J4 : Inv X pins σ' H' { s' with heap := h4 } := J.landed nb fl4.1 ((up.trans up3).trans up4) os ag
          obtain ⟨oe4, vs4, he4, hz4, hd4⟩ := fl4.there
          have S4 := J4.suite he4 hd4 na nL nF
          refine store_ok (X := X.suite a ((a, oe4) :: (X.pn ++ pins))) (v := .ref a) S4 hN hi hloc rfl (fun s5 S5 => ?_) (.inr hln)
          refine wpAny_mono ((hsu a oe4 cls d (X.pn ++ pins) hz4 ⟨_, hd4⟩).run [] s5 _ H' _ S5 (hyes rfl a na)) (fun f s6 hsp => ?_) (fun _ _ z => False.elim z)
          have end_ : ∀ {σ6 : St} {H6 : Hp} {Q : Shared → Prop}, Inv (X.suite a ((a, oe4) :: (X.pn ++ pins))) [] σ6 H6 s6 → (∀ s7, Inv X pins (σ6.set i none) H6 s7 → Q s7) →
              wpAny (model X.prog X.w) X.A (do bindName X.env n .none; unbindBehindTheSuite X.env n pos') (fun _ s7 => Q s7) X.xe s6 := fun {σ6 H6 Q} S6 hq => gone_ok (S6.unsuite ok) hN hi hln hq
          cases f with
          | next =>
            obtain ⟨σ6, H6, S6, q6⟩ := hsp
            exact end_ S6 fun s7 J7 => ⟨_, _, J7, q6⟩
          | brk =>
            obtain ⟨σ6, H6, S6, q6⟩ := hsp
            exact end_ S6 fun s7 J7 => ⟨_, _, J7, q6⟩
          | cont =>
            obtain ⟨σ6, H6, S6, q6⟩ := hsp
            exact end_ S6 fun s7 J7 => ⟨_, _, J7, q6⟩
          | ret u =>
            obtain ⟨v6, σ6, H6, S6, r6, q6⟩ := hsp
            exact end_ S6 fun s7 J7 => ⟨_, _, _, J7, r6, q6⟩
        | false =>
          show wpAny _ X.A (handleBy (.ref a) X.env hds2) _ _ _
          exact ih (hno rfl)
    exact go hh w
  · cases f with
    | next =>
      obtain ⟨σ', H', J', q⟩ := hsp
      exact wpAny_execs_nil ⟨σ', H', J'.ofTry ok, q⟩
    | brk =>
      obtain ⟨σ', H', J', q⟩ := hsp
      exact ⟨σ', H', J'.ofTry ok, q⟩
    | cont =>
      obtain ⟨σ', H', J', q⟩ := hsp
      exact ⟨σ', H', J'.ofTry ok, q⟩
    | ret u =>
      obtain ⟨v, σ', H', J', r, q⟩ := hsp
      exact ⟨v, σ', H', J'.ofTry ok, r, q⟩
end
end L2
namespace Law
open PySem PySem.Spec PyProof.Rows L2
/-! ### list.count of truth values -/
def eqt (b : Bool) (v : Value) : Bool := match v with
  | .bool c => c == b
  | _ => false
theorem bools_of : ∀ {bs : List Bool} {its : List Value}, Vals (bs.map V.bl) its → its = bs.map Value.bool
  | [], _, .nil => rfl
  | b :: bs, _, .cons r rr => by
    cases r
    rw [bools_of rr] <;> rfl
theorem eqt_count (b : Bool) : ∀ bs : List Bool, (bs.map Value.bool).countP (eqt b) = bs.count b
  | [] => rfl
  | c :: bs => by
    rw [List.map_cons, List.countP_cons, List.count_cons, eqt_count b bs] <;> rfl
section
variable {X : Cx}
def rCntB (K : PySem.W.Frag) : V → List V → Hp → VK → Prop := fun x xs H Q => ∃ (p : Addr) (bs : List Bool) (b : Bool), x = .ref p ∧ xs = [.bl b] ∧ SqL K H p (bs.map V.bl) ∧ Q (.int (bs.count b : Nat)) H
theorem mt_bcount : MtR X "list.count" (rCntB X.K) := by
  intro pins s σ H x xs v us Q I rx rxs h
  obtain ⟨p, bs, b, rfl, rfl, hs, q⟩ := h
  cases rx
  obtain ⟨u, rfl, ru⟩ := rxs.one
  cases ru
  obtain ⟨its, rv, ⟨⟨cls, dd, data, sl⟩, n, ho, hc, hdn, hd⟩, hlen⟩ := I.list hs
  simp only at hc hd
  subst hc hd
  have hi := bools_of rv
  subst hi
  refine call_meets PySem.F.slot_list_count ⟨_, ho, rfl⟩ PySem.F.entry_list_count (PySem.F.args_list_count_2 _ _)
    (SeqAt.list_countAt p (bs.map Value.bool).toArray n dd sl (.bool b) (eqt b)) ⟨ho, fun y hy => ?_, ?_⟩
  · have hy' : y ∈ bs.map Value.bool := by simpa using hy
    obtain ⟨c, _, rfl⟩ := List.mem_map.mp hy'
    exact eqAt_V (y := .bl c) (x := .bl b) rfl rfl rfl rfl
  · refine ⟨.int (bs.count b : Nat), H, I.tok _, ⟨s.toks, ?_⟩, q⟩
    show Value.int (((bs.map Value.bool).toArray.toList.countP (eqt b) : Nat) : Int) s.toks = Value.int ((bs.count b : Nat) : Int) s.toks
    rw [show (bs.map Value.bool).toArray.toList = bs.map Value.bool by simp, eqt_count]
end
/-! ### own exceptions as values -/
structure ExV (K : PySem.W.Frag) (C : Addr) : Prop where
  ox : OexC K C
  cl : (PySem.W.clsIn K C).isSome = true
  ga : PySem.W.findIn K (.ref C) "__getattribute__" = some (some (.builtin "BaseException.__getattribute__"))
  gg : PySem.W.findIn K (.ref C) "__getattr__" = some none
  ha : PySem.W.findIn K (.ref C) "__class__" = some (some (.builtin "object.__class__"))
  hn : PySem.W.specialIn K (.builtin "object.__class__") "__get__" = some (some (.builtin "getset_descriptor.__get__"))
  ht : PySem.W.takesIn K (.builtin "object.__class__") = some true
  hm : PySem.W.mroIn K C (.type "object") = some true
  hd : PySem.W.hasDictIn K C = true
def ExAt (H : Hp) (a C : Addr) (d : Option Addr) : Prop := H a = some (exo a C d) ∧ (d = none ∨ ∃ dd fs, d = some dd ∧ H dd = some (exd dd fs))
theorem ExAt.same {H H' : Hp} {a C : Addr} {d : Option Addr} (s : Same H H') (x : ExAt H a C d) : ExAt H' a C d := ⟨s _ _ x.1, by
  rcases x.2 with h | ⟨dd, fs, h1, h2⟩
  · exact .inl h
  · exact .inr ⟨dd, fs, h1, s _ _ h2⟩⟩
theorem exInst {P : Program} {w : World} {H : Hp} {h : Heap} {a C : Addr} {d : Option Addr} (hok : HOk P w H h) (x : ExAt H a C d) : ∃ ox od, PySem.W.InstAt h a ox C od := by
  obtain ⟨t1, e⟩ := exo_at hok x.1
  rcases x.2 with rfl | ⟨dd, fs, rfl, h2⟩
  · exact ⟨_, none, e, rfl, rfl, trivial⟩
  · obtain ⟨mA, hn, _⟩ := exd_at hok h2
    obtain ⟨od, ho, _⟩ := lookIn_ns hn
    exact ⟨_, some od, e, rfl, rfl, ho⟩
section
variable {X : Cx}
def rIsV (K : PySem.W.Frag) : List V → Hp → VK → Prop := fun xs H Q => ∃ (a C : Addr) (d : Option Addr) (c : V) (cv : Value) (b : Bool), xs = [.ref a, c] ∧ ExAt H a C d ∧ ExV K C ∧ ClsV c cv ∧ PySem.W.kitOne K (.ref C) cv = some b ∧ Q (.bl b) H
theorem call_isV : CallR X (.builtin "isinstance") (rIsV X.K) := by
  intro pins s σ H xs us Q I r h
  obtain ⟨a, C, d, c, cv, b, rfl, x, T, k, e, q⟩ := h
  obtain ⟨u1, u2, rfl, r1, r2⟩ := vals2 r
  cases (show u1 = Value.ref a from r1)
  have e2 := k.eq r2
  subst e2
  obtain ⟨ox, od, J⟩ := exInst I.hok x
  exact PySem.W.kia_one (PySem.W.kitx_exc T.cl T.ga T.gg T.ox.exC T.ha T.hn T.ht T.hm) I.kIn J e (fun z => nomatch z) fun tk => ⟨.bl b, H, I.tok tk, rfl, q⟩
variable {C fI : Addr} {k : Nat} {fd : FuncData} {ps : List Str} {sp : Sp}
/-- an own exception made, and held as a value -/
theorem run_exv' {ds : List Value} {dvs : List V} (hd : Vals dvs ds) {pins : List (Addr × Obj)} {σ : L2.St} {H1 : Hp} {s1 : Shared} {Q : VK} {vs : List V} {us : List Value} (T : ExV X.K C) (iC : PySem.W.findIn X.K (.ref C) "__init__" = some (some (.ref fI))) (tI : PySem.W.typeIn X.K (.ref fI) = some (.type "function"))
    (F1 : FnOk X.prog X.w X.K X.mg X.base CX0 k fI fd ps sp) (hr : Room (k + 1) X.A) (hb : Binds X.K fd ps ds) (I1 : Inv X pins σ H1 s1) (r1 : Vals vs us) (hz : vs.length ≤ 1000)
    (hq1 : ∀ a, H1 a = none → sp (.ref a :: (vs ++ dvs)) (upd H1 a (exo a C none)) (fun v H2 => v = .non ∧ Q (.ref a) H2) E0) : wpAny (model X.prog X.w) X.A (call (.ref C) us) (EP X pins σ Q) X.xe s1 := by
  obtain ⟨nm, q, N, bs, bm, sn, sub, ab, col, dd, k0, k1, k2, k3, k5, hC, hbm⟩ := T.ox.cls
  obtain ⟨hp, g, dr, tk, os⟩ := s1
  have hsz : hp.objs.size ≤ hp.objs.size + 1 := Nat.le_succ _
  have hn : H1 (hp.objs.size + 1) = none := I1.hok.fresh hsz
  have hq : sp (.ref (hp.objs.size + 1) :: (vs ++ dvs)) (upd H1 (hp.objs.size + 1) (exo (hp.objs.size + 1) C none)) (fun v H2 => v = .non ∧ Q (.ref (hp.objs.size + 1)) H2) E0 := hq1 (hp.objs.size + 1) hn
  have kk : ∀ b o, hp.get? b = some o → ((hp.push (PySem.W.kdv_tup us)).push (PySem.HandSPX.excO C hp.objs.size)).get? b = some o := fun b o e => Heap.get?_push_of_some _ (Heap.get?_push_of_some _ e)
  have hget : ((hp.push (PySem.W.kdv_tup us)).push (PySem.HandSPX.excO C hp.objs.size)).get? (hp.objs.size + 1) = some (PySem.HandSPX.excO C hp.objs.size) := by heap_get
  have I2 : Inv X pins σ (upd H1 (hp.objs.size + 1) (exo (hp.objs.size + 1) C none)) ⟨(hp.push (PySem.W.kdv_tup us)).push (PySem.HandSPX.excO C hp.objs.size), g, dr, tk, os⟩ :=
    I1.laid (t' := tk) (a := hp.objs.size + 1) (o := exo (hp.objs.size + 1) C none) (h' := (hp.push (PySem.W.kdv_tup us)).push (PySem.HandSPX.excO C hp.objs.size)) kk hsz (exo_ok hget)
  have r2 : Vals (V.ref (hp.objs.size + 1) :: (vs ++ dvs)) (Value.ref (hp.objs.size + 1) :: (us ++ ds)) := .cons rfl (r1.append hd)
  have hl : (Value.ref (hp.objs.size + 1) :: us ++ ds).length = ps.length := by
    have e := r2.length
    rw [F1.len _ _ _ _ hq] at e
    exact e.symm
  have hus : us.length ≤ sizeLine := by
    rw [← Paired.length r1, sizeLine_eq]
    omega
  refine wpAny_call (PySem.HandSPX.call_own F.excBase_ValueError (fun Y => PySem.HandSPX.refsVE_contains Y bm hbm) (I1.kIn _ _ hC) (PySem.W.looks_findIn I1.kIn iC) (fun self => PySem.W.bind_fn I1.kIn self tI) hus
    (codeAny_mono (F1.run _ X.stack _ _ ⟨Value.ref (hp.objs.size + 1) :: us, []⟩ (Value.ref (hp.objs.size + 1) :: (us ++ ds)) _ _ E0 (hr.make C us []) (I2.env0.make C us []) (hb _ (Value.ref (hp.objs.size + 1) :: us) I2.kIn hl) r2 hq) fun r s' hq' => ?_))
  cases r with
  | error er => exact False.elim hq'
  | ok fl =>
    cases fl with
    | ret u =>
      obtain ⟨v, H', I3, rv, ev, q3⟩ := I2.after hq'
      subst ev
      exact ⟨rv, ⟨V.ref (hp.objs.size + 1), H', I3, rfl, q3⟩⟩
    | next => exact False.elim hq'
    | brk => exact False.elim hq'
    | cont => exact False.elim hq'
theorem run_exv {pins : List (Addr × Obj)} {σ : L2.St} {H1 : Hp} {s1 : Shared} {Q : VK} {vs : List V} {us : List Value} (T : ExV X.K C) (iC : PySem.W.findIn X.K (.ref C) "__init__" = some (some (.ref fI))) (tI : PySem.W.typeIn X.K (.ref fI) = some (.type "function"))
    (F1 : FnOk X.prog X.w X.K X.mg X.base CX0 k fI fd ps sp) (hr : Room (k + 1) X.A) (hb : Binds X.K fd ps []) (I1 : Inv X pins σ H1 s1) (r1 : Vals vs us) (hz : vs.length ≤ 1000)
    (hq1 : ∀ a, H1 a = none → sp (.ref a :: vs) (upd H1 a (exo a C none)) (fun v H2 => v = .non ∧ Q (.ref a) H2) E0) : wpAny (model X.prog X.w) X.A (call (.ref C) us) (EP X pins σ Q) X.xe s1 :=
  run_exv' (ds := []) (dvs := []) .nil T iC tI F1 hr hb I1 r1 hz fun a ha => by
    rw [List.append_nil]
    exact hq1 a ha
def tExV (C : Addr) (sp : Sp) (ta : TA) : TE := fun σ H Q => ta σ H fun vs H1 => vs.length ≤ 1000 ∧ ∀ a, H1 a = none → sp (.ref a :: vs) (upd H1 a (exo a C none)) (fun v H2 => v = .non ∧ Q (.ref a) H2) E0
theorem pe_exv {x : Str} {p pos : Pos} {e : Expr} {es : List Expr} {ta : TA} (T : ExV X.K C) (iC : PySem.W.findIn X.K (.ref C) "__init__" = some (some (.ref fI))) (tI : PySem.W.typeIn X.K (.ref fI) = some (.type "function"))
    (F1 : FnOk X.prog X.w X.K X.mg X.base CX0 k fI fd ps sp) (hr : Room (k + 1) X.A) (hb : Binds X.K fd ps []) (hg : Gl X x) (hm : X.mg x = some (.ref C)) (ha : PA X (e :: es) ta) (hdb : (x == ("__debug__" : Str)) = false := by decide)
    (he : starEach (e :: es) X.env = (false, eval e X.env) :: starEach es X.env := by rfl) (hpl : (backTo pos (starEach es X.env)).any (·.1) = false := by rfl) : PE X (.Call (.Name x p) (e :: es) [] pos) (tExV C sp ta) := by
  refine ⟨fun pins s σ H Q I h => ?_⟩
  refine wpAny_Call_Name_kw (ld_glob I hg hm ?_ hdb)
  refine PySem.W.callWith_K (h₀ := X.base) I.ok.mod.kin T.ox.kC (thn (ha.run pos pins s σ H _ I h) fun us s1 ⟨vs, H1, I1, r1, hz, q1⟩ => ⟨I1.kIn, ?_⟩) he hpl
  exact run_exv T iC tI F1 hr hb I1 r1 hz q1
theorem pe_exv0 {x : Str} {p pos : Pos} (T : ExV X.K C) (iC : PySem.W.findIn X.K (.ref C) "__init__" = some (some (.ref fI))) (tI : PySem.W.typeIn X.K (.ref fI) = some (.type "function"))
    (F1 : FnOk X.prog X.w X.K X.mg X.base CX0 k fI fd ps sp) (hr : Room (k + 1) X.A) (hb : Binds X.K fd ps []) (hg : Gl X x) (hm : X.mg x = some (.ref C)) (hdb : (x == ("__debug__" : Str)) = false := by decide) : PE X (.Call (.Name x p) [] [] pos) (tExV C sp tNil) := by
  refine ⟨fun pins s σ H Q I h => ?_⟩
  refine wpAny_Call_Name_kw (ld_glob I hg hm ?_ hdb)
  exact PySem.W.callWith_K0 I.kIn T.ox.kC (run_exv (us := []) T iC tI F1 hr hb I .nil h.1 h.2)
/-- e.f of such an exception -/
def tExF (K : PySem.W.Frag) (n : Str) (te : TE) : TE := fun σ H Q => te σ H fun x H1 => ∃ (a C dd : Addr) (fs : List (Str × V)) (v : V), x = .ref a ∧ ExV K C ∧ PySem.W.findIn K (.ref C) n = some none ∧ H1 a = some (exo a C (some dd)) ∧ H1 dd = some (exd dd fs) ∧ fs.lookup n = some v ∧ Q v H1
theorem pe_exf {e : Expr} {te : TE} {pos : Pos} {n : Str} (he : PE X e te) (hb : attributeBase e n X.env (eval e X.env) = eval e X.env := by rfl) : PE X (.Attribute e n pos) (tExF X.K n te) := by
  refine ⟨fun pins s σ H Q I h => ?_⟩
  refine attr_of hb (thn (he.run pins s σ H _ I h) fun u s1 hh => ?_)
  obtain ⟨x, H1, I1, rx, a, C, dd, fs, v, ex, T, hno, ha, hd, l, q⟩ := hh
  subst ex
  obtain rfl : u = Value.ref a := rx
  obtain ⟨t1, ea⟩ := exo_at I1.hok ha
  obtain ⟨mA, hns, hr⟩ := exd_at I1.hok hd
  obtain ⟨od, ho, hl⟩ := lookIn_ns hns
  obtain ⟨u, hu, ru⟩ := RelO.some_of (v := v) (o := mA n) (by rw [← l]; exact hr n)
  have J : PySem.W.InstAt s1.heap a _ C (some od) := ⟨ea, rfl, rfl, ho⟩
  exact HandSPX.exc_get I1.kIn J T.ga T.gg T.ox.exC (PySem.W.findObj_own T.hd hno rfl (by rw [hl, hu])) (handed_of ru) ⟨v, H1, I1.tok _, ru, q⟩
end
end Law
namespace Law
open PySem PySem.Spec PyProof.Rows L2
def spIni (C : Addr) (f : Str) : Sp := fun vs H Q _ => ∃ (a : Addr) (v : V), vs = [.ref a, v] ∧ H a = some (exo a C none) ∧ ∀ dx, H dx = none → dx ≠ a → Q .non (upd (upd H dx (exd dx [(f, v)])) a (exo a C (some dx)))
def spPas : Sp := fun vs H Q _ => ∃ a : Addr, vs = [.ref a] ∧ Q .non H
structure Er1 (P : Program) (w : World) (K : PySem.W.Frag) (mg : Str → Option Value) (base : Heap) (x : Str) (C : Addr) (f : Str) : Prop where
  T : ExV K C
  m : mg x = some (.ref C)
  no : PySem.W.findIn K (.ref C) f = some none
  fn : ∃ fI fd ps, PySem.W.findIn K (.ref C) "__init__" = some (some (.ref fI)) ∧ PySem.W.typeIn K (.ref fI) = some (.type "function") ∧ FnOk P w K mg base CX0 1 fI fd ps (spIni C f) ∧ Binds K fd ps []
structure Er0 (P : Program) (w : World) (K : PySem.W.Frag) (mg : Str → Option Value) (base : Heap) (x : Str) (C : Addr) : Prop where
  T : ExV K C
  m : mg x = some (.ref C)
  fn : ∃ fI fd ps, PySem.W.findIn K (.ref C) "__init__" = some (some (.ref fI)) ∧ PySem.W.typeIn K (.ref fI) = some (.type "function") ∧ FnOk P w K mg base CX0 1 fI fd ps spPas ∧ Binds K fd ps []
end Law
namespace Law
open PySem PySem.Spec PyProof.Rows L2
section
variable {X : Cx} {a : Addr} {oe : Obj} {cls : Value} {d : Option Addr} {pn : List (Addr × Obj)}
/-- isinstance of the error that a suite holds, its dict there -/
def rIsS (K : PySem.W.Frag) (a : Addr) (cls : Value) (d : Option Addr) : List V → Hp → VK → Prop := fun xs H Q => ∃ (C dd : Addr) (fs : List (Str × V)) (c : V) (cv : Value) (b : Bool), xs = [.ref a, c] ∧ cls = .ref C ∧ ExV K C ∧ d = some dd ∧ H dd = some (.xd fs) ∧ ClsV c cv ∧ PySem.W.kitOne K (.ref C) cv = some b ∧ Q (.bl b) H
theorem call_isS (hz : Zc cls d oe) (hf : ∃ vs, oe.data = .fields vs) : CallR (X.suite a ((a, oe) :: pn)) (.builtin "isinstance") (rIsS X.K a cls d) := by
  intro pins s σ H xs us Q I r h
  obtain ⟨C, dd, fs, c, cv, b, rfl, rfl, T, rfl, hd, k, e, q⟩ := h
  obtain ⟨u1, u2, rfl, r1, r2⟩ := vals2 r
  cases (show u1 = Value.ref a from r1)
  have e2 := k.eq r2
  subst e2
  obtain ⟨hget, _⟩ := I.pin (a, oe) (List.mem_append.mpr (.inl List.mem_cons_self))
  obtain ⟨vs, hv⟩ := hf
  have hx : ObjOk X.prog X.w H s.heap dd (.xd fs) := I.hok dd _ hd
  obtain ⟨mA, hns, hr⟩ := hx
  obtain ⟨od, ho, hl⟩ := lookIn_ns hns
  have J : PySem.W.InstAt s.heap a oe C (some od) := ⟨hget, hz.1, by unfold PySem.W.notCls; rw [hv] <;> rfl, by rw [hz.2]; exact ho⟩
  exact PySem.W.kia_one (PySem.W.kitx_exc T.cl T.ga T.gg T.ox.exC T.ha T.hn T.ht T.hm) I.kIn J e (fun z => nomatch z) fun tk => ⟨.bl b, H, I.kept (t' := tk) fun _ _ z => z, rfl, q⟩
def tXs (K : PySem.W.Frag) (a : Addr) (cls : Value) (d : Option Addr) (n : Str) (te : TE) : TE := fun σ H Q => te σ H fun x H1 => x = .ref a ∧ ∃ (C dd : Addr) (fs : List (Str × V)) (v : V), cls = .ref C ∧ ExV K C ∧ PySem.W.findIn K (.ref C) n = some none ∧ d = some dd ∧ H1 dd = some (.xd fs) ∧ fs.lookup n = some v ∧ Q v H1
theorem pe_xs {e : Expr} {te : TE} {pos : Pos} {n : Str} (hz : Zc cls d oe) (hf : ∃ vs, oe.data = .fields vs) (he : PE (X.suite a ((a, oe) :: pn)) e te) (hb : attributeBase e n X.env (eval e X.env) = eval e X.env := by rfl) :
    PE (X.suite a ((a, oe) :: pn)) (.Attribute e n pos) (tXs X.K a cls d n te) := by
  refine ⟨fun pins s σ H Q I h => ?_⟩
  refine attr_of hb (thn (he.run pins s σ H _ I h) fun u s1 hh => ?_)
  obtain ⟨x, H1, I1, rx, ex, C, dd, fs, v, ec, T, hno, ed, ea, l, q⟩ := hh
  subst ex
  obtain rfl : u = Value.ref a := rx
  subst ec
  subst ed
  obtain ⟨ha, _⟩ := I1.pin (a, oe) (List.mem_append_left _ List.mem_cons_self)
  obtain ⟨vs, hd⟩ := hf
  have hx : ObjOk X.prog X.w H1 s1.heap dd (.xd fs) := I1.hok dd _ ea
  obtain ⟨mA, hns, hr⟩ := hx
  obtain ⟨od, ho, hl⟩ := lookIn_ns hns
  obtain ⟨u, hu, ru⟩ := RelO.some_of (v := v) (o := mA n) (by rw [← l]; exact hr n)
  have J : PySem.W.InstAt s1.heap a oe C (some od) := ⟨ha, hz.1, by unfold PySem.W.notCls; rw [hd] <;> rfl, by rw [hz.2]; exact ho⟩
  exact HandSPX.exc_get I1.kIn J T.ga T.gg T.ox.exC (PySem.W.findObj_own T.hd hno rfl (by rw [hl, hu])) (handed_of ru) ⟨v, H1, I1.tok _, ru, q⟩
end
theorem Er1.pmk {X : Cx} {x f : Str} {C : Addr} {p pos : Pos} {e : Expr} {es : List Expr} {ta : TA} (r : Er1 X.prog X.w X.K X.mg X.base x C f) (hr : Room 2 X.A) (ha : PA X (e :: es) ta) (hg : Gl X x := by rfl) (hdb : (x == ("__debug__" : Str)) = false := by decide)
    (he : starEach (e :: es) X.env = (false, eval e X.env) :: starEach es X.env := by rfl) (hpl : (backTo pos (starEach es X.env)).any (·.1) = false := by rfl) : PMk X (.Call (.Name x p) (e :: es) [] pos) (tMkO C (spIni C f) [] ta) := by
  obtain ⟨fI, fd, ps, h1, h2, h3, h4⟩ := r.fn
  exact pmk_oex r.T.ox h1 h2 h3 hr h4 .nil pass0 hg r.m ha hdb he hpl
end Law
namespace Law
open PySem PySem.Spec PyProof.Rows L2
theorem ba4 {a b : Bool} (h : (a && b) = true) : a = true ∧ b = true := Bool.and_eq_true_iff.mp h
theorem optT_ok2 {o : Option Bool} (h : optT o = true) : o = some true := by
  cases o with
  | none => cases h
  | some b =>
    cases b with
    | true => rfl
    | false => cases h
theorem clsB_ok {K : PySem.W.Frag} {C : Addr} (h : clsB K C = true) : ∃ nm q N bs bm sn sub ab col dd k0 k1 k2 k3 k5, K.lookup C = some (excClassObj nm q C N bs bm true sn sub ab col dd k0 k1 k2 k3 k5 "ValueError.__new__") ∧ PySem.HandSPX.refsVE bm = true := by
  unfold clsB at h
  split at h
  · rename_i dd cd sl ho
    split at h
    · rename_i C' bm k0 k1 k2 k3 n k5 hm hs
      obtain ⟨h1, h⟩ := ba4 h
      obtain ⟨h2, h⟩ := ba4 h
      obtain ⟨h3, h⟩ := ba4 h
      obtain ⟨h4, h5⟩ := ba4 h
      obtain ⟨nm, bs, mro, ns, qn, hd, sn, sb, ab, col, del⟩ := cd
      have e1 := of_decide_eq_true h1
      have e2 := of_decide_eq_true h2
      dsimp only at hm h3 h4
      have e3 : del = false := by simpa using h3
      have es : sl = #[k0, k1, k2, k3, some (.builtin n), k5] := by
        have z := congrArg List.toArray hs
        simpa using z
      subst e1 e2 e3 es hm h4
      exact ⟨nm, qn, ns, bs, bm, sn, sb, ab, col, dd, k0, k1, k2, k3, k5, ho, h5⟩
    · cases h
  · cases h
theorem exvB_ok {K : PySem.W.Frag} {C : Addr} (h : exvB K C = true) : ExV K C := by
  obtain ⟨h1, h⟩ := ba4 h
  obtain ⟨h2, h⟩ := ba4 h
  obtain ⟨h3, h⟩ := ba4 h
  obtain ⟨h4, h⟩ := ba4 h
  obtain ⟨h5, h⟩ := ba4 h
  obtain ⟨h6, h⟩ := ba4 h
  obtain ⟨h7, h⟩ := ba4 h
  obtain ⟨h8, h⟩ := ba4 h
  obtain ⟨h9, h⟩ := ba4 h
  obtain ⟨h10, h⟩ := ba4 h
  obtain ⟨h11, h⟩ := ba4 h
  obtain ⟨h12, h13⟩ := ba4 h
  exact ⟨⟨clsB_ok h1, He.eqO_ok h2, optT_ok2 h3, of_decide_eq_true h4, h5⟩, h6, He.eqO_ok h7, He.eqO_ok h8, He.eqO_ok h9, He.eqO_ok h10, optT_ok2 h11, optT_ok2 h12, h13⟩
section
variable {P : Program} {w : World} {K : PySem.W.Frag} {mg : Str → Option Value} {base : Heap}
theorem scE2 : FnScope ["self", "number"] ["self", "number"] (defScope s_BadLine_init) := ⟨rfl, rfl, rfl, by decide +kernel, rfl, by decide +kernel, by decide +kernel⟩
theorem ok_E2 {f C : Addr} {fd : FuncData} (F : Fun K "__init__" "BadLine.__init__" s_BadLine_init f fd) (O : OexC K C) (no : PySem.W.findIn K (.ref C) "number" = some none) : FnOk P w K mg base CX0 1 f fd ["self", "number"] (spIni C "number") := by
  refine F.ok scE2 (fun vs H Q E h => ?_) (fun cdv A outer s H vs Q E hr h => ?_)
  · obtain ⟨a, v, rfl, _⟩ := h
    rfl
  · obtain ⟨a, v, rfl, ha, k⟩ := h
    refine ⟨_, pss_one (ps_ost (pv 0) (pv 1)), ?_⟩
    exact ⟨_, rfl, _, rfl, a, C, rfl, O, no, .inl ⟨ha, fun dx hd ne => k dx hd ne⟩⟩
theorem scE1 : FnScope ["self", "part"] ["self", "part"] (defScope s_BadSystem_init) := ⟨rfl, rfl, rfl, by decide +kernel, rfl, by decide +kernel, by decide +kernel⟩
theorem ok_E1 {f C : Addr} {fd : FuncData} (F : Fun K "__init__" "BadSystem.__init__" s_BadSystem_init f fd) (O : OexC K C) (no : PySem.W.findIn K (.ref C) "part" = some none) : FnOk P w K mg base CX0 1 f fd ["self", "part"] (spIni C "part") := by
  refine F.ok scE1 (fun vs H Q E h => ?_) (fun cdv A outer s H vs Q E hr h => ?_)
  · obtain ⟨a, v, rfl, _⟩ := h
    rfl
  · obtain ⟨a, v, rfl, ha, k⟩ := h
    refine ⟨_, pss_one (ps_ost (pv 0) (pv 1)), ?_⟩
    exact ⟨_, rfl, _, rfl, a, C, rfl, O, no, .inl ⟨ha, fun dx hd ne => k dx hd ne⟩⟩
end
end Law
namespace L2
open PySem PySem.Spec PyProof.Rows
/-- a def that may raise, called by its name -/
structure ClX (P : Program) (w : World) (K : PySem.W.Frag) (mg : Str → Option Value) (base : Heap) (k : Nat) (x : Str) (f : Addr) (fd : FuncData) (ps : List Str) (sp : Sp) : Prop where
  ok : FnOk P w K mg base (L2.CX P w) k f fd ps sp
  b : Binds K fd ps []
  m : mg x = some (.ref f)
  kp : PySem.W.keepIn K (.ref f) = true
theorem ClX.callS {X : Cx} {W : WX} {k : Nat} {x : Str} {f : Addr} {fd : FuncData} {ps : List Str} {sp : Sp} {p pos : Pos} {e : Expr} {es : List Expr} {t : TA} (c : ClX X.prog X.w X.K X.mg X.base k x f fd ps sp) (hr : Room k X.A) (tk : Takes X W) (ha : PA X (e :: es) t) (hg : Gl X x := by rfl) (hdb : (x == ("__debug__" : Str)) = false := by decide)
    (he : starEach (e :: es) X.env = (false, eval e X.env) :: starEach es X.env := by rfl) (hpl : (backTo pos (starEach es X.env)).any (·.1) = false := by rfl) :
    PE X (.Call (.Name x p) (e :: es) [] pos) (tCallS sp (WE W) t) := pe_callS c.ok hr hg c.m c.kp c.b (fun σ => passAt tk σ) ha hdb he hpl
end L2
namespace L2
open PySem PySem.Spec PyProof.Rows
/-- a list == [] -/
def rEqL0 (K : PySem.W.Frag) : R2 := fun x y H Q => ∃ p q xs, x = .ref p ∧ y = .ref q ∧ SqL K H p xs ∧ SqL K H q [] ∧ Q (.bl xs.isEmpty) H
theorem op_eqL0 {X : Cx} (hu : X.A.units + 64 < cLine) : OpR X (compareOp .Eq) (rEqL0 X.K) := by
  intro pins s σ H x y v u Q I rx ry h
  obtain ⟨p, q, xs, rfl, rfl, hp, hq, k⟩ := h
  cases (show v = Value.ref p from rx)
  cases (show u = Value.ref q from ry)
  obtain ⟨us, r1, p1, _⟩ := I.list hp
  obtain ⟨ws, r2, p2, _⟩ := I.list hq
  cases r2
  cases xs with
  | nil =>
    cases r1
    exact SeqAt.eq_listAt (e := fun _ => true) p1.isList p2.isList rfl (by omega) (fun j h1 h2 => absurd h1 (Nat.not_lt_zero j)) ⟨.bl true, H, I, rfl, k⟩
  | cons x xs =>
    cases r1
    exact SeqAt.eq_list_lengthsAt p1.isList p2.isList rfl (by omega) ⟨.bl false, H, I, rfl, k⟩
end L2
namespace Law
open PySem PySem.Spec PyProof.Rows L2
theorem del_new {H : Hp} {a : Addr} {o : HO} (h : H a = none) : del (upd H a o) a = H := by
  funext b
  unfold del
  by_cases e : b = a
  · rw [if_pos e, e, h]
  · rw [if_neg e, upd_ne e]
theorem rz_same {H : Hp} {a dx : Addr} {o1 o2 o3 o4 : HO} (ha : H a = none) (hd : (upd H a o1) dx = none) : Same H (upd (del (upd (upd (upd H a o1) dx o2) a o3) a) dx o4) := fun b o e => by
  have nb : b ≠ a := ne_of_none e ha
  have z : upd H a o1 b = some o := by
    rw [upd_ne nb]
    exact e
  have nd : b ≠ dx := ne_of_none z hd
  rw [upd_ne nd, del_ne nb, upd_ne nb, upd_ne nd, upd_ne nb]
  exact e
theorem rz_free {H : Hp} {a dx : Addr} {o1 : HO} (hd : (upd H a o1) dx = none) (ne : dx ≠ a) : H dx = none := by
  rw [upd_ne ne] at hd
  exact hd
/-- an own error with one field, raised -/
theorem rz {H H0 : Hp} {B : Addr} {f : Str} {v : V} {E : Value → Option Addr → Hp → Prop} (s : Same H0 H) (k : ∀ d H', Same H0 H' → H0 d = none → H' d = some (.xd [(f, v)]) → E (.ref B) (some d) H') : tMkO B (spIni B f) [] (fun σ H Q => Q [v] H) [] H fun cls d H' => E cls d H' := by
  refine ⟨by simp, fun ax hax => ⟨ax, _, rfl, upd_same, fun dd hd ne => ⟨rfl, dd, [(_, _)], upd_same, by rw [upd_ne ne, upd_same], rz_free hd ne, ?_⟩⟩⟩
  exact k dd _ (s.trans (rz_same hax hd)) (s.free (rz_free hd ne)) upd_same
end Law
namespace Law
open PySem L2 TL
def oneB (fs : List (Int × Int)) : Bool := decide (OneOk fs)
def partV : Part → V
  | .inl s => .str s
  | .inr n => .int (n : Int)
theorem mvSm_fr {m : Mv3} (h : MvSm m) : FrOk m.1 := by
  obtain ⟨h1, h2, h3, h4, _, _⟩ := h
  have : (10 : Int) ^ 12 < 2 ^ 62 := by decide
  exact ⟨h3, by omega, by omega⟩
section
variable {P : Program} {w : World} {K : PySem.W.Frag} {mg : Str → Option Value} {base : Heap}
def rowI (b : Int) (l : List Int) : Bool := l.all fun i => decide (0 ≤ i) && decide (i ≤ b - 1)
def spRowI (K : PySem.W.Frag) : Sp := fun vs H Q _ => ∃ (b : Int) (a : Addr) (l : List Int), vs = [.int b, .ref a] ∧ SqT K H a (l.map V.int) ∧ l.length ≤ 16000000 ∧ ∀ H', Same H H' → Q (.bl (rowI b l)) H'
abbrev nIsRowBelowI : List Str := ["bound", "thing", "part"]
theorem scIsRowBelowI : FnScope nIsRowBelowI ["bound", "thing"] (defScope s_is_row_below) := ⟨rfl, rfl, rfl, by decide +kernel, rfl, by decide +kernel, by decide +kernel⟩
theorem ok_rowI {f : Addr} {fd : FuncData} {fcWithin : Addr} {fdcWithin : FuncData} (F : Fun K "is_row_below" "is_row_below" s_is_row_below f fd) (T : NmA mg) (cWithin : Cl P w K mg base CX0 2 "is_within" fcWithin fdcWithin ["low", "high", "thing"] (spWithin K)) : FnOk P w K mg base CX0 3 f fd ["bound", "thing"] (spRowI K) := by
  refine F.ok scIsRowBelowI (fun vs H Q E h => ?_) (fun cdv A' outer s H vs Q E hr h => ?_)
  · obtain ⟨b, a, l, rfl, _⟩ := h
    rfl
  · obtain ⟨b, a, l, rfl, hS, ll, k⟩ := h
    refine ⟨_, pss_one (ps_ret (pe_and (pe_callB call_isi (by rfl) T.isi (by decide +kernel) (pa_cons (pv 1) (pa_cons (pe_bltn (v := .ty "tuple") (u := .type "tuple") (by rfl) T.tuple (by decide +kernel) rfl) pa_nil))) (pe_one (pe_callB (cr_all rfl) (by rfl) T.all (by decide +kernel) (pa_cons (pe_lc (own := [("part", 2)]) (g := (gName 2)) (tt := tYes) rfl scIsRowBelowI.nd  (pi_tup (pv 1)) (blkOk_by (own := [("part", 2)]) (N := nIsRowBelowI) (sc := defScope s_is_row_below) (by decide +kernel)) (fun _ _ _ _ _ => (pg_name (i := 2) scIsRowBelowI.nd rfl (Or.inl rfl))) (fun _ _ _ _ _ => pts_nil) (fun _ _ _ _ _ => (cWithin.call (hr.mono (by decide)) (pa_cons pe_int (pa_cons (pe_op op_sub (pv 0) pe_int) (pa_cons (pv 2) pa_nil)))))) pa_nil))))), ?_⟩
    refine ⟨_, rfl, _, _, _, _, _, rfl, .ty "tuple", tyx_tup hS, kit_tt, _, rfl, iteT ?_⟩
    refine ⟨_, rfl, a, rfl, ⟨_, hS⟩, fun D hD => ?_⟩
    refine lc_tup (K := K) (a := a) (xs := l.map V.int) (fun i H' => Same H H' ∧ H' D = some (.lst (((l.take i).map fun i => decide (0 ≤ i) && decide (i ≤ b - 1)).map V.bl))) ⟨Same.new hD, upd_same⟩ (fun i H' _ h => h.1.sqT hS) ?_ ?_
    · rintro i x H' hi ⟨s1, h1⟩
      rw [List.getElem?_map] at hi
      obtain ⟨z, hz, rfl⟩ := Option.map_eq_some_iff.mp hi
      have il := (List.getElem?_eq_some_iff.mp hz).1
      refine ⟨rfl, _, rfl, _, _, rfl, rfl, _, rfl, _, _, _, rfl, .inl ⟨z, rfl, _, h1, ?_, s1.mut hD, ?_⟩⟩
      · rw [List.length_map, List.length_map, List.length_take, sizeLine_eq]
        omega
      · rw [upd_same, List.take_add_one, hz, List.map_append, List.map_append] <;> rfl
    · rintro H' ⟨s1, h1⟩
      rw [List.length_map, List.take_length] at h1
      refine ⟨D, _, rfl, SqL.of h1, ?_⟩
      rw [all_take]
      exact k H' s1
theorem rowI_lt {b : Int} {l : List Int} (h : ∀ i ∈ l, 0 ≤ i) : rowI b l = l.all fun s => decide (s < b) := by
  unfold rowI
  induction l with
  | nil => rfl
  | cons a l ih =>
    rw [List.all_cons, List.all_cons, ih fun i hi => h i (List.mem_cons_of_mem _ hi), decide_eq_true (h a List.mem_cons_self), Bool.true_and]
    congr 1
    exact decide_eq_decide.mpr (by omega)
def spMoveG (K : PySem.W.Frag) : Sp := fun vs H Q _ => ∃ (many : Int) (v : V) (m : Mv3), vs = [.int many, v] ∧ MvAt K H v m ∧ MvSm m ∧ m.2.length ≤ 16000000 ∧ ∀ H', Same H H' → Q (.bl (mvB many m)) H'
abbrev nIsMoveG : List Str := ["many", "thing", "share", "leads"]
theorem scIsMoveG : FnScope nIsMoveG ["many", "thing"] (defScope s_is_move) := ⟨rfl, rfl, rfl, by decide +kernel, rfl, by decide +kernel, by decide +kernel⟩
theorem ok_moveG {f : Addr} {fd : FuncData} {fcRowI : Addr} {fdcRowI : FuncData} {fcFrac : Addr} {fdcFrac : FuncData} (F : Fun K "is_move" "is_move" s_is_move f fd) (T : NmA mg) (cRowI : Cl P w K mg base CX0 3 "is_row_below" fcRowI fdcRowI ["bound", "thing"] (spRowI K)) (cFrac : Cl P w K mg base CX0 2 "is_fraction" fcFrac fdcFrac ["thing"] (spFrac K)) : FnOk P w K mg base CX0 4 f fd ["many", "thing"] (spMoveG K) := by
  refine F.ok scIsMoveG (fun vs H Q E h => ?_) (fun cdv A' outer s H vs Q E hr h => ?_)
  · obtain ⟨many, v, m, rfl, _⟩ := h
    rfl
  · obtain ⟨many, v, m, rfl, hM, sm, ll, k⟩ := h
    refine ⟨_, pss_cons (ps_if (PW.pt (pw_or (pt_not (pt_val (pe_callB call_isi (by rfl) T.isi (by decide +kernel) (pa_cons (pv 1) (pa_cons (pe_bltn (v := .ty "tuple") (u := .type "tuple") (by rfl) T.tuple (by decide +kernel) rfl) pa_nil))))) (pw_or1 (pt_cmpR op_ne (pe_callB call_len_seq (by rfl) T.len PySem.boot_len (pa_cons (pv 1) pa_nil)) pe_int (nomark _)))))
        (pss_one (ps_ret pe_bl)) pss_nil)
      (pss_cons (ps_asg (pv 1) (pg_tup (by rfl) (pgs_cons (pg_name (i := 2) scIsMoveG.nd rfl (Or.inl rfl)) (pgs_cons (pg_name (i := 3) scIsMoveG.nd rfl (Or.inl rfl)) pgs_nil))))
      (pss_one (ps_ret (pe_and (cFrac.call (hr.mono (by decide)) (pa_cons (pv 2) pa_nil)) (pe_and (pe_cmpR op_gt (pe_ix ix_tup (pv 2) pe_int (fun _ _ => rfl)) pe_int (nomark _)) (pe_and (cRowI.call (hr.mono (by decide)) (pa_cons (pv 0) (pa_cons (pv 3) pa_nil))) (pe_one (pe_cmpR op_eq (pe_callB call_len_seq (by rfl) T.len PySem.boot_len (pa_cons (pv 3) pa_nil)) (pv 0) (nomark _))))))))), ?_⟩
    obtain ⟨a, t, l, rfl, hA, hT, hL⟩ := hM
    obtain ⟨h1, h2, h3, h4, h5, h6⟩ := id sm
    refine ⟨_, rfl, _, _, _, _, _, rfl, .ty "tuple", tyx_tup hA, kit_tt, _, rfl, ?_⟩
    refine iteF ⟨_, rfl, a, _, rfl, .inr hA, rfl, _, rfl, iteF ?_⟩
    refine ⟨_, rfl, a, _, rfl, hA, rfl, _, _, rfl, _, _, rfl, rfl, ?_⟩
    refine ⟨_, rfl, t, _, _, rfl, hT, _, rfl, ?_⟩
    rw [decide_eq_true h3, h5]
    refine iteT ⟨_, rfl, t, _, _, _, rfl, rfl, hT, at0 _ _, _, _, rfl, rfl, _, rfl, ?_⟩
    have e0 : (m.1.1 > 0) = (0 < m.1.1) := rfl
    by_cases p : 0 < m.1.1
    · rw [decide_eq_true (show m.1.1 > 0 from p)]
      refine iteT ⟨_, rfl, _, rfl, _, l, m.2, rfl, hL, ll, fun H' s1 => ⟨_, rfl, ?_⟩⟩
      rw [rowI_lt fun i hi => (h6 i hi).1]
      have kk := k H' s1
      unfold mvB at kk
      rw [decide_eq_true p, Bool.true_and] at kk
      cases ha : m.2.all fun s => decide (s < many) with
      | false =>
        rw [ha, Bool.false_and] at kk
        exact iteF kk
      | true =>
        rw [ha, Bool.true_and] at kk
        refine iteT ⟨_, rfl, l, _, rfl, .inr (s1.sqT hL), _, rfl, rfl, ?_⟩
        rw [List.length_map]
        have : decide (V.int ((m.2.length : Nat) : Int) = V.int many) = decide (((m.2.length : Nat) : Int) = many) := decide_eq_decide.mpr ⟨fun z => V.int.inj z, fun z => by rw [z]⟩
        show Q (.bl (decide (V.int ((m.2.length : Nat) : Int) = V.int many))) H'
        rw [this]
        exact kk
    · rw [decide_eq_false (show ¬ m.1.1 > 0 from p)]
      have kk := k H (Same.refl H)
      unfold mvB at kk
      rw [decide_eq_false p, Bool.false_and] at kk
      exact iteF kk
def spSInitX (K : PySem.W.Frag) (C B : Addr) : Sp := fun vs H Q E => ∃ (p dx : Addr) (many : Int) (mv : Addr) (ms : List Mv3), vs = [.ref p, .int many, .ref mv] ∧ H p = some (.ins C dx []) ∧ MvsAt K H mv ms ∧ (∀ m ∈ ms, MvSm m ∧ m.2.length ≤ 16000000) ∧
  (∀ pt d H', wrongF oneB many ms = some pt → Same H H' → H d = none → H' d = some (.xd [("part", partV pt)]) → E (.ref B) (some d) H') ∧
  (∀ H', wrongF oneB many ms = none → (∀ b o, b ≠ p → H b = some o → H' b = some o) → H' p = some (.ins C dx (sysF many.toNat mv)) → Q .non H')
abbrev nSystemInitX : List Str := ["self", "many", "moves", "number", "move", "share", "_"]
theorem scSystemInitX : FnScope nSystemInitX ["self", "many", "moves"] (defScope s_System_init) := ⟨rfl, rfl, rfl, by decide +kernel, rfl, by decide +kernel, by decide +kernel⟩
theorem ok_sinitX {f : Addr} {fd : FuncData} {fcWithin : Addr} {fdcWithin : FuncData} {fcMoveG : Addr} {fdcMoveG : FuncData} {fcOne : Addr} {fdcOne : FuncData} {C B : Addr} (F : Fun K "__init__" "System.__init__" s_System_init f fd) (T : NmA mg) (cWithin : Cl P w K mg base CX0 2 "is_within" fcWithin fdcWithin ["low", "high", "thing"] (spWithin K)) (cMoveG : Cl P w K mg base CX0 4 "is_move" fcMoveG fdcMoveG ["many", "thing"] (spMoveG K)) (cOne : Cl P w K mg base CX0 2 "are_one_together" fcOne fdcOne ["fractions"] (spOne K)) (S : SysT K mg C) (eBS : Er1 P w K mg base "BadSystem" B "part") : FnOk P w K mg base (L2.CX P w) 5 f fd ["self", "many", "moves"] (spSInitX K C B) := by
  refine F.okX scSystemInitX (fun vs H Q E h => ?_) (fun cdv A' outer s H vs Q E hr h => ?_)
  · obtain ⟨p, dx, many, mv, ms, rfl, _⟩ := h
    rfl
  · obtain ⟨p, dx, many, mv, ms, rfl, hp, hMv, hm, kE, kQ⟩ := h
    have hu := hu_of hr
    refine ⟨_, pss_cons (ps_if (pt_not (pt_val (cWithin.call (hr.mono (by decide)) (pa_cons pe_int (pa_cons pe_int (pa_cons (pv 1) pa_nil))))))
        (pss_one (ps_raise rfl (takes_of rfl rfl rfl rfl) (eBS.pmk (hr.mono (by decide)) (pa_cons pe_str pa_nil)))) pss_nil)
      (pss_cons (ps_if (PW.pt (pw_or (pt_not (pt_val (pe_callB call_isi (by rfl) T.isi (by decide +kernel) (pa_cons (pv 2) (pa_cons (pe_bltn (v := .ty "tuple") (u := .type "tuple") (by rfl) T.tuple (by decide +kernel) rfl) pa_nil))))) (pw_or1 (pt_not (pt_chain op_le op_le pe_int (pe_callB call_len_seq (by rfl) T.len PySem.boot_len (pa_cons (pv 2) pa_nil)) pe_int)))))
        (pss_one (ps_raise rfl (takes_of rfl rfl rfl rfl) (eBS.pmk (hr.mono (by decide)) (pa_cons pe_str pa_nil)))) pss_nil)
      (pss_cons (ps_for (passes_of rfl) rfl (pi_enumT (by rfl) T.enum (pa_cons (pv 2) pa_nil)) (pg_tup (by rfl) (pgs_cons (pg_name (i := 3) scSystemInitX.nd rfl (Or.inl rfl)) (pgs_cons (pg_name (i := 4) scSystemInitX.nd rfl (Or.inl rfl)) pgs_nil)))
        (pss_one (ps_if (pt_not (pt_val (cMoveG.call (hr.mono (by decide)) (pa_cons (pv 1) (pa_cons (pv 4) pa_nil)))))
          (pss_one (ps_raise rfl (takes_of rfl rfl rfl rfl) (eBS.pmk (hr.mono (by decide)) (pa_cons (pv 3) pa_nil)))) pss_nil)))
      (pss_cons (ps_if (pt_not (pt_val (cOne.call (hr.mono (by decide)) (pa_cons (pe_lc (own := [("share", 5), ("_", 6)]) (g := (gTup K 2 (gCons (gName 5) (gCons (gName 6) gNil)))) (tt := tYes) rfl scSystemInitX.nd  (pi_tup (pv 2)) (blkOk_by (own := [("share", 5), ("_", 6)]) (N := nSystemInitX) (sc := defScope s_System_init) (by decide +kernel)) (fun _ _ _ _ _ => (pg_tup (by rfl) (pgs_cons (pg_name (i := 5) scSystemInitX.nd rfl (Or.inl rfl)) (pgs_cons (pg_name (i := 6) scSystemInitX.nd rfl (Or.inl rfl)) pgs_nil)))) (fun _ _ _ _ _ => pts_nil) (fun _ _ _ _ _ => (pv 5))) pa_nil))))
        (pss_one (ps_raise rfl (takes_of rfl rfl rfl rfl) (eBS.pmk (hr.mono (by decide)) (pa_cons pe_str pa_nil)))) pss_nil)
      (pss_cons (ps_fld (pv 0) (pv 1) rfl)
      (pss_one (ps_fld (pv 0) (pv 2) rfl)))))), ?_⟩
    obtain ⟨vs, hV, hM⟩ := hMv
    have hvl : vs.length = ms.length := hM.1
    have wr : wrongF oneB many ms = if ¬ (1 ≤ many ∧ many ≤ 12) then some (.inl "many") else if ¬ (1 ≤ ms.length ∧ ms.length ≤ 24) then some (.inl "moves") else
      match badMv many ms with
      | some i => some (.inr i)
      | none => if oneB (ms.map (·.1)) = true then none else some (.inl "shares") := rfl
    refine ⟨_, rfl, 1, 12, _, rfl, .inl ⟨many, rfl, _, rfl, ?_⟩⟩
    by_cases c1 : 1 ≤ many ∧ many ≤ 12
    · rw [decide_eq_true c1.1, decide_eq_true c1.2]
      rw [if_neg (fun z => z c1)] at wr
      refine iteF ⟨_, rfl, _, _, _, _, _, rfl, .ty "tuple", tyx_tup hV, kit_tt, _, rfl, iteF ⟨_, rfl, mv, _, rfl, .inr hV, _, _, rfl, rfl, _, rfl, ?_⟩⟩
      rw [hvl]
      by_cases c2 : 1 ≤ ms.length ∧ ms.length ≤ 24
      · rw [if_neg (fun z => z c2)] at wr
        rw [decide_eq_true (show (1 : Int) ≤ ((ms.length : Nat) : Int) by omega)]
        refine iteT ⟨_, _, rfl, rfl, _, rfl, ?_⟩
        rw [decide_eq_true (show ((ms.length : Nat) : Int) ≤ 24 by omega)]
        refine iteF ?_
        refine ⟨_, rfl, mv, vs, rfl, hV, for_it walk_enumT (fun i σ H' => Same H H' ∧ (∀ j m, j < i → ms[j]? = some m → mvB many m = true) ∧ ∃ u v : Option V, σ = [some (.ref p), some (.int many), some (.ref mv), u, v, none, none]) ⟨Same.refl H, fun j m hj => absurd hj (Nat.not_lt_zero _), none, none, rfl⟩ (fun i σ H' _ h => h.1.sqT hV) ?_ ?_⟩
        · rintro i x σ H1 H2 hi ⟨s1, gd, u, v, rfl⟩ ⟨t, y, rfl, ht, rfl, hy⟩
          obtain ⟨m, hmi, hA⟩ := hM.2 i y hy
          have s2 : Same H (upd H1 t (.tup [.int (i : Nat), y])) := fun b o e => Same.new ht b o (s1 b o e)
          refine ⟨t, _, rfl, SqT.of upd_same, rfl, _, _, rfl, _, _, rfl, rfl, ?_⟩
          obtain ⟨sm, ml⟩ := hm m (List.mem_of_getElem? hmi)
          refine ⟨_, rfl, _, rfl, many, _, m, rfl, hA.same s2, sm, ml, fun H3 s3 => ⟨_, rfl, ?_⟩⟩
          cases g : mvB many m with
          | true =>
            refine iteF ⟨s2.trans s3, fun j m' hj hm' => ?_, _, _, rfl⟩
            by_cases z : j < i
            · exact gd j m' z hm'
            · rw [show j = i by omega, hmi] at hm'
              rw [← Option.some.inj hm']
              exact g
          | false =>
            have bm : badMv many ms = some i := by
              refine firstNo_of (by rw [List.getElem?_map, hmi]; show some (if mvB many m = true then some m else none) = _; rw [g] <;> rfl) fun j hj => ?_
              have jl : j < ms.length := Nat.lt_trans hj (List.getElem?_eq_some_iff.mp hmi).1
              refine ⟨ms[j], ?_⟩
              rw [List.getElem?_map, List.getElem?_eq_getElem jl]
              show some (if mvB many ms[j] = true then some ms[j] else none) = _
              rw [if_pos (gd j _ hj (List.getElem?_eq_getElem jl))]
            rw [bm] at wr
            exact iteT ⟨_, rfl, rz (s2.trans s3) fun d H' s hd hx => kE (.inr i) d H' wr s hd hx⟩
        · rintro σ H1 ⟨s1, gd, u, v, rfl⟩
          have bm : badMv many ms = none := by
            refine firstNo_all fun j o hj => ?_
            rw [List.getElem?_map] at hj
            obtain ⟨m, hmj, e⟩ := Option.map_eq_some_iff.mp hj
            have jl := (List.getElem?_eq_some_iff.mp hmj).1
            refine ⟨m, ?_⟩
            rw [← e, if_pos (gd j m (by omega) hmj)]
          rw [bm] at wr
          change wrongF oneB many ms = (if oneB (ms.map (·.1)) = true then none else some (.inl "shares")) at wr
          refine ⟨_, rfl, mv, rfl, ⟨_, s1.sqT hV⟩, fun D hD => ?_⟩
          refine lc_tup (K := K) (a := mv) (xs := vs) (fun i H' => Same H1 H' ∧ ∃ acc, H' D = some (.lst acc) ∧ FrsIn K H' acc ((ms.take i).map (·.1))) ⟨Same.new hD, [], upd_same, rfl, fun i v hv => by simp at hv⟩ (fun i H' _ h => (s1.trans h.1).sqT hV) ?_ ?_
          · rintro i x H2 hi ⟨s2, acc, h1, h2⟩
            obtain ⟨m, hmi, a, t, l, rfl, hA, hT, hL⟩ := hM.2 i x hi
            have hil : i < ms.length := (List.getElem?_eq_some_iff.mp hmi).1
            have s3 := s1.trans s2
            have hz : acc.length = i := by
              have z := h2.1
              rw [List.length_map, List.length_take] at z
              omega
            refine ⟨a, _, rfl, s3.sqT hA, rfl, _, _, rfl, _, _, rfl, rfl, ?_⟩
            refine ⟨rfl, _, rfl, acc, h1, small1000 (by omega), s2.mut hD, _, upd_same, ?_⟩
            rw [List.take_add_one, hmi, List.map_append]
            exact FrsIn.snoc h2 h1 ⟨t, rfl, s3.sqT hT⟩
          · rintro H2 ⟨s2, acc, h1, h2⟩
            rw [hvl, List.take_length] at h2
            refine ⟨D, ms.map (·.1), rfl, ⟨acc, SqL.of h1, h2⟩, by rw [List.length_map]; exact c2.2, ?_, fun H3 s3 => ⟨_, rfl, ?_⟩⟩
            · intro f hf
              obtain ⟨m, hmm, rfl⟩ := List.mem_map.mp hf
              exact mvSm_fr (hm m hmm).1
            have s4 := (s1.trans s2).trans s3
            by_cases o1 : OneOk (ms.map (·.1))
            · rw [decide_eq_true o1]
              rw [if_pos (show oneB (ms.map (·.1)) = true from decide_eq_true o1)] at wr
              refine iteF ⟨_, rfl, _, rfl, p, C, dx, [], rfl, s4 _ _ hp, S.cl, S.nK, (by show 0 < 1000; decide), _, rfl, _, rfl, p, C, dx, _, rfl, upd_same, S.cl, S.nM, (by show 1 < 1000; decide), ?_⟩
              rw [upd_upd]
              refine kQ _ wr (fun b o n e => by rw [upd_ne n]; exact s4 b o e) ?_
              rw [upd_same]
              unfold sysF
              rw [show ((many.toNat : Nat) : Int) = many by omega]
            · rw [decide_eq_false o1]
              rw [if_neg (show ¬ oneB (ms.map (·.1)) = true from fun z => o1 (of_decide_eq_true z))] at wr
              exact iteT (rz s4 fun d H' s hd hx => kE (.inl "shares") d H' wr s hd hx)
      · rw [if_pos c2] at wr
        by_cases c3 : 1 ≤ ms.length
        · rw [decide_eq_true (show (1 : Int) ≤ ((ms.length : Nat) : Int) by omega)]
          refine iteT ⟨_, _, rfl, rfl, _, rfl, ?_⟩
          rw [decide_eq_false (show ¬ ((ms.length : Nat) : Int) ≤ 24 by omega)]
          exact iteT (rz (Same.refl H) fun d H' s hd hx => kE (.inl "moves") d H' wr s hd hx)
        · rw [decide_eq_false (show ¬ (1 : Int) ≤ ((ms.length : Nat) : Int) by omega)]
          exact iteF ⟨_, rfl, iteT (rz (Same.refl H) fun d H' s hd hx => kE (.inl "moves") d H' wr s hd hx)⟩
    · rw [if_pos c1] at wr
      have : (decide (1 ≤ many) && decide (many ≤ 12)) = false := by
        cases h1 : decide (1 ≤ many) with
        | false => rfl
        | true =>
          cases h2 : decide (many ≤ 12) with
          | false => rfl
          | true => exact absurd ⟨of_decide_eq_true h1, of_decide_eq_true h2⟩ c1
      rw [this]
      exact iteT (rz (Same.refl H) fun d H' s hd hx => kE (.inl "many") d H' wr s hd hx)
end
end Law

namespace L2
open PySem PySem.Spec PyProof.Rows TL
theorem units65 {k : Nat} {A : Around} (r : Room k A) : A.units + 65 < cLine := by have := r.un; omega
theorem lay_of (n : Nat) : ∀ ds : List PyData, (∀ d ∈ ds, d.canLay0 = true ∧ d.depth ≤ n) → PyData.canLayAll0 ds = true ∧ PyData.depthAll ds ≤ n
  | [], _ => by simp [PyData.canLayAll0, PyData.depthAll]
  | d :: ds, h => by
    obtain ⟨h1, h2⟩ := h d List.mem_cons_self
    obtain ⟨h3, h4⟩ := lay_of n ds fun e he => h e (List.mem_cons_of_mem _ he)
    rw [PyData.canLayAll0, PyData.depthAll, h1, h3]
    exact ⟨rfl, Nat.max_le.mpr ⟨h2, h4⟩⟩
theorem dpAll_of {K : PySem.W.Frag} {H : Hp} : ∀ {vs : List V} {ds : List PyData}, vs.length = ds.length → (∀ (j : Nat) (v : V), vs[j]? = some v → ∃ d, ds[j]? = some d ∧ Dp K H v d) → DpAll K H vs ds
  | [], [], _, _ => .nil
  | [], _ :: _, h, _ => by simp at h
  | _ :: _, [], h, _ => by simp at h
  | v :: vs, d :: ds, h, g => by
    obtain ⟨e, e1, e2⟩ := g 0 v rfl
    cases e1
    exact .cons e2 (dpAll_of (by simpa using h) fun j x hx => g (j + 1) x hx)
end L2
namespace Law
open PySem L2 TL
theorem mk_same {C : Addr} {H H' : Hp} {y dy : Addr} (hy : H y = none) (hdy : H dy = none) (kC : ∀ b o, b ≠ y → (upd (upd H dy (.own y)) y (.ins C dy [])) b = some o → H' b = some o) : Same H H' := fun b o e =>
  kC b o (ne_of_none e hy) (by rw [upd_ne (ne_of_none e hy), upd_ne (ne_of_none e hdy)]; exact e)
theorem mk_same0 {C : Addr} {H : Hp} {y dy : Addr} (hy : H y = none) (hdy : H dy = none) : Same H (upd (upd H dy (.own y)) y (.ins C dy [])) := fun b o e => by
  rw [upd_ne (ne_of_none e hy), upd_ne (ne_of_none e hdy)]
  exact e
/-- what is read of a line, the first one or another -/
def TellP (K : PySem.W.Frag) (H : Hp) (j : Nat) (x : Str) (v : V) : Prop := if j = 0 then v = optV (headO x) else (moveO x = none ∧ v = .non) ∨ ∃ m, moveO x = some m ∧ MvAt K H v m
theorem TellP.same {K : PySem.W.Frag} {H H' : Hp} {j : Nat} {x : Str} {v : V} (s : Same H H') (h : TellP K H j x v) : TellP K H' j x v := by
  unfold TellP at h ⊢
  by_cases e : j = 0
  · rw [if_pos e] at h ⊢
    exact h
  · rw [if_neg e] at h ⊢
    rcases h with h | ⟨m, h1, h2⟩
    · exact .inl h
    · exact .inr ⟨m, h1, h2.same s⟩
theorem TellP.upd {K : PySem.W.Frag} {H : Hp} {D : Addr} {acc : List V} {o : HO} {j : Nat} {x : Str} {v : V} (hD : H D = some (.lst acc)) (h : TellP K H j x v) : TellP K (upd H D o) j x v := by
  unfold TellP at h ⊢
  by_cases e : j = 0
  · rw [if_pos e] at h ⊢
    exact h
  · rw [if_neg e] at h ⊢
    rcases h with h | ⟨m, h1, h2⟩
    · exact .inl h
    · exact .inr ⟨m, h1, mvAt_upd hD h2⟩
def optD : Option Int → PyData
  | some i => .int i
  | none => .none
def optM : Option Mv3 → PyData
  | some m => mvD m
  | none => .none
def tellsD : List Str → List PyData
  | [] => []
  | h :: r => optD (headO h) :: r.map fun x => optM (moveO x)
theorem dp_opt {K : PySem.W.Frag} {H : Hp} (o : Option Int) : Dp K H (optV o) (optD o) := by
  cases o with
  | none => exact .non
  | some i => exact .int i
theorem lay_optD (o : Option Int) : (optD o).canLay0 = true ∧ (optD o).depth ≤ 2 := by
  cases o <;> exact ⟨by simp only [optD, PyData.canLay0], by simp only [optD, PyData.depth]; omega⟩
theorem lay_optM (o : Option Mv3) : (optM o).canLay0 = true ∧ (optM o).depth ≤ 2 := by
  cases o with
  | none => exact ⟨by simp only [optM, PyData.canLay0], by simp only [optM, PyData.depth]; omega⟩
  | some m => exact lay_mvD m
theorem lay_tells (ls : List Str) : (PyData.list (tellsD ls)).canLay0 = true ∧ (PyData.list (tellsD ls)).depth ≤ 3 := by
  have h := lay_of 2 (tellsD ls) fun d hd => by
    cases ls with
    | nil => cases hd
    | cons h r =>
      rcases List.mem_cons.mp hd with rfl | hd
      · exact lay_optD _
      · obtain ⟨x, _, rfl⟩ := List.mem_map.mp hd
        exact lay_optM _
  rw [PyData.canLay0, PyData.depth]
  exact ⟨h.1, by omega⟩
theorem eqv_optD (o : Option Int) : PyData.eqv (optD o) .none = o.isNone := by cases o <;> simp [optD, PyData.eqv]
theorem eqv_optM (o : Option Mv3) : PyData.eqv (optM o) .none = o.isNone := by
  cases o with
  | none => simp [optM, PyData.eqv]
  | some m => simp [optM, mvD, PyData.eqv]
/-- the place of the first line that is not read -/
def noneF : List Str → Option Nat
  | [] => none
  | h :: r => match headO h with
    | none => some 0
    | some _ => (firstNo (r.map moveO)).map (· + 1)
theorem noneF_cons (h : Str) (r : List Str) : noneF (h :: r) = match headO h with
    | none => some 0
    | some _ => (firstNo (r.map moveO)).map (· + 1) := rfl
def endF : List Str → Out
  | [] => .line 1
  | a :: r => madeF oneB ((headO a).getD 0) ((r.map moveO).filterMap id)
theorem tells_at {ls : List Str} {j : Nat} {d : PyData} (h : (tellsD ls)[j]? = some d) : ∃ x, ls[j]? = some x ∧ d = if j = 0 then optD (headO x) else optM (moveO x) := by
  cases ls with
  | nil => simp [tellsD] at h
  | cons a r =>
    cases j with
    | zero =>
      cases h
      exact ⟨a, rfl, rfl⟩
    | succ j =>
      have h : (r.map fun x => optM (moveO x))[j]? = some d := h
      rw [List.getElem?_map] at h
      obtain ⟨x, h1, h2⟩ := Option.map_eq_some_iff.mp h
      exact ⟨x, h1, h2.symm⟩
theorem tells_len (ls : List Str) : (tellsD ls).length = ls.length := by
  cases ls with
  | nil => rfl
  | cons a r => show (r.map _).length + 1 = _; rw [List.length_map] <;> rfl
theorem any_map {α β : Type} (f : α → β) (p : β → Bool) : ∀ l : List α, (l.map f).any p = l.any fun x => p (f x)
  | [] => rfl
  | x :: l => by rw [List.map_cons, List.any_cons, List.any_cons, any_map f p l]
theorem tells_any (ls : List Str) : ((tellsD ls).any fun z => PyData.eqv z .none) = (noneF ls).isSome := by
  cases ls with
  | nil => rfl
  | cons h r =>
    show (PyData.eqv (optD (headO h)) .none || _) = _
    rw [eqv_optD, noneF_cons]
    cases hh : headO h with
    | none => rfl
    | some many =>
      show (false || _) = ((firstNo (r.map moveO)).map (· + 1)).isSome
      rw [Bool.false_or, any_map]
      clear hh
      induction r with
      | nil => rfl
      | cons a r ih =>
        rw [List.any_cons, eqv_optM]
        cases hm : moveO a with
        | none => rw [List.map_cons, hm] <;> rfl
        | some m =>
          rw [List.map_cons, hm, ih]
          show (false || _) = (((firstNo (r.map moveO)).map (· + 1)).map (· + 1)).isSome
          rw [Bool.false_or]
          cases firstNo (r.map moveO) <;> rfl
theorem none_at {ls : List Str} {i : Nat} (h : noneF ls = some i) : (∃ z, (tellsD ls)[i]? = some z ∧ PyData.eqv z .none = true) ∧ ∀ (j : Nat) (z : PyData), j < i → (tellsD ls)[j]? = some z → PyData.eqv z .none = false := by
  cases ls with
  | nil => cases h
  | cons a r =>
    rw [noneF_cons] at h
    cases hh : headO a with
    | none =>
      rw [hh] at h
      cases h
      exact ⟨⟨_, rfl, by rw [eqv_optD, hh] <;> rfl⟩, fun j z hj => absurd hj (Nat.not_lt_zero _)⟩
    | some many =>
      rw [hh] at h
      obtain ⟨k, h1, rfl⟩ := Option.map_eq_some_iff.mp (show (firstNo (r.map moveO)).map (· + 1) = some i from h)
      obtain ⟨a1, a2⟩ := firstNo_at h1
      rw [List.getElem?_map] at a1
      obtain ⟨x, x1, x2⟩ := Option.map_eq_some_iff.mp a1
      refine ⟨⟨optM (moveO x), ?_, by rw [eqv_optM, x2] <;> rfl⟩, fun j z hj hz => ?_⟩
      · show (r.map fun x => optM (moveO x))[k]? = _
        rw [List.getElem?_map, x1] <;> rfl
      · cases j with
        | zero =>
          cases hz
          rw [eqv_optD, hh] <;> rfl
        | succ j =>
          obtain ⟨m, hm⟩ := a2 j (by omega)
          rw [List.getElem?_map] at hm
          obtain ⟨y, y1, y2⟩ := Option.map_eq_some_iff.mp hm
          have hz : (r.map fun x => optM (moveO x))[j]? = some z := hz
          rw [List.getElem?_map, y1] at hz
          rw [← Option.some.inj hz, eqv_optM, y2] <;> rfl
/-- readF by the body's lines -/
theorem read_by {ls body : List Str} {rest : Str} (h : ls = body ++ [rest]) : readF oneB ls = match noneF body with
    | some i => .line (i + 1)
    | none => if rest = Str.empty ∧ body ≠ [] then endF body else .line (body.length + 1) := by
  subst h
  unfold readF
  rw [ List.dropLast_concat, List.getLast?_concat]
  cases body with
  | nil =>
    show Out.line 1 = if _ then _ else _
    rw [if_neg (fun z => z.2 rfl)] <;> rfl
  | cons a r =>
    simp only
    rw [noneF_cons]
    cases hh : headO a with
    | none => rfl
    | some many =>
      simp only
      cases hf : firstNo (r.map moveO) with
      | some i => rfl
      | none =>
        show (if some rest = some Str.empty then madeF oneB many ((r.map moveO).filterMap id) else Out.line (a :: r ++ [rest]).length) = if rest = Str.empty ∧ a :: r ≠ [] then madeF oneB ((headO a).getD 0) ((r.map moveO).filterMap id) else .line ((a :: r).length + 1)
        rw [hh]
        show (if some rest = some Str.empty then madeF oneB many ((r.map moveO).filterMap id) else Out.line (a :: r ++ [rest]).length) = if rest = Str.empty ∧ a :: r ≠ [] then madeF oneB many ((r.map moveO).filterMap id) else .line ((a :: r).length + 1)
        by_cases e : rest = Str.empty
        · rw [if_pos (by rw [e]), if_pos ⟨e, by simp⟩]
        · rw [if_neg (fun z => e (Option.some.inj z)), if_neg (fun z => e z.1), List.length_append] <;> rfl
section
variable {P : Program} {w : World} {K : PySem.W.Frag} {mg : Str → Option Value} {base : Heap}
def spReadS (K : PySem.W.Frag) (C BS BL : Addr) : Sp := fun vs H Q E => ∃ v, vs = [v] ∧ ((∃ t : Str, v = .str t ∧ t.length ≤ 1000000 ∧
    (∀ n d H', readF oneB (Txt.split t ⟨#[10]⟩) = .line n → Same H H' → H d = none → H' d = some (.xd [("number", .int (n : Int))]) → E (.ref BL) (some d) H') ∧
    (∀ pt d H', readF oneB (Txt.split t ⟨#[10]⟩) = .part pt → Same H H' → H d = none → H' d = some (.xd [("part", partV pt)]) → E (.ref BS) (some d) H') ∧
    (∀ many ms q H', readF oneB (Txt.split t ⟨#[10]⟩) = .told many ms → Same H H' → H q = none → SysAt K C H' q many.toNat ms → Q (.ref q) H')) ∨
  (∃ ty, TyX K H v ty ∧ PySem.W.kitOne K ty (.type "str") = some false ∧ ∀ d H', Same H H' → H d = none → H' d = some (.xd [("number", .int 0)]) → E (.ref BL) (some d) H'))
theorem spl10_bound (x : Str) : (∀ u ∈ Txt.split x (⟨#[10]⟩ : Str), u.length ≤ x.length) ∧ (Txt.split x (⟨#[10]⟩ : Str)).length ≤ x.length + 1 := by
  have hy : tl (⟨#[10]⟩ : Str) = [10] := rfl
  have e := split_spl x (⟨#[10]⟩ : Str) (by rw [hy]; simp) (kind_ok (by simp))
  rw [hy] at e
  have j : joinL [10] (spl [10] 0 [] (tl x)) = tl x := by rw [join_spl, List.nil_append]
  refine ⟨fun u hu => ?_, ?_⟩
  · have m : tl u ∈ spl [10] 0 [] (tl x) := by rw [← e]; exact List.mem_map.mpr ⟨u, hu, rfl⟩
    have := mem_joinL 10 m
    rw [j, ← len_tl, ← len_tl] at this
    exact this
  · have z := cnt_joinL 10 (spl [10] 0 [] (tl x))
    rw [j, ← len_tl, ← e, List.length_map] at z
    exact z
theorem move_len {x : Str} {m : Mv3} (h : moveO x = some m) : MvSm m ∧ m.2.length ≤ x.length + 1 := by
  unfold moveO at h
  cases h1 : fracO (Txt.partition x cs).1 with
  | none => rw [h1] at h; cases h
  | some f =>
    cases h2 : numsO (Txt.partition x cs).2.2 with
    | none => rw [h1, h2] at h; cases h
    | some l =>
      rw [h1, h2] at h
      cases h
      obtain ⟨a1, a2, a3, a4, a5⟩ := frac_ok (t := f.1) (b := f.2) h1
      obtain ⟨b1, b2⟩ := nums_ok h2
      have pl := (part_len x cs (by simp [tl])).2
      have sb := (spl_bound (Txt.partition x cs).2.2).2
      exact ⟨⟨a1, a2, a3, a4, a5, b1⟩, by show l.length ≤ _; omega⟩
abbrev nReadSystem : List Str := ["text", "lines", "rest", "told", "number", "line"]
theorem scReadSystem : FnScope nReadSystem ["text"] (defScope s_read_system) := ⟨rfl, rfl, rfl, by decide +kernel, rfl, by decide +kernel, by decide +kernel⟩
theorem ok_read_system {f : Addr} {fd : FuncData} {fcHeadB : Addr} {fdcHeadB : FuncData} {fcMoveL : Addr} {fdcMoveL : FuncData} {C BS BL fgS : Addr} {fdgS : FuncData} (F : Fun K "read_system" "read_system" s_read_system f fd) (T : NmA mg) (cHeadB : Cl P w K mg base CX0 2 "number_behind" fcHeadB fdcHeadB ["word", "line"] spHeadB) (cMoveL : Cl P w K mg base CX0 4 "move_of_line" fcMoveL fdcMoveL ["line"] (spMoveL K)) (S : SysT K mg C) (eBL : Er1 P w K mg base "BadLine" BL "number") (MgS : Mk K C fgS) (GgS : FnOk P w K mg base (L2.CX P w) 5 fgS fdgS ["self", "many", "moves"] (spSInitX K C BS)) (BgS : Binds K fdgS ["self", "many", "moves"] []) : FnOk P w K mg base (L2.CX P w) 7 f fd ["text"] (spReadS K C BS BL) := by
  refine F.okX scReadSystem (fun vs H Q E h => ?_) (fun cdv A' outer s H vs Q E hr h => ?_)
  · obtain ⟨v, rfl, _⟩ := h
    rfl
  · obtain ⟨v, rfl, h⟩ := h
    have hu := hu_of hr
    refine ⟨_, pss_cons (ps_if (pt_not (pt_val (pe_callB call_isi (by rfl) T.isi (by decide +kernel) (pa_cons (pv 0) (pa_cons (pe_bltn (v := .ty "str") (u := .type "str") (by rfl) T.str (by decide +kernel) rfl) pa_nil)))))
        (pss_one (ps_raise rfl (takes_of rfl rfl rfl rfl) (eBL.pmk (hr.mono (by decide)) (pa_cons pe_int pa_nil)))) pss_nil)
      (pss_cons (ps_set (i := 1) scReadSystem.nd rfl (Or.inl rfl) (pe_m1 PySem.F.slot_str_split PySem.F.type_str_split mt_split (pv 0) pe_str))
      (pss_cons (ps_set (i := 2) scReadSystem.nd rfl (Or.inl rfl) (pe_bm0 PySem.F.plainAttrs_list PySem.F.slot_list_pop PySem.F.type_list_pop mt_pop (pv 1)))
      (pss_cons (ps_setLc (i := 3) (own := [("number", 4), ("line", 5)]) (g := (gTup K 2 (gCons (gName 4) (gCons (gName 5) gNil)))) (tt := tYes) (by rfl) scReadSystem.nd rfl rfl (sw_true rfl rfl rfl (by decide +kernel)) (pi_enum (by rfl) T.enum (pa_cons (pv 1) pa_nil)) (blkOk_by (own := [("number", 4), ("line", 5)]) (N := nReadSystem) (sc := defScope s_read_system) (by decide +kernel)) (fun _ _ _ _ _ => (pg_tup (by rfl) (pgs_cons (pg_name (i := 4) scReadSystem.nd rfl (Or.inl rfl)) (pgs_cons (pg_name (i := 5) scReadSystem.nd rfl (Or.inl rfl)) pgs_nil)))) (fun _ _ _ _ _ => pts_nil) (fun _ _ _ _ _ => (pe_ifExp (pt_cmpR op_eq (pv 4) pe_int (nomark _)) (cHeadB.call (hr.mono (by decide)) (pa_cons pe_str (pa_cons (pv 5) pa_nil))) (cMoveL.call (hr.mono (by decide)) (pa_cons (pv 5) pa_nil)))))
      (pss_cons (ps_if (pt_cmpR (op_inD (units65 hr)) pe_non (pv 3) (by rfl))
        (pss_one (ps_raise rfl (takes_of rfl rfl rfl rfl) (eBL.pmk (hr.mono (by decide)) (pa_cons (pe_op op_add (pe_bm PySem.F.plainAttrs_list PySem.F.slot_list_index PySem.F.type_list_index (mt_indexD (units65 hr)) (pv 3) (pa_cons pe_non pa_nil)) pe_int) pa_nil)))) pss_nil)
      (pss_cons (ps_if (PW.pt (pw_or (pt_cmpR op_ne (pv 2) pe_str (nomark _)) (pw_or1 (pt_cmpR (op_eqL0 hr.units) (pv 1) (pe_lst pa_nil) (nomark _)))))
        (pss_one (ps_raise rfl (takes_of rfl rfl rfl rfl) (eBL.pmk (hr.mono (by decide)) (pa_cons (pe_op op_add (pe_callB call_len_seq (by rfl) T.len PySem.boot_len (pa_cons (pv 1) pa_nil)) pe_int) pa_nil)))) pss_nil)
      (pss_one (ps_ret (pe_make MgS GgS (hr.mono (by decide)) (by rfl) S.mgC BgS .nil (passes_call (takes_of rfl rfl rfl rfl) (fun _ _ _ _ h => h)) (pa_cons (pe_ix ix_list (pv 3) pe_int (fun _ _ => rfl)) (pa_cons (pe_callTy call_tuple_of (by rfl) T.tuple (by decide +kernel) (pa_cons (pe_slice sl_list (pv 3) (po_some pe_int) po_none) pa_nil)) pa_nil)))))))))), ?_⟩
    rcases h with ⟨t, rfl, tl6, kL, kP, kT⟩ | ⟨ty, t1, t2, kE⟩
    · have tz : t.length ≤ sizeLine := by rw [sizeLine_eq]; omega
      have kb : PySem.W.kitOne K (.type "str") (.type "str") = some true := kit_ty (by decide +kernel)
      refine ⟨_, rfl, _, _, _, _, _, rfl, .ty "str", .base (.str t), kb, _, rfl, iteF ?_⟩
      obtain ⟨wl, cl⟩ := spl10_bound t
      have ne0 := split_ne (x := t) (c := 10) (by decide)
      rw [← nl_is] at wl cl ne0 kL kP kT
      refine ⟨_, rfl, ⟨_, rfl⟩, t, _, rfl, rfl, by decide +kernel, by rw [sizeLine_eq]; omega, fun L hL => ?_⟩
      refine new_step hL fun H1 s1 e1 => ?_
      generalize Txt.split t ("\n" : Str) = ls at wl cl ne0 e1 kL kP kT
      obtain ⟨body, rest, rfl⟩ : ∃ b r, ls = b ++ [r] := ⟨ls.dropLast, ls.getLast ne0, (List.dropLast_concat_getLast ne0).symm⟩
      rw [read_by rfl] at kL kP kT
      have bl : body.length ≤ t.length := by rw [List.length_append] at cl; exact Nat.le_of_succ_le_succ cl
      have wb : ∀ u ∈ body, u.length ≤ t.length := fun u hu => wl u (List.mem_append_left _ hu)
      refine ⟨_, rfl, .inl ⟨rfl, _, SqL.of e1⟩, L, _, .str rest, rfl, rfl, e1, ?_, ?_⟩
      · show ((body ++ [rest]).map V.str)[((body ++ [rest]).map V.str).length - 1]? = some (V.str rest)
        rw [List.length_map, List.length_append, List.getElem?_map, List.getElem?_append_right (by simp)]
        simp
      have dl : ((body ++ [rest]).map V.str).dropLast = body.map V.str := by rw [List.map_append, List.map_cons, List.map_nil, List.dropLast_concat]
      rw [dl]
      have s2 : Same H (upd H1 L (.lst (body.map V.str))) := s1.mut hL
      have e2 : (upd H1 L (.lst (body.map V.str))) L = some (.lst (body.map V.str)) := upd_same
      generalize upd H1 L (.lst (body.map V.str)) = H2 at s2 e2 ⊢
      refine ⟨_, rfl, L, _, rfl, SqL.of e2, fun D hD => ?_⟩
      refine lc_it walk_enum (fun i H' => Same H2 H' ∧ ∃ acc, H' D = some (.lst acc) ∧ acc.length = i ∧ ∀ (j : Nat) (v : V), acc[j]? = some v → ∃ x, body[j]? = some x ∧ TellP K H' j x v) ⟨Same.new hD, [], upd_same, rfl, fun j v hv => by simp at hv⟩ (fun i H' _ g => SqL.of (g.1 _ _ e2)) (fun i y H3 H4 hi g hy => ?_) fun H3 g => ?_
      · obtain ⟨s3, acc, g1, g2, g3⟩ := g
        obtain ⟨q, a, b, rfl, hq, rfl, ha, hb⟩ := hy
        have ha := Option.some.inj ha
        subst ha
        change (body.map V.str)[i]? = some b at hb
        rw [List.getElem?_map] at hb
        obtain ⟨x, hx, rfl⟩ := Option.map_eq_some_iff.mp hb
        have xl := wb x (List.mem_of_getElem? hx)
        have il := (List.getElem?_eq_some_iff.mp hx).1
        refine ⟨q, _, rfl, SqT.of upd_same, rfl, _, _, rfl, _, _, rfl, rfl, ?_⟩
        refine new_step hq fun H4 s4 _ => ?_
        have g4 := s4 _ _ g1
        refine ⟨rfl, ?_⟩
        have put : ∀ (H5 : Hp) (v : V), Same H4 H5 → TellP K H5 i x v → ∃ acc, H5 D = some (.lst acc) ∧ acc.length < sizeLine ∧ (Same H2 (upd H5 D (.lst (acc ++ [v]))) ∧ ∃ acc', (upd H5 D (.lst (acc ++ [v]))) D = some (.lst acc') ∧ acc'.length = i + 1 ∧ ∀ (j : Nat) (v' : V), acc'[j]? = some v' → ∃ x, body[j]? = some x ∧ TellP K (upd H5 D (.lst (acc ++ [v]))) j x v') := fun H5 v s5 hv => by
          refine ⟨acc, s5 _ _ g4, by rw [g2, sizeLine_eq]; omega, ((s3.trans s4).trans s5).mut hD, _, upd_same, by rw [List.length_append, g2] <;> rfl, fun j v' hj => ?_⟩
          rcases snoc_get hj with ⟨hj1, hj2⟩ | ⟨hj1, hj2⟩
          · obtain ⟨x', x1, x2⟩ := g3 j v' hj2
            exact ⟨x', x1, (x2.same (s4.trans s5)).upd (s5 _ _ g4)⟩
          · rw [hj1, g2, ← hj2]
            exact ⟨x, hx, hv.upd (s5 _ _ g4)⟩
        by_cases i0 : i = 0
        · subst i0
          refine ⟨_, rfl, rfl, _, rfl, ?_⟩
          rw [decide_eq_true (show V.int ((0 : Nat) : Int) = V.int 0 from rfl)]
          refine iteT ⟨_, rfl, x, rfl, by omega, fun H5 s5 => ?_⟩
          exact put H5 _ s5 (by unfold TellP; rw [if_pos rfl])
        · refine ⟨_, rfl, rfl, _, rfl, ?_⟩
          rw [decide_eq_false (show ¬ V.int (i : Int) = V.int 0 from fun z => i0 (by have := V.int.inj z; omega))]
          refine iteF ⟨_, rfl, x, rfl, by omega, fun H5 h5 s5 => ?_, fun m p H5 h5 s5 hm => ?_⟩
          · exact put H5 _ s5 (by unfold TellP; rw [if_neg i0]; exact .inl ⟨h5, rfl⟩)
          · exact put H5 _ s5 (by unfold TellP; rw [if_neg i0]; exact .inr ⟨m, h5, hm⟩)
      · obtain ⟨s3, acc, g1, g2, g3⟩ := g
        rw [List.length_map] at g2
        have s13 := s2.trans s3
        have dpT : Dp K H3 (.ref D) (.list (tellsD body)) := by
          refine .lst (SqL.of g1) (dpAll_of (by rw [g2, tells_len]) fun j v hv => ?_)
          obtain ⟨x, x1, x2⟩ := g3 j v hv
          have jl := (List.getElem?_eq_some_iff.mp x1).1
          have jt : j < (tellsD body).length := by rw [tells_len]; exact jl
          obtain ⟨y, y1, y2⟩ := tells_at (List.getElem?_eq_getElem jt)
          rw [x1] at y1
          cases y1
          refine ⟨_, List.getElem?_eq_getElem jt, ?_⟩
          rw [y2]
          unfold TellP at x2
          by_cases j0 : j = 0
          · rw [if_pos j0] at x2 ⊢
            rw [x2]
            exact dp_opt _
          · rw [if_neg j0] at x2 ⊢
            rcases x2 with ⟨z1, z2⟩ | ⟨m, z1, z2⟩
            · rw [z1, z2]
              exact .non
            · rw [z1]
              exact dp_mv z2
        have shN : SeqAt.shaped PyData.none = true := by decide +kernel
        have shT : SeqAt.shaped (.list (tellsD body)) = true := shaped_of (lay_tells body) (by decide)
        refine ⟨_, rfl, .none, tellsD body, .non, dpT, shN, shT, _, rfl, ?_⟩
        rw [tells_any]
        cases hn : noneF body with
        | some i =>
          rw [hn] at kL
          obtain ⟨⟨z, z1, z2⟩, z3⟩ := none_at hn
          refine iteT ⟨_, rfl, .inl ⟨rfl, _, SqL.of g1⟩, D, .non, .none, tellsD body, i, z, rfl, rfl, dpT, .non, shT, shN, z1, z2, fun m z' hm hz' => z3 m z' hm hz', _, _, rfl, rfl, ?_⟩
          exact rz s13 fun d H' s hd hx => kL (i + 1) d H' rfl s hd (by rw [hx, Int.natCast_add] <;> rfl)
        | none =>
          rw [hn] at kL kP kT
          change (∀ n d H', (if rest = Str.empty ∧ body ≠ [] then _ else _) = _ → _) at kL
          refine iteF ⟨_, rfl, rfl, _, rfl, ?_⟩
          rw [dec_str, e_emp]
          have hL3 := s3 _ _ e2
          have bad : ∀ H4, Same H H4 → H4 L = some (.lst (body.map V.str)) → ¬ (rest = Str.empty ∧ body ≠ []) → ∃ v, some (some (V.ref L)) = some (some v) ∧ ∃ p ys, [v] = [V.ref p] ∧ (SqL K H4 p ys ∨ SqT K H4 p ys) ∧ ∃ i j, V.int ((ys.length : Nat) : Int) = .int i ∧ V.int 1 = .int j ∧ tMkO BL (spIni BL "number") [] (fun σ H Q => Q [V.int (i + j)] H) [] H4 fun cls d H' => E cls d H' := fun H4 s4 hL4 hb => by
            rw [if_neg hb] at kL
            exact ⟨_, rfl, L, _, rfl, .inl (SqL.of hL4), _, _, rfl, rfl, rz s4 fun d H' s hd hx => kL (body.length + 1) d H' rfl s hd (by rw [hx, List.length_map, Int.natCast_add] <;> rfl)⟩
          by_cases re : rest = Str.empty
          · rw [decide_eq_true re]
            refine iteF ⟨_, rfl, by show 0 ≤ sizeLine; decide, fun z hz => ?_⟩
            refine new_step hz fun H4 s4 e4 => ?_
            refine ⟨L, z, _, rfl, rfl, SqL.of (s4 _ _ hL3), SqL.of e4, _, rfl, ?_⟩
            cases body with
            | nil => exact iteT (bad H4 (s13.trans s4) (s4 _ _ hL3) fun z => z.2 rfl)
            | cons a r =>
              rw [if_pos ⟨re, by simp⟩] at kP kT
              rw [noneF_cons] at hn
              cases hh : headO a with
              | none => rw [hh] at hn; cases hn
              | some many =>
              rw [hh] at hn
              have fn := firstNo_none (Option.map_eq_none_iff.mp (show (firstNo (r.map moveO)).map (· + 1) = none from hn))
              generalize hms : (r.map moveO).filterMap id = ms at fn
              have eF : endF (a :: r) = madeF oneB many ms := by
                show madeF oneB ((headO a).getD 0) ((r.map moveO).filterMap id) = _
                rw [hh, hms] <;> rfl
              rw [eF] at kP kT
              have lr : r.length = ms.length := by
                have z := congrArg List.length fn
                rw [List.length_map, List.length_map] at z
                exact z
              have g14 := s4 _ _ g1
              have a0 : acc[0]? = some (.int many) := by
                have z : 0 < acc.length := by rw [g2]; exact Nat.succ_pos _
                obtain ⟨x, x1, x2⟩ := g3 0 acc[0] (List.getElem?_eq_getElem z)
                cases x1
                unfold TellP at x2
                rw [if_pos rfl, hh] at x2
                rw [List.getElem?_eq_getElem z, x2] <;> rfl
              have mvs : ∀ i (hi : i < ms.length), moveO (r.getD i Str.empty) = some ms[i] ∧ r.getD i Str.empty ∈ r := fun i hi => by
                have z : (r.map moveO)[i]? = some (some ms[i]) := by rw [fn, List.getElem?_map, List.getElem?_eq_getElem hi] <;> rfl
                rw [List.getElem?_map] at z
                obtain ⟨y, y1, y2⟩ := Option.map_eq_some_iff.mp z
                have : r.getD i Str.empty = y := by rw [List.getD_eq_getElem?_getD, y1] <;> rfl
                rw [this]
                exact ⟨y2, List.mem_of_getElem? y1⟩
              have mIn : MvsIn K H4 (acc.drop 1) ms := by
                refine ⟨by rw [List.length_drop, g2, ← lr]; exact Nat.add_sub_cancel _ _, fun i v hv => ?_⟩
                rw [List.getElem?_drop] at hv
                obtain ⟨x, x1, x2⟩ := g3 (1 + i) v hv
                have x1' : r[i]? = some x := by rw [Nat.add_comm] at x1; exact x1
                have il : i < ms.length := by rw [← lr]; exact (List.getElem?_eq_some_iff.mp x1').1
                have e := (mvs i il).1
                rw [List.getD_eq_getElem?_getD, x1'] at e
                have e : moveO x = some ms[i] := e
                unfold TellP at x2
                rw [if_neg (by omega)] at x2
                rcases x2 with ⟨z1, _⟩ | ⟨m, z1, z2⟩
                · rw [e] at z1; cases z1
                · rw [e] at z1
                  exact ⟨ms[i], List.getElem?_eq_getElem il, (Option.some.inj z1) ▸ z2.same s4⟩
              have hm : ∀ m ∈ ms, MvSm m ∧ m.2.length ≤ 16000000 := fun m hmm => by
                obtain ⟨i, hi, rfl⟩ := List.mem_iff_getElem.mp hmm
                obtain ⟨e1, e2⟩ := mvs i hi
                obtain ⟨b1, b2⟩ := move_len e1
                have := wb _ (List.mem_cons_of_mem _ e2)
                exact ⟨b1, by omega⟩
              have cut1 : cutV acc (some 1) none = acc.drop 1 := by
                have la : 1 ≤ acc.length := by rw [g2]; exact Nat.succ_le_succ (Nat.zero_le _)
                unfold cutV
                show (acc.drop (HT.sIx acc.length 0 (some ((1 : Nat) : Int)))).take (acc.length - HT.sIx acc.length 0 (some ((1 : Nat) : Int))) = _
                rw [HT.sIx_nat, Nat.min_eq_left la, List.take_of_length_le (by rw [List.length_drop]; omega)]
              refine iteF ?_
              unfold tNoPart
              refine ⟨_, rfl, D, acc, 0, .int many, rfl, rfl, SqL.of g14, atI_nat (i := 0) a0, _, rfl, 1, rfl, D, acc, rfl, SqL.of g14, fun q5 hq5 => ?_⟩
              rw [cut1]
              refine new_step hq5 fun H5 s5 e5 => ?_
              refine ⟨q5, _, rfl, .inl ⟨SqL.of e5, fun l hl => ?_⟩⟩
              refine new_step hl fun H6 s6 e6 => ?_
              have s46 := s5.trans s6
              have sAll := (s13.trans s4).trans s46
              intro x dx nx ndx nex
              have sx : Same H6 (upd (upd H6 dx (.own x)) x (.ins C dx [])) := mk_same0 nx ndx
              refine ⟨x, dx, many, l, ms, rfl, upd_same, MvsAt.same sx ⟨_, SqT.of e6, mIn.same s46⟩, hm, fun pt d H' hw s hd hx => ?_, fun H' hw k1 k2 => ⟨rfl, ?_⟩⟩
              · exact kP pt d H' (by unfold madeF; rw [hw]) ((sAll.trans sx).trans s) ((sAll.trans sx).free hd) hx
              · have s7 : Same H6 H' := mk_same nx ndx k1
                exact kT many ms x H' (by unfold madeF; rw [hw]) (sAll.trans s7) (sAll.free nx) ⟨dx, l, k2, _, s7.sqT (SqT.of e6), (mIn.same s46).same s7⟩
          · rw [decide_eq_false re]
            exact iteT (bad H3 s13 hL3 fun z => re z.1)
    · refine ⟨_, rfl, _, _, _, _, _, rfl, .ty "str", t1, t2, _, rfl, iteT ?_⟩
      exact rz (Same.refl H) fun d H' s hd hx => kE d H' s hd hx
end
end Law

namespace L2
open PySem PySem.Spec PyProof.Rows TL
def isDg (c : Nat) : Bool := decide (48 ≤ c ∧ c ≤ 57)
theorem all_dg {l : List Nat} : l.all isDg = true ↔ NumText.AllDigits l := by
  rw [List.all_eq_true]
  exact ⟨fun h c hc => of_decide_eq_true (h c hc), fun h c hc => decide_eq_true (h c hc)⟩
theorem numO_no {w : Str} (h : ¬ (1 ≤ w.length ∧ w.length ≤ 12) ∨ (tl w).all isDg = false) : numO w = none := by
  cases e : numO w with
  | none => rfl
  | some i =>
    obtain ⟨k, _, h1, h2, h3⟩ := numO_back e
    have l := len_tl w
    rcases h with h | h
    · refine absurd ⟨?_, h2⟩ h
      have := List.length_pos_iff.mpr (numL_ne k)
      rw [l, h1]
      exact this
    · rw [all_dg.mpr h3] at h
      cases h
theorem numO_yes {w : Str} (h : 1 ≤ w.length ∧ w.length ≤ 12) (hd : (tl w).all isDg = true) : numO w = if 1 < w.length ∧ (tl w).head? = some 48 then none else some (NumText.digitsVal (tl w) : Int) := by
  have hd := all_dg.mp hd
  have l := len_tl w
  have ha : ∀ c ∈ tl w, c < 128 := fun c hc => by
    have := hd c hc
    omega
  unfold numO
  have c1 : (!Txt.isascii w || !Txt.isdigit w || decide ((12 : Int) < ((w.length : Nat) : Int))) = false := by
    rw [(asc_iff w).mpr ha, (dig_iff ha).mpr ⟨fun z => by rw [z] at l; have : w.length = 0 := l; omega, hd⟩, decide_eq_false (by omega)] <;> rfl
  rw [c1, if_neg Bool.false_ne_true, starts0, eq_zero]
  by_cases q : (tl w).head? = some 48
  · have t1 : ((tl w).take 1 == [48]) = true := by
      cases hw : tl w with
      | nil => rw [hw] at q; cases q
      | cons c r =>
        rw [hw] at q
        have := Option.some.inj q
        rw [this] <;> rfl
    rw [t1, Bool.true_and]
    by_cases z : tl w = [48]
    · have : w.length = 1 := by rw [l, z] <;> rfl
      rw [decide_eq_true z, if_neg (by simp), if_neg (fun z => by omega)]
    · have : 1 < w.length := by
        rw [l]
        match hw : tl w, q, z with
        | [c], q, z =>
          have := Option.some.inj q
          exact absurd (by rw [this]) z
        | c :: d :: r, _, _ => simp
      rw [decide_eq_false z, if_pos (by simp), if_pos ⟨this, q⟩]
  · have t1 : ((tl w).take 1 == [48]) = false := by
      rw [beq_eq_false_iff_ne]
      intro z
      cases hw : tl w with
      | nil => rw [hw] at z; cases z
      | cons c r =>
        rw [hw] at z q
        have : c = 48 := by simpa using z
        exact q (by rw [this] <;> rfl)
    rw [t1, Bool.false_and, if_neg Bool.false_ne_true, if_neg (fun z => q z.2)]
theorem atI_natN {xs : List Nat} {i : Nat} {x : Nat} (h : xs[i]? = some x) : atI xs ((i : Nat) : Int) = some x := by
  unfold atI
  have hi := (List.getElem?_eq_some_iff.mp h).1
  rw [show ixN xs.length ((i : Nat) : Int) = some i from Evl.ixN_nat hi]
  exact h
theorem tl_digs : tl ("0123456789" : Str) = [48, 49, 50, 51, 52, 53, 54, 55, 56, 57] := by decide +kernel
theorem in_digs (c : Nat) : decide (c ∈ ("0123456789" : Str).cps.toList) = isDg c := by
  have e : ("0123456789" : Str).cps.toList = [48, 49, 50, 51, 52, 53, 54, 55, 56, 57] := tl_digs
  rw [e]
  unfold isDg
  refine decide_eq_decide.mpr ?_
  simp only [List.mem_cons, List.not_mem_nil, or_false]
  omega
end L2
namespace Law
open PySem L2 TL
/-- a value that is no text -/
def NS (K : PySem.W.Frag) (p : Addr) (H : Hp) (x : V) : Prop := (∃ a, x = .ref a ∧ a ≠ p ∧ ((∃ xs, H a = some (.lst xs)) ∨ ∃ ks, H a = some (.dK ks))) ∨ ∃ a xs, x = .ref a ∧ SqT K H a xs
theorem NS.stp {K : PySem.W.Frag} {p : Addr} {H H' : Hp} {x : V} (hh : HandAt H p) (s : Stp p H H') (h : NS K p H x) : NS K p H' x := by
  rcases h with ⟨a, h1, h2, h | h⟩ | ⟨a, xs, h1, h2⟩
  · obtain ⟨xs, h⟩ := h
    exact .inl ⟨a, h1, h2, .inl ⟨xs, s.keep _ _ h2 h⟩⟩
  · obtain ⟨ks, h⟩ := h
    exact .inl ⟨a, h1, h2, .inr ⟨ks, s.keep _ _ h2 h⟩⟩
  · exact .inr ⟨a, xs, h1, s.sqT hh h2⟩
theorem at_pick {xs : List V} {d : Int} (d0 : 0 ≤ d) (d1 : d < (xs.length : Int)) : ∃ x, x ∈ xs ∧ atI xs d = some x := by
  obtain ⟨j, rfl⟩ := Int.eq_ofNat_of_zero_le d0
  have hj : j < xs.length := by omega
  exact ⟨xs[j], List.getElem_mem hj, atI_nat (List.getElem?_eq_getElem hj)⟩
theorem NS.ty {K : PySem.W.Frag} {p : Addr} {H : Hp} {x : V} (h : NS K p H x) : ∃ ty, TyX K H x ty ∧ PySem.W.kitOne K ty (.type "str") = some false := by
  rcases h with ⟨a, rfl, h2, h | h⟩ | ⟨a, xs, rfl, h2⟩
  · obtain ⟨xs, h⟩ := h
    exact ⟨_, .base (.lst h), kit_ty (by decide +kernel)⟩
  · obtain ⟨ks, h⟩ := h
    exact ⟨_, .base (.dK h), kit_ty (by decide +kernel)⟩
  · exact ⟨_, tyx_tup h2, kit_ty (by decide +kernel)⟩
section
variable {P : Program} {w : World} {K : PySem.W.Frag} {mg : Str → Option Value} {base : Heap}
def spNS (K : PySem.W.Frag) : Sp := fun vs H Q _ => ∃ p : Addr, vs = [.ref p] ∧ HandAt H p ∧ ∀ (x : V) (H' : Hp), Stp p H H' → NS K p H' x → Q x H'
abbrev nLawDeep : List Str := ["_law_hand_here", "_law_found", "_law_turn"]
theorem scLawDeep : FnScope nLawDeep ["_law_hand_here"] (defScope s_law_deep) := ⟨rfl, rfl, rfl, by decide +kernel, rfl, by decide +kernel, by decide +kernel⟩
theorem ok_deep {f : Addr} {fd : FuncData} {fD : Addr} {fdD : FuncData} (F : Fun K "_law_deep" "_law_deep" s_law_deep f fd) (T : NmA mg) (D : Cl P w K mg base CX0 1 "_law_draw" fD fdD ["_law_hand_here", "_law_many"] spDraw) : FnOk P w K mg base CX0 2 f fd ["_law_hand_here"] (spNS K) := by
  refine F.ok scLawDeep (fun vs H Q E h => ?_) (fun cdv A' outer s H vs Q E hr h => ?_)
  · obtain ⟨p, rfl, _⟩ := h
    rfl
  · obtain ⟨p, rfl, hH, k⟩ := h
    refine ⟨_, pss_cons (ps_set (i := 1) scLawDeep.nd rfl (Or.inl rfl) (pe_ix ix_list (pe_lst (pa_cons pe_non (pa_cons (pe_tup pa_nil) (pa_cons pe_str pa_nil)))) (D.call (hr.mono (by decide)) (pa_cons (pv 0) (pa_cons pe_int pa_nil))) (fun _ _ => rfl)))
      (pss_cons (ps_for PassesOwn.never rfl (pi_range1 (by rfl) T.range (pa_cons (pe_op op_add pe_int (D.call (hr.mono (by decide)) (pa_cons (pv 0) (pa_cons pe_int pa_nil)))) pa_nil)) (pg_name (i := 2) scLawDeep.nd rfl (Or.inl rfl))
        (pss_one (ps_set (i := 1) scLawDeep.nd rfl (Or.inl rfl) (pe_ix ix_list (pe_lst (pa_cons (pe_lst (pa_cons (pv 1) pa_nil)) (pa_cons (pe_tup (pa_cons (pv 1) pa_nil)) (pa_cons (pe_disp (pps_cons pe_int (pv 1) pps_nil) (by rfl) (by rfl) (fun z => by cases z) (by decide)) pa_nil)))) (D.call (hr.mono (by decide)) (pa_cons (pv 0) (pa_cons pe_int pa_nil))) (fun _ _ => rfl)))))
      (pss_one (ps_ret (pv 1)))), ?_⟩
    obtain ⟨ks, hp⟩ := hH.dk
    refine ⟨by show 0 ≤ sizeLine; decide, fun t ht => ⟨by show 3 ≤ sizeLine; decide, fun l hl => ?_⟩⟩
    have s1 : Same H (upd H t (.tup [])) := Same.new ht
    have s2 := s1.trans (Same.new (o := .lst [.non, .ref t, .str (Str.ofString "x")]) hl)
    have lp : l ≠ p := fun z => by rw [z, s1 _ _ hp] at hl; cases hl
    refine ⟨_, rfl, p, 3, rfl, by decide, by decide, hH.same s2, fun d H1 d0 d1 S => ?_⟩
    obtain ⟨x, hx, ha⟩ := at_pick (xs := [.non, .ref t, .str (Str.ofString "x")]) d0 (by simpa using d1)
    refine ⟨l, _, _, _, rfl, rfl, SqL.of (S.keep _ _ lp upd_same), ha, ?_⟩
    have S1 : Stp p H H1 := S.pre s2
    refine ⟨_, rfl, p, 8, rfl, by decide, by decide, S1.hand, fun d' H2 e0 e1 S2 => ⟨_, _, rfl, rfl, _, rfl, by omega, by omega, ?_⟩⟩
    refine for_range (n := (14 + d').toNat) (fun i σ H' => ∃ (x : V) (u : Option V), σ = [some (.ref p), some x, u] ∧ Stp p H H' ∧ (0 < i → NS K p H' x)) ⟨x, none, rfl, S1.trans S2, fun z => absurd z (Nat.lt_irrefl 0)⟩ ?_ ?_
    · rintro i σ H3 hi ⟨x, u, rfl, S3, T3⟩
      obtain ⟨ks3, hp3⟩ := S3.hand.dk
      refine ⟨_, rfl, by show 1 ≤ sizeLine; decide, fun a ha => ⟨_, rfl, by show 1 ≤ sizeLine; decide, fun b hb c hc => ⟨_, rfl, upd_same, [(Sum.inl 0, x)], rfl, (show 1 ≤ 15 by decide), by show 3 ≤ sizeLine; decide, fun l hl => ?_⟩⟩⟩
      have ap : a ≠ p := fun z => by rw [z, hp3] at ha; cases ha
      have z1 : (upd H3 a (.lst [x])) p = some (.dK ks3) := by rw [upd_ne (Ne.symm ap)]; exact hp3
      have bp : b ≠ p := fun z => by rw [z, z1] at hb; cases hb
      have z2 : (upd (upd H3 a (.lst [x])) b (.tup [x])) p = some (.dK ks3) := by rw [upd_ne (Ne.symm bp)]; exact z1
      have cp : c ≠ p := fun z => by rw [z, z2] at hc; cases hc
      have q1 : Same H3 (upd H3 a (.lst [x])) := Same.new ha
      have q2 : Same (upd H3 a (.lst [x])) (upd (upd H3 a (.lst [x])) b (.tup [x])) := Same.new hb
      have e3 : upd (upd (upd (upd H3 a (.lst [x])) b (.tup [x])) c (.dK [])) c (.dK (mergeK [] [(Sum.inl 0, x)])) = upd (upd (upd H3 a (.lst [x])) b (.tup [x])) c (.dK [(Sum.inl 0, x)]) := upd_upd
      rw [e3] at hl ⊢
      have q3 : Same (upd (upd H3 a (.lst [x])) b (.tup [x])) (upd (upd (upd H3 a (.lst [x])) b (.tup [x])) c (.dK [(Sum.inl 0, x)])) := Same.new hc
      have q4 := Same.new (o := .lst [.ref a, .ref b, .ref c]) hl
      have q := ((q1.trans q2).trans q3).trans q4
      have z3 := (q3 _ _ z2)
      have lp : l ≠ p := fun z => by rw [z, z3] at hl; cases hl
      have ga : NS K p (upd (upd (upd (upd H3 a (.lst [x])) b (.tup [x])) c (.dK [(Sum.inl 0, x)])) l (.lst [.ref a, .ref b, .ref c])) (.ref a) := .inl ⟨a, rfl, ap, .inl ⟨_, ((q2.trans q3).trans q4) _ _ upd_same⟩⟩
      have gb : NS K p (upd (upd (upd (upd H3 a (.lst [x])) b (.tup [x])) c (.dK [(Sum.inl 0, x)])) l (.lst [.ref a, .ref b, .ref c])) (.ref b) := .inr ⟨b, [x], rfl, SqT.of ((q3.trans q4) _ _ upd_same)⟩
      have gc : NS K p (upd (upd (upd (upd H3 a (.lst [x])) b (.tup [x])) c (.dK [(Sum.inl 0, x)])) l (.lst [.ref a, .ref b, .ref c])) (.ref c) := .inl ⟨c, rfl, cp, .inr ⟨_, q4 _ _ upd_same⟩⟩
      refine ⟨_, rfl, p, 3, rfl, by decide, by decide, S3.hand.same q, fun d H4 d0 d1 S4 => ?_⟩
      obtain ⟨y, hy, hat⟩ := at_pick (xs := [.ref a, .ref b, .ref c]) d0 (by simpa using d1)
      refine ⟨l, _, _, _, rfl, rfl, SqL.of (S4.keep _ _ lp upd_same), hat, y, _, rfl, S3.trans (S4.pre q), fun _ => ?_⟩
      refine NS.stp (S3.hand.same q) S4 ?_
      rcases List.mem_cons.mp hy with rfl | hy
      · exact ga
      rcases List.mem_cons.mp hy with rfl | hy
      · exact gb
      · rw [List.mem_singleton.mp hy]
        exact gc
    · rintro σ H3 ⟨x, u, rfl, S3, T3⟩
      exact ⟨_, rfl, k x H3 S3 (T3 (by omega))⟩
def spNumL : Sp := fun vs H Q _ => ∃ (x : Str), vs = [.str x] ∧ x.length ≤ 16000000 ∧ ∀ H', Same H H' → Q (optV (numO x)) H'
abbrev nLawNumber : List Str := ["_law_word", "_law_sign"]
theorem scLawNumber : FnScope nLawNumber ["_law_word"] (defScope s_law_number) := ⟨rfl, rfl, rfl, by decide +kernel, rfl, by decide +kernel, by decide +kernel⟩
theorem ok_number {f : Addr} {fd : FuncData} (F : Fun K "_law_number" "_law_number" s_law_number f fd) (T : NmA mg) : FnOk P w K mg base CX0 1 f fd ["_law_word"] spNumL := by
  refine F.ok scLawNumber (fun vs H Q E h => ?_) (fun cdv A' outer s H vs Q E hr h => ?_)
  · obtain ⟨x, rfl, _⟩ := h
    rfl
  · obtain ⟨x, rfl, xl, k⟩ := h
    have hu := hu_of hr
    refine ⟨_, pss_cons (ps_if (PW.pt (pw_or (pt_not (pt_chain op_le op_le pe_int (pe_callB call_len_str (by rfl) T.len PySem.boot_len (pa_cons (pv 0) pa_nil)) pe_int)) (pw_or1 (pt_not (pt_val (pe_callB (cr_all rfl) (by rfl) T.all (by decide +kernel) (pa_cons (pe_lc (own := [("_law_sign", 1)]) (g := (gName 1)) (tt := tYes) rfl scLawNumber.nd  (pi_str (pv 0)) (blkOk_by (own := [("_law_sign", 1)]) (N := nLawNumber) (sc := defScope s_law_number) (by decide +kernel)) (fun _ _ _ _ _ => (pg_name (i := 1) scLawNumber.nd rfl (Or.inl rfl))) (fun _ _ _ _ _ => pts_nil) (fun _ _ _ _ _ => (pe_cmpR op_in_sign (pv 1) pe_str (by rfl)))) pa_nil)))))))
        (pss_one (ps_ret pe_non)) pss_nil)
      (pss_one (ps_ret (pe_ifExp (PW.pt (pw_and (pt_cmpR op_gt (pe_callB call_len_str (by rfl) T.len PySem.boot_len (pa_cons (pv 0) pa_nil)) pe_int (nomark _)) (pw_and1 (pt_cmpR op_eq (pe_ix ix_str (pv 0) pe_int (fun _ _ => rfl)) pe_str (nomark _))))) pe_non (pe_callTy call_int_str (by rfl) T.int (by decide +kernel) (pa_cons (pv 0) pa_nil))))), ?_⟩
    have z : x.length ≤ sizeLine := by rw [sizeLine_eq]; omega
    have l := len_tl x
    refine ⟨_, rfl, _, rfl, z, _, _, rfl, rfl, _, rfl, ?_⟩
    have bad : ∀ H', Same H H' → (¬ (1 ≤ x.length ∧ x.length ≤ 12) ∨ (tl x).all isDg = false) → Q .non H' := fun H' s h => by
      have kk := k H' s
      rw [numO_no h] at kk
      exact kk
    by_cases c1 : 1 ≤ x.length
    · rw [decide_eq_true (show (1 : Int) ≤ ((x.length : Nat) : Int) by omega)]
      refine iteT ⟨_, _, rfl, rfl, _, rfl, ?_⟩
      by_cases c2 : x.length ≤ 12
      · rw [decide_eq_true (show ((x.length : Nat) : Int) ≤ 12 by omega)]
        refine iteF ?_
        refine ⟨_, rfl, x, rfl, fun D hD => ?_⟩
        have sz : x.cps.size = x.length := rfl
        refine lc_it walk_str (fun i H' => Same H H' ∧ H' D = some (.lst ((((tl x).take i).map isDg).map V.bl))) ⟨Same.new hD, upd_same⟩ (fun i H' _ g => trivial) (fun i y H3 H4 hi g hy => ?_) fun H3 g => ?_
        · obtain ⟨s3, g3⟩ := g
          obtain ⟨rfl, c, hc, rfl⟩ := hy
          have hc' : (tl x)[i]? = some c := by rw [← hc]; exact Array.getElem?_toList
          refine ⟨rfl, _, rfl, c, _, rfl, rfl, _, g3, ?_, s3.mut hD, ?_⟩
          · rw [List.length_map, List.length_map, List.length_take]
            exact small1000 (by omega)
          · rw [in_digs, upd_same, List.take_add_one, hc', List.map_append, List.map_append] <;> rfl
        · obtain ⟨s3, g3⟩ := g
          have ta : (tl x).take x.cps.size = tl x := List.take_of_length_le (by rw [← l]; exact Nat.le_refl _)
          rw [ta] at g3
          refine ⟨D, _, rfl, SqL.of g3, ?_⟩
          rw [all_take]
          refine ⟨_, rfl, ?_⟩
          cases ha : (tl x).all isDg with
          | false => exact iteT (bad H3 s3 (.inr ha))
          | true =>
            have e := numO_yes ⟨c1, c2⟩ ha
            have kk := k H3 s3
            rw [e] at kk
            have dg := all_dg.mp ha
            have ne : tl x ≠ [] := fun z => by rw [z] at l; have : x.length = 0 := l; omega
            have fin : ¬ (1 < x.length ∧ (tl x).head? = some 48) → ∃ a n, [V.str x] = [.str a] ∧ PySem.intText? a = some n ∧ a.length ≤ 640 ∧ Q (.int n) H3 := fun h => by
              rw [if_neg h] at kk
              exact ⟨x, _, rfl, intText_digits dg ne (by omega), by omega, kk⟩
            refine iteF ⟨_, rfl, x, rfl, z, _, _, rfl, rfl, _, rfl, ?_⟩
            by_cases c3 : 1 < x.length
            · rw [decide_eq_true (show ((x.length : Nat) : Int) > 1 by omega)]
              obtain ⟨c, r, hx⟩ : ∃ c r, tl x = c :: r := by
                cases h : tl x with
                | nil => exact absurd h ne
                | cons c r => exact ⟨c, r, rfl⟩
              have a0 : atI x.cps.toList 0 = some c := by
                rw [show x.cps.toList = c :: r from hx]
                exact atI_natN (i := 0) rfl
              refine iteT ⟨_, rfl, x, 0, c, rfl, rfl, z, a0, rfl, _, rfl, ?_⟩
              rw [dec_str]
              by_cases c4 : c = 48
              · rw [decide_eq_true (show (⟨#[c]⟩ : Str) = ("0" : Str) from ext_tl (by rw [tl_zero, c4] <;> rfl))]
                rw [if_pos ⟨c3, by rw [hx, c4] <;> rfl⟩] at kk
                exact iteT kk
              · rw [decide_eq_false (show ¬ (⟨#[c]⟩ : Str) = ("0" : Str) from fun z => c4 (by
                  have z := congrArg tl z
                  rw [tl_zero] at z
                  have z : [c] = [48] := z
                  simpa using z))]
                exact iteF ⟨_, rfl, fin fun z => c4 (by have := z.2; rw [hx] at this; exact Option.some.inj this)⟩
            · rw [decide_eq_false (show ¬ ((x.length : Nat) : Int) > 1 by omega)]
              exact iteF ⟨_, rfl, fin fun z => c3 z.1⟩
      · rw [decide_eq_false (show ¬ ((x.length : Nat) : Int) ≤ 12 by omega)]
        exact iteT (bad H (Same.refl H) (.inl fun z => c2 z.2))
    · rw [decide_eq_false (show ¬ (1 : Int) ≤ ((x.length : Nat) : Int) by omega)]
      exact iteF ⟨_, rfl, iteT (bad H (Same.refl H) (.inl fun z => c1 z.1))⟩
end
end Law

namespace L2
open PySem PySem.Spec PyProof.Rows TL
theorem tl_cutS_end {z : Str} : tl (cutS z (some (-1)) none) = (tl z).drop ((tl z).length - 1) := by
  unfold cutS
  show ((tl z).drop (HT.sIx z.length 0 (some (-1)))).take (z.length - HT.sIx z.length 0 (some (-1))) = _
  have l := len_tl z
  have e : HT.sIx z.length 0 (some (-1)) = z.length - 1 := by
    unfold HT.sIx
    simp only
    split <;> omega
  rw [e, l]
  exact List.take_of_length_le (by rw [List.length_drop]; omega)
theorem last_col (l : List Nat) : l.drop (l.length - 1) = [58] ↔ l.getLast? = some 58 := by
  rcases List.eq_nil_or_concat l with rfl | ⟨a, c, rfl⟩
  · simp
  · rw [List.concat_eq_append, List.getLast?_concat, List.length_append, show a.length + [c].length - 1 = a.length from Nat.add_sub_cancel _ _, List.drop_left]
    exact ⟨fun h => by rw [List.cons.inj h |>.1], fun h => by rw [Option.some.inj h]⟩
end L2
namespace Law
open PySem L2 TL
theorem low_is {t b : Int} (hb : 0 < b) : lowP t b = (t, b) ↔ Nat.gcd t.natAbs b.natAbs = 1 := by
  have g := gI_pos (t := t) hb
  constructor
  · intro h
    have h2 : b / gI t b = b := congrArg (fun z : Fr => z.2) h
    have d : gI t b ∣ b := by
      unfold gI
      exact Int.ofNat_dvd_left.mpr (Nat.gcd_dvd_right _ _)
    have m := Int.ediv_mul_cancel d
    rw [h2] at m
    have : gI t b = 1 := by
      have z : b * gI t b = b * 1 := by rw [m, Int.mul_one]
      exact Int.eq_of_mul_eq_mul_left (by omega) z
    unfold gI at this
    omega
  · intro h
    have e : gI t b = 1 := by unfold gI; rw [h] <;> rfl
    unfold lowP
    rw [e, Int.ediv_one, Int.ediv_one]
section
variable {P : Program} {w : World} {K : PySem.W.Frag} {mg : Str → Option Value} {base : Heap}
def spHeadL : Sp := fun vs H Q _ => ∃ (x : Str), vs = [.str x] ∧ x.length ≤ 1000000 ∧ ∀ H', Same H H' → Q (optV (headO x)) H'
abbrev nLawHead : List Str := ["_law_line_here", "_law_words"]
theorem scLawHead : FnScope nLawHead ["_law_line_here"] (defScope s_law_head) := ⟨rfl, rfl, rfl, by decide +kernel, rfl, by decide +kernel, by decide +kernel⟩
theorem ok_head {f : Addr} {fd : FuncData} {fcNumL : Addr} {fdcNumL : FuncData} (F : Fun K "_law_head" "_law_head" s_law_head f fd) (T : NmA mg) (cNumL : Cl P w K mg base CX0 1 "_law_number" fcNumL fdcNumL ["_law_word"] spNumL) : FnOk P w K mg base CX0 2 f fd ["_law_line_here"] spHeadL := by
  refine F.ok scLawHead (fun vs H Q E h => ?_) (fun cdv A' outer s H vs Q E hr h => ?_)
  · obtain ⟨x, rfl, _⟩ := h
    rfl
  · obtain ⟨x, rfl, xl, k⟩ := h
    have hu := hu_of hr
    refine ⟨_, pss_cons (ps_set (i := 1) scLawHead.nd rfl (Or.inl rfl) (pe_m1 PySem.F.slot_str_split PySem.F.type_str_split mt_split (pv 0) pe_str))
      (pss_one (ps_ret (pe_ifExp (PW.pt (pw_and (pt_cmpR op_eq (pe_callB call_len_seq (by rfl) T.len PySem.boot_len (pa_cons (pv 1) pa_nil)) pe_int (nomark _)) (pw_and1 (pt_cmpR op_eq (pe_ix ix_list (pv 1) pe_int (fun _ _ => rfl)) pe_str (nomark _))))) (cNumL.call (hr.mono (by decide)) (pa_cons (pe_ix ix_list (pv 1) pe_int (fun _ _ => rfl)) pa_nil)) pe_non))), ?_⟩
    rw [← head_eq] at k
    unfold headL at k
    obtain ⟨wl, cl⟩ := spl_bound x
    rw [← sp_is] at wl cl k
    refine ⟨_, rfl, ⟨_, rfl⟩, x, _, rfl, rfl, by decide +kernel, by rw [sizeLine_eq]; omega, fun p hp => ?_⟩
    refine new_step hp fun H1 s1 e1 => ?_
    generalize Txt.split x (" " : Str) = ws at wl cl e1 k
    refine ⟨_, rfl, p, _, rfl, .inl (SqL.of e1), rfl, _, rfl, ?_⟩
    rw [List.length_map]
    match ws, wl, e1, k with
    | [], _, _, k => exact iteF (k H1 s1)
    | [a], _, _, k => exact iteF (k H1 s1)
    | a :: b :: c :: r, _, _, k =>
      rw [decide_eq_false (show ¬ V.int (((a :: b :: c :: r).length : Nat) : Int) = V.int 2 from fun z => by have := V.int.inj z; simp at this; omega)]
      exact iteF (k H1 s1)
    | [a, b], wl, e1, k =>
      refine iteT ⟨_, rfl, p, _, _, .str a, rfl, rfl, SqL.of e1, atI_nat (i := 0) rfl, rfl, _, rfl, ?_⟩
      rw [dec_str]
      have kk := k
      by_cases e : a = ("states" : Str)
      · rw [decide_eq_true e]
        refine iteT ⟨_, rfl, p, _, _, .str b, rfl, rfl, SqL.of e1, atI_nat (i := 1) rfl, b, rfl, by have := wl b (by simp); omega, fun H2 s2 => ?_⟩
        have z := k H2 (s1.trans s2)
        change Q (optV (if a = ("states" : Str) then numO b else none)) H2 at z
        rw [if_pos e] at z
        exact z
      · rw [decide_eq_false e]
        have z := k H1 s1
        change Q (optV (if a = ("states" : Str) then numO b else none)) H1 at z
        rw [if_neg e] at z
        exact iteF z
def spShareL (K : PySem.W.Frag) : Sp := fun vs H Q _ => ∃ (x : Str), vs = [.str x] ∧ x.length ≤ 1000000 ∧ (∀ H', fracO x = none → Same H H' → Q .non H') ∧ (∀ f p H', fracO x = some f → Same H H' → SqT K H' p [.int f.1, .int f.2] → Q (.ref p) H')
theorem spl47_bound (x : Str) : (∀ u ∈ Txt.split x (⟨#[47]⟩ : Str), u.length ≤ x.length) ∧ (Txt.split x (⟨#[47]⟩ : Str)).length ≤ x.length + 1 := by
  have hy : tl (⟨#[47]⟩ : Str) = [47] := rfl
  have e := split_spl x (⟨#[47]⟩ : Str) (by rw [hy]; simp) (kind_ok (by simp))
  rw [hy] at e
  have j : joinL [47] (spl [47] 0 [] (tl x)) = tl x := by rw [join_spl, List.nil_append]
  refine ⟨fun u hu => ?_, ?_⟩
  · have m : tl u ∈ spl [47] 0 [] (tl x) := by rw [← e]; exact List.mem_map.mpr ⟨u, hu, rfl⟩
    have := mem_joinL 47 m
    rw [j, ← len_tl, ← len_tl] at this
    exact this
  · have z := cnt_joinL 47 (spl [47] 0 [] (tl x))
    rw [j, ← len_tl, ← e, List.length_map] at z
    exact z
abbrev nLawShare : List Str := ["_law_word", "_law_parts", "_law_told_here", "_law_part"]
theorem scLawShare : FnScope nLawShare ["_law_word"] (defScope s_law_share) := ⟨rfl, rfl, rfl, by decide +kernel, rfl, by decide +kernel, by decide +kernel⟩
theorem ok_share {f : Addr} {fd : FuncData} {fcNumL : Addr} {fdcNumL : FuncData} {fcLow : Addr} {fdcLow : FuncData} (F : Fun K "_law_share" "_law_share" s_law_share f fd) (T : NmA mg) (cNumL : Cl P w K mg base CX0 1 "_law_number" fcNumL fdcNumL ["_law_word"] spNumL) (cLow : Cl P w K mg base CX0 34 "_law_low" fcLow fdcLow ["_law_top", "_law_bottom"] spLow) : FnOk P w K mg base CX0 35 f fd ["_law_word"] (spShareL K) := by
  refine F.ok scLawShare (fun vs H Q E h => ?_) (fun cdv A' outer s H vs Q E hr h => ?_)
  · obtain ⟨x, rfl, _⟩ := h
    rfl
  · obtain ⟨x, rfl, xl, k1, k2⟩ := h
    have hu := hu_of hr
    refine ⟨_, pss_cons (ps_set (i := 1) scLawShare.nd rfl (Or.inl rfl) (pe_m1 PySem.F.slot_str_split PySem.F.type_str_split mt_split (pv 0) pe_str))
      (pss_cons (ps_setLc (i := 2) (own := [("_law_part", 3)]) (g := (gName 3)) (tt := tYes) (by rfl) scLawShare.nd rfl rfl (sw_true rfl rfl rfl (by decide +kernel)) (pi_list (pv 1)) (blkOk_by (own := [("_law_part", 3)]) (N := nLawShare) (sc := defScope s_law_share) (by decide +kernel)) (fun _ _ _ _ _ => (pg_name (i := 3) scLawShare.nd rfl (Or.inl rfl))) (fun _ _ _ _ _ => pts_nil) (fun _ _ _ _ _ => (cNumL.call (hr.mono (by decide)) (pa_cons (pv 3) pa_nil))))
      (pss_cons (ps_if (PW.pt (pw_or (pt_cmpR op_in_seq pe_non (pv 2) (by rfl)) (pw_or1 (pt_cmpR op_gt (pe_callB call_len_seq (by rfl) T.len PySem.boot_len (pa_cons (pv 2) pa_nil)) pe_int (nomark _)))))
        (pss_one (ps_ret pe_non)) pss_nil)
      (pss_cons (ps_if (pt_cmpR op_eq (pe_callB call_len_seq (by rfl) T.len PySem.boot_len (pa_cons (pv 2) pa_nil)) pe_int (nomark _))
        (pss_one (ps_ret (pe_tup (pa_cons (pe_ix ix_list (pv 2) pe_int (fun _ _ => rfl)) (pa_cons pe_int pa_nil))))) pss_nil)
      (pss_one (ps_ret (pe_ifExp (PW.pt (pw_and (pt_cmpR op_gt (pe_ix ix_list (pv 2) pe_int (fun _ _ => rfl)) pe_int (nomark _)) (pw_and1 (pt_cmpR (op_eqD hr.units) (cLow.call (hr.mono (by decide)) (pa_cons (pe_ix ix_list (pv 2) pe_int (fun _ _ => rfl)) (pa_cons (pe_ix ix_list (pv 2) pe_int (fun _ _ => rfl)) pa_nil))) (pe_tup (pa_cons (pe_ix ix_list (pv 2) pe_int (fun _ _ => rfl)) (pa_cons (pe_ix ix_list (pv 2) pe_int (fun _ _ => rfl)) pa_nil))) (nomark _))))) (pe_tup (pa_cons (pe_ix ix_list (pv 2) pe_int (fun _ _ => rfl)) (pa_cons (pe_ix ix_list (pv 2) pe_int (fun _ _ => rfl)) pa_nil))) pe_non)))))), ?_⟩
    rw [← frac_eq] at k1 k2
    unfold fracL at k1 k2
    obtain ⟨wl, cl⟩ := spl47_bound x
    have ne0 := split_ne (x := x) (c := 47) (by decide)
    rw [← sl_is] at wl cl k1 k2 ne0
    refine ⟨_, rfl, ⟨_, rfl⟩, x, _, rfl, rfl, by decide +kernel, by rw [sizeLine_eq]; omega, fun p hp => ?_⟩
    refine new_step hp fun H1 s1 e1 => ?_
    generalize Txt.split x ("/" : Str) = ws at wl cl e1 k1 k2 ne0
    refine ⟨_, rfl, p, rfl, ⟨_, SqL.of e1⟩, fun D hD => ?_⟩
    refine lc_list (K := K) (a := p) (xs := ws.map V.str) (fun i H' => Same H1 H' ∧ H' D = some (.lst (((ws.take i).map numO).map optV))) ⟨Same.new hD, upd_same⟩ (fun i H' _ g => SqL.of (g.1 _ _ e1)) (fun i y H2 hi g => ?_) fun H2 g => ?_
    · obtain ⟨s2, g2⟩ := g
      rw [List.getElem?_map] at hi
      obtain ⟨u, hu, rfl⟩ := Option.map_eq_some_iff.mp hi
      have il := (List.getElem?_eq_some_iff.mp hu).1
      refine ⟨rfl, _, rfl, u, rfl, by have := wl u (List.mem_of_getElem? hu); omega, fun H3 s3 => ⟨_, s3 _ _ g2, ?_, (s2.trans s3).mut hD, ?_⟩⟩
      · rw [List.length_map, List.length_map, List.length_take, sizeLine_eq]
        omega
      · rw [upd_same, List.take_add_one, hu, List.map_append, List.map_append] <;> rfl
    · obtain ⟨s2, g2⟩ := g
      rw [List.length_map, List.take_length] at g2
      have s12 := s1.trans s2
      have one : ws.map numO ≠ [] := fun z => ne0 (List.map_eq_nil_iff.mp z)
      have onn : ∀ i : Int, some i ∈ ws.map numO → 0 ≤ i := fun i hi => by
        obtain ⟨u, _, hu⟩ := List.mem_map.mp hi
        exact (numO_nn hu).1
      generalize ws.map numO = os at g2 k1 k2 one onn
      refine ⟨_, rfl, D, _, rfl, .inl (SqL.of g2), rfl, flat_opts _, _, rfl, ?_⟩
      rw [inV_opts, if_neg Bool.false_ne_true]
      cases h : allO os with
      | none =>
        rw [decide_eq_true (allO_none.mp h)]
        rw [h] at k1
        exact iteT (k1 H2 rfl s12)
      | some l =>
        rw [decide_eq_false fun m => by rw [allO_none.mpr m] at h; cases h]
        rw [h] at k1 k2
        have e3 := allO_some h
        rw [e3, List.map_map] at g2
        have g2 : H2 D = some (.lst (l.map V.int)) := g2
        refine iteF ⟨_, rfl, D, _, rfl, .inl (SqL.of g2), _, _, rfl, rfl, _, rfl, ?_⟩
        rw [List.length_map]
        match l, e3, g2, k1, k2 with
        | [], e3, _, _, _ => exact absurd e3 one
        | [t], _, g2, k1, k2 =>
          refine iteF ⟨_, rfl, D, _, rfl, .inl (SqL.of g2), rfl, _, rfl, iteT ?_⟩
          refine ⟨_, rfl, D, _, _, .int t, rfl, rfl, SqL.of g2, atI_nat (i := 0) rfl, by show 2 ≤ sizeLine; decide, fun q hq => ?_⟩
          refine new_step hq fun H3 s3 e3 => ?_
          exact k2 (t, 1) q H3 rfl (s12.trans s3) (SqT.of e3)
        | t :: b :: c :: r, _, g2, k1, k2 =>
          rw [decide_eq_true (show (((t :: b :: c :: r).length : Nat) : Int) > 2 by simp; omega)]
          exact iteT (k1 H2 rfl s12)
        | [t, b], e3, g2, k1, k2 =>
          refine iteF ⟨_, rfl, D, _, rfl, .inl (SqL.of g2), rfl, _, rfl, iteF ?_⟩
          change (∀ H', (if 1 < b ∧ Nat.gcd t.natAbs b.natAbs = 1 then some (t, b) else none) = none → _) at k1
          change (∀ f p H', (if 1 < b ∧ Nat.gcd t.natAbs b.natAbs = 1 then some (t, b) else none) = some f → _) at k2
          have t0 : 0 ≤ t := onn t (by rw [e3]; simp)
          refine ⟨_, rfl, D, _, _, .int b, rfl, rfl, SqL.of g2, atI_nat (i := 1) rfl, _, _, rfl, rfl, _, rfl, ?_⟩
          by_cases b1 : 1 < b
          · rw [decide_eq_true (show b > 1 from b1)]
            refine iteT ⟨_, rfl, D, _, _, .int t, rfl, rfl, SqL.of g2, atI_nat (i := 0) rfl, _, rfl, D, _, _, .int b, rfl, rfl, SqL.of g2, atI_nat (i := 1) rfl, t, b, rfl, t0, by omega, fun q hq => ?_⟩
            refine new_step hq fun H3 s3 e3 => ?_
            have g3 := s3 _ _ g2
            refine ⟨_, rfl, D, _, _, .int t, rfl, rfl, SqL.of g3, atI_nat (i := 0) rfl, _, rfl, D, _, _, .int b, rfl, rfl, SqL.of g3, atI_nat (i := 1) rfl, by show 2 ≤ sizeLine; decide, fun q4 hq4 => ?_⟩
            refine new_step hq4 fun H4 s4 e4 => ?_
            refine ⟨frD (lowP t b), frD (t, b), .tup (s4.sqT (SqT.of e3)) (.cons (.int _) (.cons (.int _) .nil)), .tup (SqT.of e4) (.cons (.int _) (.cons (.int _) .nil)), shaped_of (lay_frD _) (by decide), shaped_of (lay_frD _) (by decide), _, rfl, ?_⟩
            rw [eqv_frD]
            have s34 := (s12.trans s3).trans s4
            by_cases g : Nat.gcd t.natAbs b.natAbs = 1
            · rw [decide_eq_true ((low_is (by omega)).mpr g)]
              have g4 := s4 _ _ g3
              refine iteT ⟨_, rfl, D, _, _, .int t, rfl, rfl, SqL.of g4, atI_nat (i := 0) rfl, _, rfl, D, _, _, .int b, rfl, rfl, SqL.of g4, atI_nat (i := 1) rfl, by show 2 ≤ sizeLine; decide, fun q5 hq5 => ?_⟩
              refine new_step hq5 fun H5 s5 e5 => ?_
              exact k2 (t, b) q5 H5 (if_pos ⟨b1, g⟩) (s34.trans s5) (SqT.of e5)
            · rw [decide_eq_false (fun z => g ((low_is (by omega)).mp z))]
              exact iteF (k1 H4 (if_neg fun z => g z.2) s34)
          · rw [decide_eq_false (show ¬ b > 1 from b1)]
            exact iteF (k1 H2 (if_neg fun z => b1 z.1) s12)
end
end Law

namespace Law
open PySem L2 TL
theorem cut_from1 {acc : List V} (la : 1 ≤ acc.length) : cutV acc (some 1) none = acc.drop 1 := by
  unfold cutV
  show (acc.drop (HT.sIx acc.length 0 (some ((1 : Nat) : Int)))).take (acc.length - HT.sIx acc.length 0 (some ((1 : Nat) : Int))) = _
  rw [HT.sIx_nat, Nat.min_eq_left la, List.take_of_length_le (by rw [List.length_drop]; omega)]
theorem mrg {te : TE} {σ : L2.St} {H : Hp} {Q : VK} (R : V → Hp → Prop) (h : ∀ Q' : VK, (∀ x H1, R x H1 → Q' x H1) → te σ H Q') (key : ∀ x H1, R x H1 → Q x H1) : te σ H Q := h Q key
theorem par_mrg {i j : Nat} {t1 : TE} {t2 : TA} {B : TS} {E : Ends} {σ : L2.St} {H : Hp} (R : V → Hp → Prop) (h : ∀ Q' : VK, (∀ x H1, R x H1 → Q' x H1) → t1 σ H Q') (key : ∀ x H1, R x H1 → t2 σ H1 fun vs H2 => ∃ v w, x :: vs = [v, w] ∧ B E ((σ.set i (some v)).set j (some w)) H2) {r : VK} {b c : L2.St → Hp → Prop} : tNext { nx := tSeq (tPar i j (tCons t1 t2)) B E, rt := r, bk := b, ct := c } σ H := h _ key
section
variable {P : Program} {w : World} {K : PySem.W.Frag} {mg : Str → Option Value} {base : Heap}
def spLineL (K : PySem.W.Frag) : Sp := fun vs H Q _ => ∃ (x : Str), vs = [.str x] ∧ x.length ≤ 1000000 ∧ (∀ H', moveO x = none → Same H H' → Q .non H') ∧ (∀ m p H', moveO x = some m → Same H H' → MvAt K H' (.ref p) m → Q (.ref p) H')
abbrev nLawLine : List Str := ["_law_line_here", "_law_words", "_law_share_here", "_law_states", "_law_word"]
theorem scLawLine : FnScope nLawLine ["_law_line_here"] (defScope s_law_line) := ⟨rfl, rfl, rfl, by decide +kernel, rfl, by decide +kernel, by decide +kernel⟩
theorem ok_line {f : Addr} {fd : FuncData} {fcShareL : Addr} {fdcShareL : FuncData} {fcNumL : Addr} {fdcNumL : FuncData} (F : Fun K "_law_line" "_law_line" s_law_line f fd) (T : NmA mg) (cShareL : Cl P w K mg base CX0 35 "_law_share" fcShareL fdcShareL ["_law_word"] (spShareL K)) (cNumL : Cl P w K mg base CX0 1 "_law_number" fcNumL fdcNumL ["_law_word"] spNumL) : FnOk P w K mg base CX0 36 f fd ["_law_line_here"] (spLineL K) := by
  refine F.ok scLawLine (fun vs H Q E h => ?_) (fun cdv A' outer s H vs Q E hr h => ?_)
  · obtain ⟨x, rfl, _⟩ := h
    rfl
  · obtain ⟨x, rfl, xl, k1, k2⟩ := h
    have hu := hu_of hr
    refine ⟨_, pss_cons (ps_set (i := 1) scLawLine.nd rfl (Or.inl rfl) (pe_m1 PySem.F.slot_str_split PySem.F.type_str_split mt_split (pv 0) pe_str))
      (pss_cons (ps_if (PW.pt (pw_or (pt_cmpR op_lt (pe_callB call_len_seq (by rfl) T.len PySem.boot_len (pa_cons (pv 1) pa_nil)) pe_int (nomark _)) (pw_or1 (pt_cmpR op_ne (pe_slice sl_str (pe_ix ix_list (pv 1) pe_int (fun _ _ => rfl)) (po_some (pe_un un_neg pe_int)) po_none) pe_str (nomark _)))))
        (pss_one (ps_ret pe_non)) pss_nil)
      (pss_cons (ps_par (i := 2) (j := 3) (by rfl) scLawLine.nd rfl rfl (by decide) rfl rfl (pa_cons (cShareL.call (hr.mono (by decide)) (pa_cons (pe_slice sl_str (pe_ix ix_list (pv 1) pe_int (fun _ _ => rfl)) po_none (po_some (pe_un un_neg pe_int))) pa_nil)) (pa_cons (pe_callTy call_tuple_of (by rfl) T.tuple (by decide +kernel) (pa_cons (pe_lc (own := [("_law_word", 4)]) (g := (gName 4)) (tt := tYes) rfl scLawLine.nd  (pi_list (pe_slice sl_list (pv 1) (po_some pe_int) po_none)) (blkOk_by (own := [("_law_word", 4)]) (N := nLawLine) (sc := defScope s_law_line) (by decide +kernel)) (fun _ _ _ _ _ => (pg_name (i := 4) scLawLine.nd rfl (Or.inl rfl))) (fun _ _ _ _ _ => pts_nil) (fun _ _ _ _ _ => (cNumL.call (hr.mono (by decide)) (pa_cons (pv 4) pa_nil)))) pa_nil)) pa_nil)) (by rfl))
      (pss_one (ps_ret (pe_ifExp (PW.pt (pw_or (pt_cmpR op_isN (pv 2) pe_non (nomark _)) (pw_or1 (pt_cmpR op_in_seq pe_non (pv 3) (by rfl))))) pe_non (pe_tup (pa_cons (pv 2) (pa_cons (pv 3) pa_nil)))))))), ?_⟩
    rw [← line_eq] at k1 k2
    unfold lineL at k1 k2
    obtain ⟨wl, cl⟩ := spl_bound x
    rw [← sp_is] at wl cl k1 k2
    refine ⟨_, rfl, ⟨_, rfl⟩, x, _, rfl, rfl, by decide +kernel, by rw [sizeLine_eq]; omega, fun p hp => ?_⟩
    refine new_step hp fun H1 s1 e1 => ?_
    generalize Txt.split x (" " : Str) = ws at wl cl e1 k1 k2
    refine ⟨_, rfl, p, _, rfl, .inl (SqL.of e1), _, _, rfl, rfl, _, rfl, ?_⟩
    rw [List.length_map]
    match ws, wl, cl, e1, k1, k2 with
    | [], _, _, _, k1, _ => exact iteT (k1 H1 rfl s1)
    | [a], _, _, _, k1, _ => exact iteT (k1 H1 rfl s1)
    | z :: v :: r, wl, cl, e1, k1, k2 =>
      change (∀ H', (if (tl z).getLast? = some 58 then (match fracO ⟨(tl z).dropLast.toArray⟩, allO ((v :: r).map numO) with
        | some f, some l => some (f, l)
        | _, _ => none) else none) = none → _) at k1
      change (∀ m p H', (if (tl z).getLast? = some 58 then (match fracO ⟨(tl z).dropLast.toArray⟩, allO ((v :: r).map numO) with
        | some f, some l => some (f, l)
        | _, _ => none) else none) = some m → _) at k2
      rw [decide_eq_false (show ¬ (((z :: v :: r).length : Nat) : Int) < 2 by simp; omega)]
      have zl := wl z (by simp)
      have zz : z.length ≤ sizeLine := by rw [sizeLine_eq]; omega
      refine iteF ?_
      unfold tNoPart
      refine ⟨_, rfl, p, _, _, .str z, rfl, rfl, SqL.of e1, atI_nat (i := 0) rfl, _, rfl, _, rfl, z, rfl, zz, rfl, _, rfl, ?_⟩
      rw [dec_str]
      have ce : cutS z (some (-1)) none = (":" : Str) ↔ (tl z).getLast? = some 58 := by
        rw [← last_col]
        have tc : tl (":" : Str) = [58] := by decide +kernel
        constructor
        · intro h
          have := congrArg tl h
          rw [tl_cutS_end, tc] at this
          exact this
        · intro h
          exact ext_tl (by rw [tl_cutS_end, tc]; exact h)
      by_cases c : (tl z).getLast? = some 58
      · rw [decide_eq_true (ce.mpr c)]
        rw [if_pos c] at k1 k2
        have db : (⟨(tl z).dropLast.toArray⟩ : Str) = cutS z none (some (-1)) := ext_tl (by rw [tl_cutS_last, ← List.dropLast_eq_take] <;> rfl)
        rw [db] at k1 k2
        have zl2 : (cutS z none (some (-1))).length ≤ z.length := cutS_length _ _ _
        have al : (v :: r).length ≤ 1000001 := by
          simp at cl ⊢
          omega
        refine iteF (par_mrg (fun y H2 => Same H1 H2 ∧ ((fracO (cutS z none (some (-1))) = none ∧ y = .non) ∨ ∃ f a, fracO (cutS z none (some (-1))) = some f ∧ y = .ref a ∧ SqT K H2 a [.int f.1, .int f.2])) (fun Q' key => ?_) ?_)
        · refine ⟨_, rfl, p, _, _, .str z, rfl, rfl, SqL.of e1, atI_nat (i := 0) rfl, _, rfl, _, rfl, z, rfl, zz, _, rfl, by omega, fun H2 h2 s2 => ?_, fun f a H2 h2 s2 ha => ?_⟩
          · exact key _ _ ⟨s2, .inl ⟨h2, rfl⟩⟩
          · exact key _ _ ⟨s2, .inr ⟨f, a, h2, rfl, ha⟩⟩
        rintro y H2 ⟨s2, hy⟩
        have g1 := s2 _ _ e1
        refine ⟨_, rfl, 1, rfl, p, _, rfl, SqL.of g1, fun q hq => ?_⟩
        rw [cut_from1 (by simp)]
        refine new_step hq fun H3 s3 e3 => ?_
        have e3 : H3 q = some (.lst ((v :: r).map V.str)) := e3
        refine ⟨q, rfl, ⟨_, SqL.of e3⟩, fun D hD => ?_⟩
        have wl2 : ∀ u ∈ v :: r, u.length ≤ x.length := fun u hu => wl u (List.mem_cons_of_mem _ hu)
        generalize hvr : v :: r = us at al e3 k1 k2 wl2
        refine lc_list (K := K) (a := q) (xs := us.map V.str) (fun i H' => Same H3 H' ∧ H' D = some (.lst (((us.take i).map numO).map optV))) ⟨Same.new hD, upd_same⟩ (fun i H' _ g => SqL.of (g.1 _ _ e3)) (fun i y H4 hi g => ?_) fun H4 g => ?_
        · obtain ⟨s4, g4⟩ := g
          rw [List.getElem?_map] at hi
          obtain ⟨u, hu, rfl⟩ := Option.map_eq_some_iff.mp hi
          have il := (List.getElem?_eq_some_iff.mp hu).1
          refine ⟨rfl, _, rfl, u, rfl, by have := wl2 u (List.mem_of_getElem? hu); omega, fun H5 s5 => ⟨_, s5 _ _ g4, ?_, (s4.trans s5).mut hD, ?_⟩⟩
          · rw [List.length_map, List.length_map, List.length_take, sizeLine_eq]
            omega
          · rw [upd_same, List.take_add_one, hu, List.map_append, List.map_append] <;> rfl
        · obtain ⟨s4, g4⟩ := g
          rw [List.length_map, List.take_length] at g4
          refine ⟨D, _, rfl, .inl ⟨SqL.of g4, fun l hl => ?_⟩⟩
          refine new_step hl fun H5 s5 e5 => ?_
          have s35 := (s3.trans s4).trans s5
          have sAll := (s1.trans s2).trans s35
          rcases hy with ⟨f0, rfl⟩ | ⟨f, a, f0, rfl, ha⟩
          · refine ⟨_, _, rfl, ?_⟩
            rw [f0] at k1
            exact ⟨_, rfl, rfl, _, rfl, iteT (k1 H5 rfl sAll)⟩
          · refine ⟨_, _, rfl, ?_⟩
            refine ⟨_, rfl, rfl, _, rfl, iteF ⟨_, rfl, l, _, rfl, .inr (SqT.of e5), rfl, flat_opts _, _, rfl, ?_⟩⟩
            rw [inV_opts, if_neg Bool.false_ne_true]
            rw [f0] at k1 k2
            cases h : allO (us.map numO) with
            | none =>
              rw [decide_eq_true (allO_none.mp h)]
              rw [h] at k1
              exact iteT (k1 H5 rfl sAll)
            | some l' =>
              rw [decide_eq_false fun m => by rw [allO_none.mpr m] at h; cases h]
              rw [h] at k2
              have z3 := allO_some h
              rw [z3, List.map_map] at e5
              refine iteF ⟨_, rfl, _, rfl, by show 2 ≤ sizeLine; decide, fun q6 hq6 => ?_⟩
              refine new_step hq6 fun H6 s6 e6 => ?_
              exact k2 (f, l') q6 H6 rfl (sAll.trans s6) ⟨q6, a, l, rfl, SqT.of e6, s6.sqT (s35.sqT ha), s6.sqT (SqT.of e5)⟩
      · rw [decide_eq_false fun h => c (ce.mp h)]
        exact iteT (k1 H1 (if_neg c) s1)
end
end Law

namespace Law
open PySem L2
theorem sum_nn : ∀ {xs : List Int}, (∀ x ∈ xs, 0 ≤ x) → 0 ≤ xs.sum
  | [], _ => Int.le_refl _
  | x :: xs, h => by
    rw [List.sum_cons]
    exact Int.add_nonneg (h x List.mem_cons_self) (sum_nn fun y hy => h y (List.mem_cons_of_mem _ hy))
theorem le_sum : ∀ {xs : List Int}, (∀ x ∈ xs, 0 ≤ x) → ∀ x ∈ xs, x ≤ xs.sum
  | x :: xs, h, y, hy => by
    rw [List.sum_cons]
    have a := h x List.mem_cons_self
    have b := sum_nn fun z hz => h z (List.mem_cons_of_mem x hz)
    rcases List.mem_cons.mp hy with rfl | hy
    · omega
    · have := le_sum (fun z hz => h z (List.mem_cons_of_mem x hz)) y hy
      omega
end Law
namespace Law
open PySem L2
/-! ### fractions in lowest terms over any bottom -/
theorem lowP_scale {k t b : Int} (hk : 0 < k) (hb : 0 < b) : lowP (k * t) (k * b) = lowP t b := by
  have g : gI (k * t) (k * b) = k * gI t b := by
    unfold gI
    rw [Int.natAbs_mul, Int.natAbs_mul, Nat.gcd_mul_left, Int.natCast_mul, Int.natAbs_of_nonneg (Int.le_of_lt hk)]
  unfold lowP
  rw [g, Int.mul_ediv_mul_of_pos _ _ hk, Int.mul_ediv_mul_of_pos _ _ hk]
theorem lowP_eq {t b u d : Int} (hb : 0 < b) (hd : 0 < d) (h : t * d = u * b) : lowP t b = lowP u d := by
  rw [← lowP_scale hd hb, ← lowP_scale (t := u) hb hd, Int.mul_comm d t, h, Int.mul_comm u b, Int.mul_comm d b]
theorem lowP_pos2 {t b : Int} (hb : 0 < b) : 0 < (lowP t b).2 := by
  have g := gI_pos (t := t) hb
  refine Int.ediv_pos_of_pos_of_dvd hb (Int.le_of_lt g) ?_
  unfold gI
  exact Int.ofNat_dvd_left.mpr (Nat.gcd_dvd_right _ _)
theorem lowP_nn {t b : Int} (ht : 0 ≤ t) (hb : 0 < b) : 0 ≤ (lowP t b).1 := Int.ediv_nonneg ht (Int.le_of_lt (gI_pos hb))
theorem mul4 (a b c d : Int) : a * b * (c * d) = a * c * (b * d) := by
  rw [Int.mul_assoc, Int.mul_left_comm b c d, ← Int.mul_assoc]
def plusF (f g : Fr) : Fr := lowP (f.1 * g.2 + g.1 * f.2) (f.2 * g.2)
def timesF (f g : Fr) : Fr := lowP (f.1 * g.1) (f.2 * g.2)
theorem plus_low {t u b : Int} (hb : 0 < b) : plusF (lowP t b) (lowP u b) = lowP (t + u) b := by
  have c1 := lowP_cross (t := t) hb
  have c2 := lowP_cross (t := u) hb
  refine lowP_eq (Int.mul_pos (lowP_pos2 hb) (lowP_pos2 hb)) hb ?_
  generalize lowP t b = f at c1 ⊢
  generalize lowP u b = g at c2 ⊢
  have e1 : f.1 * g.2 * b = t * (f.2 * g.2) := by rw [Int.mul_right_comm, Int.mul_comm f.1 b, c1, Int.mul_assoc]
  have e2 : g.1 * f.2 * b = u * (f.2 * g.2) := by rw [Int.mul_right_comm, Int.mul_comm g.1 b, c2, Int.mul_assoc, Int.mul_comm g.2]
  rw [Int.add_mul, e1, e2, Int.add_mul]
theorem times_low {t u b c : Int} (hb : 0 < b) (hc : 0 < c) : timesF (lowP t b) (lowP u c) = lowP (t * u) (b * c) := by
  have c1 := lowP_cross (t := t) hb
  have c2 := lowP_cross (t := u) hc
  refine lowP_eq (Int.mul_pos (lowP_pos2 hb) (lowP_pos2 hc)) (Int.mul_pos hb hc) ?_
  generalize lowP t b = f at c1 ⊢
  generalize lowP u c = g at c2 ⊢
  rw [mul4, Int.mul_comm f.1, Int.mul_comm g.1, c1, c2, mul4]
theorem low_zero {b : Int} (hb : 0 < b) : lowP 0 b = (0, 1) := by
  have g : gI 0 b = b := by
    unfold gI
    rw [show (0 : Int).natAbs = 0 from rfl, Nat.gcd_zero_left]
    omega
  unfold lowP
  rw [g, Int.zero_ediv, Int.ediv_self (by omega)]
/-- sizes that all rules reach -/
structure Sz (f : Fr) : Prop where
  t0 : 0 ≤ f.1
  b0 : 0 < f.2
  tl : f.1.natAbs < 2 ^ 26000
  bl : f.2.natAbs < 2 ^ 26000
theorem sz_low {t b : Int} (ht : 0 ≤ t) (hb : 0 < b) (h1 : t.natAbs < 2 ^ 26000) (h2 : b.natAbs < 2 ^ 26000) : Sz (lowP t b) := by
  obtain ⟨a, c⟩ := lowP_le ht hb
  have p := lowP_pos2 (t := t) hb
  have n := lowP_nn ht hb
  exact ⟨n, p, wide_le n a h1, wide_le (Int.le_of_lt p) c h2⟩
section
variable {P : Program} {w : World} {K : PySem.W.Frag} {mg : Str → Option Value} {base : Heap}
def spPlus (K : PySem.W.Frag) : Sp := fun vs H Q _ => ∃ (a c : Addr) (f g : Fr), vs = [.ref a, .ref c] ∧ SqT K H a [.int f.1, .int f.2] ∧ SqT K H c [.int g.1, .int g.2] ∧ Sz f ∧ Sz g ∧
  ∀ p, H p = none → Q (.ref p) (upd H p (.tup [.int (plusF f g).1, .int (plusF f g).2]))
abbrev nLawPlus : List Str := ["_law_one", "_law_other"]
theorem scLawPlus : FnScope nLawPlus ["_law_one", "_law_other"] (defScope s_law_plus) := ⟨rfl, rfl, rfl, by decide +kernel, rfl, by decide +kernel, by decide +kernel⟩
theorem ok_plus {f : Addr} {fd : FuncData} {fcLow : Addr} {fdcLow : FuncData} (F : Fun K "_law_plus" "_law_plus" s_law_plus f fd) (T : NmA mg) (cLow : Cl P w K mg base CX0 34 "_law_low" fcLow fdcLow ["_law_top", "_law_bottom"] spLow) : FnOk P w K mg base CX0 35 f fd ["_law_one", "_law_other"] (spPlus K) := by
  refine F.ok scLawPlus (fun vs H Q E h => ?_) (fun cdv A' outer s H vs Q E hr h => ?_)
  · obtain ⟨a, c, f, g, rfl, _⟩ := h
    rfl
  · obtain ⟨a, c, f, g, rfl, ha, hc, sf, sg, k⟩ := h
    have hu := hu_of hr
    refine ⟨_, pss_one (ps_ret (cLow.call (hr.mono (by decide)) (pa_cons (pe_op op_add (pe_op op_mulW (pe_ix ix_tup (pv 0) pe_int (fun _ _ => rfl)) (pe_ix ix_tup (pv 1) pe_int (fun _ _ => rfl))) (pe_op op_mulW (pe_ix ix_tup (pv 1) pe_int (fun _ _ => rfl)) (pe_ix ix_tup (pv 0) pe_int (fun _ _ => rfl)))) (pa_cons (pe_op op_mulW (pe_ix ix_tup (pv 0) pe_int (fun _ _ => rfl)) (pe_ix ix_tup (pv 1) pe_int (fun _ _ => rfl))) pa_nil)))), ?_⟩
    have w1 : (f.1 * g.2).natAbs < 2 ^ 52000 := wide_lt sf.tl sg.bl
    have w2 : (g.1 * f.2).natAbs < 2 ^ 52000 := wide_lt sg.tl sf.bl
    refine ⟨_, rfl, a, _, _, _, rfl, rfl, ha, ats0 _ _, _, rfl, c, _, _, _, rfl, rfl, hc, ats1 _ _, _, _, rfl, rfl, wide_mul sf.tl sg.bl (by decide) (by decide) (by decide), ?_⟩
    refine ⟨_, rfl, c, _, _, _, rfl, rfl, hc, ats0 _ _, _, rfl, a, _, _, _, rfl, rfl, ha, ats1 _ _, _, _, rfl, rfl, wide_mul sg.tl sf.bl (by decide) (by decide) (by decide), _, _, rfl, rfl, ?_⟩
    refine ⟨_, rfl, a, _, _, _, rfl, rfl, ha, ats1 _ _, _, rfl, c, _, _, _, rfl, rfl, hc, ats1 _ _, _, _, rfl, rfl, wide_mul sf.bl sg.bl (by decide) (by decide) (by decide), ?_⟩
    exact ⟨_, _, rfl, Int.add_nonneg (Int.mul_nonneg sf.t0 (Int.le_of_lt sg.b0)) (Int.mul_nonneg sg.t0 (Int.le_of_lt sf.b0)), Int.mul_pos sf.b0 sg.b0, k⟩
/-- the sum of fractions over one bottom -/
def spSumL (K : PySem.W.Frag) : Sp := fun vs H Q _ => ∃ (a : Addr) (us : List V) (ts : List Int) (b : Int), vs = [.ref a] ∧ H a = some (.lst us) ∧ FrsIn K H us (ts.map fun t => lowP t b) ∧ 0 < b ∧ (∀ t ∈ ts, 0 ≤ t) ∧ b.natAbs < 2 ^ 26000 ∧ ts.sum.natAbs < 2 ^ 26000 ∧
  ∀ p H', H p = none → Same H H' → H' p = some (.tup [.int (lowP ts.sum b).1, .int (lowP ts.sum b).2]) → Q (.ref p) H'
abbrev nLawSum : List Str := ["_law_some", "_law_found", "_law_one"]
theorem scLawSum : FnScope nLawSum ["_law_some"] (defScope s_law_sum) := ⟨rfl, rfl, rfl, by decide +kernel, rfl, by decide +kernel, by decide +kernel⟩
theorem ok_sumL {f : Addr} {fd : FuncData} {fcPlus : Addr} {fdcPlus : FuncData} (F : Fun K "_law_sum" "_law_sum" s_law_sum f fd) (T : NmA mg) (cPlus : Cl P w K mg base CX0 35 "_law_plus" fcPlus fdcPlus ["_law_one", "_law_other"] (spPlus K)) : FnOk P w K mg base CX0 36 f fd ["_law_some"] (spSumL K) := by
  refine F.ok scLawSum (fun vs H Q E h => ?_) (fun cdv A' outer s H vs Q E hr h => ?_)
  · obtain ⟨a, us, ts, b, rfl, _⟩ := h
    rfl
  · obtain ⟨a, us, ts, b, rfl, hA, hF, b0, t0, b1, s1, k⟩ := h
    have hu := hu_of hr
    refine ⟨_, pss_cons (ps_set (i := 1) scLawSum.nd rfl (Or.inl rfl) (pe_tup (pa_cons pe_int (pa_cons pe_int pa_nil))))
      (pss_cons (ps_for PassesOwn.never rfl (pi_list (pv 0)) (pg_name (i := 2) scLawSum.nd rfl (Or.inl rfl))
        (pss_one (ps_set (i := 1) scLawSum.nd rfl (Or.inl rfl) (cPlus.call (hr.mono (by decide)) (pa_cons (pv 1) (pa_cons (pv 2) pa_nil))))))
      (pss_one (ps_ret (pv 1)))), ?_⟩
    have tb : ∀ i, (ts.take i).sum.natAbs < 2 ^ 26000 ∧ 0 ≤ (ts.take i).sum := fun i => by
      have n1 := sum_nn fun x hx => t0 x (List.mem_of_mem_take (i := i) hx)
      have n2 := sum_nn fun x hx => t0 x (List.mem_of_mem_drop (i := i) hx)
      have e : (ts.take i).sum + (ts.drop i).sum = ts.sum := by rw [← List.sum_append, List.take_append_drop]
      exact ⟨wide_le n1 (by omega) s1, n1⟩
    refine ⟨by show 2 ≤ sizeLine; decide, fun q hq => ?_⟩
    have l0 := hF.1
    rw [List.length_map] at l0
    refine ⟨_, rfl, a, rfl, ⟨_, SqL.of ((Same.new hq) _ _ hA)⟩, for_list (K := K) (a := a) (xs := us) (fun i σ H' => Same H H' ∧ ∃ (q : Addr) (u : Option V), H q = none ∧ H' q = some (.tup [.int (lowP (ts.take i).sum b).1, .int (lowP (ts.take i).sum b).2]) ∧ σ = [some (.ref a), some (.ref q), u]) ⟨Same.new hq, q, none, hq, ?_, rfl⟩ (fun i σ H' _ h => SqL.of (h.1 _ _ hA)) ?_ ?_⟩
    · show _ = some (HO.tup [.int (lowP 0 b).1, .int (lowP 0 b).2])
      rw [low_zero b0]
      exact upd_same
    · rintro i x σ H' hi ⟨s2, q, u, hn, h2, rfl⟩
      obtain ⟨f, hf, t, rfl, hT⟩ := hF.2 i x hi
      rw [List.getElem?_map] at hf
      obtain ⟨y, hy, rfl⟩ := Option.map_eq_some_iff.mp hf
      have ym := List.mem_of_getElem? hy
      refine ⟨_, rfl, _, rfl, q, t, lowP (ts.take i).sum b, lowP y b, rfl, SqT.of h2, s2.sqT hT, sz_low (tb i).2 b0 (tb i).1 b1, sz_low (t0 y ym) b0 (wide_le (t0 y ym) (le_sum t0 y ym) s1) b1, fun p hp => ⟨s2.trans (Same.new hp), p, some (.ref t), s2.free hp, ?_, rfl⟩⟩
      rw [plus_low b0, upd_same, List.take_add_one, hy, List.sum_append]
      show _ = some (HO.tup [.int (lowP (_ + (y + 0)) b).1, .int (lowP (_ + (y + 0)) b).2])
      rw [Int.add_zero]
    · rintro σ H' ⟨s2, q', u, hn, h2, rfl⟩
      rw [l0, List.take_length] at h2
      exact ⟨_, rfl, k q' H' hn s2 h2⟩
end
end Law
namespace Law
open PySem L2 TL
def wrongV : Option Part → V
  | none => .non
  | some p => partV p
theorem lowP_self {f : Fr} (h2 : 0 < f.2) (h : Nat.gcd f.1.natAbs f.2.natAbs = 1) : lowP f.1 f.2 = f := (low_is h2).mpr h
theorem tops_back {fs : List Fr} (h : ∀ f ∈ fs, FrOk f ∧ Nat.gcd f.1.natAbs f.2.natAbs = 1) : (topsOf fs ((lcmAll fs : Nat) : Int)).map (fun t => lowP t ((lcmAll fs : Nat) : Int)) = fs := by
  have lp := lcmAll_pos fun f hf => (h f hf).1
  unfold topsOf
  rw [List.map_map]
  have key : ∀ f ∈ fs, ((fun t => lowP t ((lcmAll fs : Nat) : Int)) ∘ fun f : Fr => f.1 * (((lcmAll fs : Nat) : Int) / f.2)) f = f := fun f hf => by
    obtain ⟨⟨f2, _, _⟩, g⟩ := h f hf
    show lowP (f.1 * (((lcmAll fs : Nat) : Int) / f.2)) ((lcmAll fs : Nat) : Int) = f
    have d : f.2 ∣ ((lcmAll fs : Nat) : Int) := by
      have := dvd_lcmAll hf
      exact Int.natAbs_dvd.mp (Int.ofNat_dvd.mpr this)
    have e := Int.ediv_mul_cancel d
    refine (lowP_eq (by omega) f2 (u := f.1) (d := f.2) ?_).trans (lowP_self f2 g)
    rw [Int.mul_assoc, e]
  calc fs.map _ = fs.map id := List.map_congr_left key
    _ = fs := List.map_id fs
theorem low_one {s L : Int} (hL : 0 < L) : lowP s L = (1, 1) ↔ s = L := by
  constructor
  · intro h
    have c := lowP_cross (t := s) hL
    rw [h] at c
    have c : L * 1 = s * 1 := c
    omega
  · rintro rfl
    have g : gI s s = s := by
      unfold gI
      rw [Nat.gcd_self]
      omega
    unfold lowP
    rw [g, Int.ediv_self (by omega)]
section
variable {P : Program} {w : World} {K : PySem.W.Frag} {mg : Str → Option Value} {base : Heap}
def spWrong (K : PySem.W.Frag) : Sp := fun vs H Q _ => ∃ (many : Int) (mv : Addr) (vs' : List V) (ms : List Mv3), vs = [.int many, .ref mv] ∧ SqL K H mv vs' ∧ MvsIn K H vs' ms ∧ (∀ m ∈ ms, MvSm m ∧ m.2.length ≤ 1000001) ∧ ms.length ≤ 1000001 ∧ ∀ H', Same H H' → Q (wrongV (wrongF oneB many ms)) H'
abbrev nLawWrong : List Str := ["_law_many", "_law_moves_here", "_law_number_here", "_law_share_here", "_law_leads_here", "_law_state"]
theorem scLawWrong : FnScope nLawWrong ["_law_many", "_law_moves_here"] (defScope s_law_wrong) := ⟨rfl, rfl, rfl, by decide +kernel, rfl, by decide +kernel, by decide +kernel⟩
theorem ok_wrong {f : Addr} {fd : FuncData} {fcSumL : Addr} {fdcSumL : FuncData} (F : Fun K "_law_wrong" "_law_wrong" s_law_wrong f fd) (T : NmA mg) (cSumL : Cl P w K mg base CX0 36 "_law_sum" fcSumL fdcSumL ["_law_some"] (spSumL K)) : FnOk P w K mg base CX0 37 f fd ["_law_many", "_law_moves_here"] (spWrong K) := by
  refine F.ok scLawWrong (fun vs H Q E h => ?_) (fun cdv A' outer s H vs Q E hr h => ?_)
  · obtain ⟨many, mv, vs', ms, rfl, _⟩ := h
    rfl
  · obtain ⟨many, mv, vs', ms, rfl, hV, hM, hm, ml, k⟩ := h
    have hu := hu_of hr
    refine ⟨_, pss_cons (ps_if (pt_not (pt_chain op_le op_le pe_int (pv 0) pe_int))
        (pss_one (ps_ret pe_str)) pss_nil)
      (pss_cons (ps_if (pt_not (pt_chain op_le op_le pe_int (pe_callB call_len_seq (by rfl) T.len PySem.boot_len (pa_cons (pv 1) pa_nil)) pe_int))
        (pss_one (ps_ret pe_str)) pss_nil)
      (pss_cons (ps_for PassesOwn.never rfl (pi_range1 (by rfl) T.range (pa_cons (pe_callB call_len_seq (by rfl) T.len PySem.boot_len (pa_cons (pv 1) pa_nil)) pa_nil)) (pg_name (i := 2) scLawWrong.nd rfl (Or.inl rfl))
        (pss_cons (ps_asg (pe_ix ix_list (pv 1) (pv 2) (fun _ _ => rfl)) (pg_tup (by rfl) (pgs_cons (pg_name (i := 3) scLawWrong.nd rfl (Or.inl rfl)) (pgs_cons (pg_name (i := 4) scLawWrong.nd rfl (Or.inl rfl)) pgs_nil))))
        (pss_one (ps_if (PW.pt (pw_or (pt_cmpR op_lt (pe_ix ix_tup (pv 3) pe_int (fun _ _ => rfl)) pe_int (nomark _)) (pw_or (pt_cmpR op_ne (pe_callB call_len_seq (by rfl) T.len PySem.boot_len (pa_cons (pv 4) pa_nil)) (pv 0) (nomark _)) (pw_or1 (pt_not (pt_val (pe_callB (cr_all rfl) (by rfl) T.all (by decide +kernel) (pa_cons (pe_lc (own := [("_law_state", 5)]) (g := (gName 5)) (tt := tYes) rfl scLawWrong.nd  (pi_tup (pv 4)) (blkOk_by (own := [("_law_state", 5)]) (N := nLawWrong) (sc := defScope s_law_wrong) (by decide +kernel)) (fun _ _ _ _ _ => (pg_name (i := 5) scLawWrong.nd rfl (Or.inl rfl))) (fun _ _ _ _ _ => pts_nil) (fun _ _ _ _ _ => (pe_cmpR op_lt (pv 5) (pv 0) (nomark _)))) pa_nil))))))))
          (pss_one (ps_ret (pv 2))) pss_nil))))
      (pss_one (ps_ret (pe_ifExp (pt_cmpR (op_eqD hr.units) (cSumL.call (hr.mono (by decide)) (pa_cons (pe_lc (own := [("_law_share_here", 3), ("_law_leads_here", 4)]) (g := (gTup K 2 (gCons (gName 3) (gCons (gName 4) gNil)))) (tt := tYes) rfl scLawWrong.nd  (pi_list (pv 1)) (blkOk_by (own := [("_law_share_here", 3), ("_law_leads_here", 4)]) (N := nLawWrong) (sc := defScope s_law_wrong) (by decide +kernel)) (fun _ _ _ _ _ => (pg_tup (by rfl) (pgs_cons (pg_name (i := 3) scLawWrong.nd rfl (Or.inl rfl)) (pgs_cons (pg_name (i := 4) scLawWrong.nd rfl (Or.inl rfl)) pgs_nil)))) (fun _ _ _ _ _ => pts_nil) (fun _ _ _ _ _ => (pv 3))) pa_nil)) (pe_tup (pa_cons pe_int (pa_cons pe_int pa_nil))) (nomark _)) pe_non pe_str))))), ?_⟩
    have hvl : vs'.length = ms.length := hM.1
    have wr : wrongF oneB many ms = if ¬ (1 ≤ many ∧ many ≤ 12) then some (.inl "many") else if ¬ (1 ≤ ms.length ∧ ms.length ≤ 24) then some (.inl "moves") else
      match badMv many ms with
      | some i => some (.inr i)
      | none => if oneB (ms.map (·.1)) = true then none else some (.inl "shares") := rfl
    have put : ∀ (p : Option Part) H', wrongF oneB many ms = p → Same H H' → Q (wrongV p) H' := fun p H' e s => by
      rw [← e]
      exact k H' s
    refine ⟨_, rfl, _, _, rfl, rfl, _, rfl, ?_⟩
    by_cases a1 : 1 ≤ many
    · rw [decide_eq_true a1]
      refine iteT ⟨_, _, rfl, rfl, _, rfl, ?_⟩
      by_cases a2 : many ≤ 12
      · rw [decide_eq_true a2]
        rw [if_neg (fun z => z ⟨a1, a2⟩)] at wr
        refine iteF ⟨_, rfl, mv, _, rfl, .inl hV, _, _, rfl, rfl, _, rfl, ?_⟩
        rw [hvl]
        by_cases b1 : 1 ≤ ms.length
        · rw [decide_eq_true (show (1 : Int) ≤ ((ms.length : Nat) : Int) by omega)]
          refine iteT ⟨_, _, rfl, rfl, _, rfl, ?_⟩
          by_cases b2 : ms.length ≤ 24
          · rw [decide_eq_true (show ((ms.length : Nat) : Int) ≤ 24 by omega)]
            rw [if_neg (fun z => z ⟨b1, b2⟩)] at wr
            refine iteF ⟨_, rfl, mv, _, rfl, .inl hV, _, rfl, by omega, by omega, ?_⟩
            rw [hvl, Int.toNat_natCast]
            refine for_range (lo := 0) (n := ms.length) (fun i σ H' => Same H H' ∧ (∀ j m, j < i → ms[j]? = some m → mvB many m = true) ∧ ∃ u v x : Option V, σ = [some (.int many), some (.ref mv), u, v, x, none]) ⟨Same.refl H, fun j m hj => absurd hj (Nat.not_lt_zero _), none, none, none, rfl⟩ ?_ ?_
            · rintro i σ H1 hi ⟨s1, gd, u, v, x, rfl⟩
              obtain ⟨y, hy⟩ : ∃ y, vs'[i]? = some y := ⟨_, List.getElem?_eq_getElem (by rw [hvl]; exact hi)⟩
              obtain ⟨m, hmi, a, t, l, rfl, hA, hT, hL⟩ := hM.2 i y hy
              obtain ⟨sm, mll⟩ := hm m (List.mem_of_getElem? hmi)
              obtain ⟨h1, h2, h3, h4, h5, h6⟩ := id sm
              rw [Int.zero_add]
              refine ⟨_, rfl, _, rfl, mv, _, _, .ref a, rfl, rfl, s1.seq hV, atI_nat hy, a, _, rfl, s1.sqT hA, rfl, _, _, rfl, _, _, rfl, rfl, ?_⟩
              have bad : ∀ H', Same H H' → mvB many m = false → Q (.int (i : Int)) H' := fun H' s g => by
                have bm : badMv many ms = some i := by
                  refine firstNo_of (by rw [List.getElem?_map, hmi]; show some (if mvB many m = true then some m else none) = _; rw [g] <;> rfl) fun j hj => ?_
                  have jl : j < ms.length := Nat.lt_trans hj (List.getElem?_eq_some_iff.mp hmi).1
                  refine ⟨ms[j], ?_⟩
                  rw [List.getElem?_map, List.getElem?_eq_getElem jl]
                  show some (if mvB many ms[j] = true then some ms[j] else none) = _
                  rw [if_pos (gd j _ hj (List.getElem?_eq_getElem jl))]
                rw [bm] at wr
                exact put (some (.inr i)) H' wr s
              have good : ∀ H', Same H H' → mvB many m = true → Same H H' ∧ (∀ j m, j < i + 1 → ms[j]? = some m → mvB many m = true) := fun H' s g => ⟨s, fun j m' hj hm' => by
                by_cases z : j < i
                · exact gd j m' z hm'
                · rw [show j = i by omega, hmi] at hm'
                  rw [← Option.some.inj hm']
                  exact g⟩
              have mb : mvB many m = (decide (0 < m.1.1) && (m.2.all (fun s => decide (s < many)) && decide ((m.2.length : Int) = many))) := rfl
              refine ⟨_, rfl, t, _, _, _, rfl, rfl, s1.sqT hT, ats0 _ _, _, _, rfl, rfl, _, rfl, ?_⟩
              by_cases c1 : m.1.1 < 1
              · rw [decide_eq_true c1]
                rw [decide_eq_false (show ¬ 0 < m.1.1 by omega), Bool.false_and] at mb
                exact iteT ⟨_, rfl, bad H1 s1 mb⟩
              · rw [decide_eq_false c1]
                rw [decide_eq_true (show 0 < m.1.1 by omega), Bool.true_and] at mb
                refine iteF ⟨_, rfl, l, _, rfl, .inr (s1.sqT hL), _, rfl, rfl, _, rfl, ?_⟩
                rw [List.length_map]
                by_cases c2 : ((m.2.length : Nat) : Int) = many
                · rw [decide_eq_true (show V.int ((m.2.length : Nat) : Int) = V.int many by rw [c2])]
                  rw [decide_eq_true c2, Bool.and_true] at mb
                  refine iteF ⟨_, rfl, l, rfl, ⟨_, s1.sqT hL⟩, fun D hD => ?_⟩
                  refine lc_tup (K := K) (a := l) (xs := m.2.map V.int) (fun i H' => Same H1 H' ∧ H' D = some (.lst (((m.2.take i).map fun s => decide (s < many)).map V.bl))) ⟨Same.new hD, upd_same⟩ (fun i H' _ h => (s1.trans h.1).sqT hL) ?_ ?_
                  · rintro j z H' hj ⟨s2, h2⟩
                    rw [List.getElem?_map] at hj
                    obtain ⟨c, hc, rfl⟩ := Option.map_eq_some_iff.mp hj
                    have il := (List.getElem?_eq_some_iff.mp hc).1
                    refine ⟨rfl, _, rfl, _, rfl, _, _, rfl, rfl, _, h2, ?_, s2.mut hD, ?_⟩
                    · rw [List.length_map, List.length_map, List.length_take, sizeLine_eq]
                      omega
                    · rw [upd_same, List.take_add_one, hc, List.map_append, List.map_append] <;> rfl
                  · rintro H' ⟨s2, h2⟩
                    rw [List.length_map, List.take_length] at h2
                    refine ⟨D, _, rfl, SqL.of h2, _, rfl, ?_⟩
                    rw [all_take]
                    cases ha : m.2.all fun s => decide (s < many) with
                    | false => exact iteT ⟨_, rfl, bad H' (s1.trans s2) (by rw [mb]; exact ha)⟩
                    | true =>
                      obtain ⟨g1, g2⟩ := good H' (s1.trans s2) (by rw [mb]; exact ha)
                      exact iteF ⟨g1, g2, _, _, _, rfl⟩
                · rw [decide_eq_false (show ¬ V.int ((m.2.length : Nat) : Int) = V.int many from fun z => c2 (V.int.inj z))]
                  rw [decide_eq_false c2, Bool.and_false] at mb
                  exact iteT ⟨_, rfl, bad H1 s1 mb⟩
            · rintro σ H1 ⟨s1, gd, u, v, x, rfl⟩
              have bm : badMv many ms = none := by
                refine firstNo_all fun j o hj => ?_
                rw [List.getElem?_map] at hj
                obtain ⟨m, hmj, e⟩ := Option.map_eq_some_iff.mp hj
                have jl := (List.getElem?_eq_some_iff.mp hmj).1
                refine ⟨m, ?_⟩
                rw [← e, if_pos (gd j m (by omega) hmj)]
              rw [bm] at wr
              change wrongF oneB many ms = (if oneB (ms.map (·.1)) = true then none else some (.inl "shares")) at wr
              refine ⟨_, rfl, mv, rfl, ⟨_, s1.seq hV⟩, fun D hD => ?_⟩
              refine lc_list (K := K) (a := mv) (xs := vs') (fun i H' => Same H1 H' ∧ ∃ acc, H' D = some (.lst acc) ∧ FrsIn K H' acc ((ms.take i).map (·.1))) ⟨Same.new hD, [], upd_same, rfl, fun i v hv => by simp at hv⟩ (fun i H' _ h => (s1.trans h.1).seq hV) ?_ ?_
              · rintro i x H2 hi ⟨s2, acc, h1, h2⟩
                obtain ⟨m, hmi, a, t, l, rfl, hA, hT, hL⟩ := hM.2 i x hi
                have hil : i < ms.length := (List.getElem?_eq_some_iff.mp hmi).1
                have s3 := s1.trans s2
                have hz : acc.length = i := by
                  have z := h2.1
                  rw [List.length_map, List.length_take] at z
                  omega
                refine ⟨a, _, rfl, s3.sqT hA, rfl, _, _, rfl, _, _, rfl, rfl, ?_⟩
                refine ⟨rfl, _, rfl, acc, h1, small1000 (by omega), s2.mut hD, _, upd_same, ?_⟩
                rw [List.take_add_one, hmi, List.map_append]
                exact FrsIn.snoc h2 h1 ⟨t, rfl, s3.sqT hT⟩
              · rintro H2 ⟨s2, acc, h1, h2⟩
                rw [hvl, List.take_length] at h2
                have frs : ∀ f ∈ ms.map (·.1), FrOk f ∧ Nat.gcd f.1.natAbs f.2.natAbs = 1 ∧ 0 ≤ f.1 := fun f hf => by
                  obtain ⟨m, hmm, rfl⟩ := List.mem_map.mp hf
                  obtain ⟨q1, _, _, _, q5, _⟩ := (hm m hmm).1
                  exact ⟨mvSm_fr (hm m hmm).1, q5, q1⟩
                have fl : (ms.map (·.1)).length ≤ 24 := by rw [List.length_map]; exact b2
                have oo : oneB (ms.map (·.1)) = decide (OneOk (ms.map (·.1))) := rfl
                generalize ms.map (·.1) = fs at h2 frs fl wr oo
                have lp := lcmAll_pos fun f hf => (frs f hf).1
                have llt := lcmAll_lt (fun f hf => (frs f hf).1) fl
                have tn : ∀ t ∈ topsOf fs ((lcmAll fs : Nat) : Int), 0 ≤ t ∧ t ≤ 2 ^ 62 * 2 ^ 1489 := fun t ht => by
                  obtain ⟨f, hf, rfl⟩ := List.mem_map.mp ht
                  obtain ⟨⟨f2, f3, f4⟩, f5, f6⟩ := frs f hf
                  have q0 : 0 ≤ ((lcmAll fs : Nat) : Int) / f.2 := Int.ediv_nonneg (by omega) (Int.le_of_lt f2)
                  have q1 : ((lcmAll fs : Nat) : Int) / f.2 ≤ ((lcmAll fs : Nat) : Int) := Int.ediv_le_self _ (by omega)
                  have q2 : ((lcmAll fs : Nat) : Int) ≤ 2 ^ 1489 := by
                    have : ((lcmAll fs : Nat) : Int) < ((2 ^ 1489 : Nat) : Int) := Int.ofNat_lt.mpr llt
                    rw [Int.natCast_pow] at this
                    exact Int.le_of_lt this
                  exact ⟨Int.mul_nonneg f6 q0, Int.mul_le_mul (by omega) (Int.le_trans q1 q2) q0 (by decide)⟩
                have sn := sum_nn fun t ht => (tn t ht).1
                have sl := sum_le (2 ^ 62 * 2 ^ 1489) (topsOf fs ((lcmAll fs : Nat) : Int)) fun t ht => (tn t ht).2
                have tlen : (topsOf fs ((lcmAll fs : Nat) : Int)).length = fs.length := by unfold topsOf; rw [List.length_map]
                refine ⟨D, acc, topsOf fs ((lcmAll fs : Nat) : Int), ((lcmAll fs : Nat) : Int), rfl, h1, by rw [tops_back fun f hf => ⟨(frs f hf).1, (frs f hf).2.1⟩]; exact h2, by omega, fun t ht => (tn t ht).1, ?_, ?_, fun p H3 hp s3 e3 => ?_⟩
                · rw [Int.natAbs_natCast]
                  exact Nat.lt_of_lt_of_le llt (Nat.pow_le_pow_right (by decide) (by decide))
                · rw [tlen] at sl
                  have z : (topsOf fs ((lcmAll fs : Nat) : Int)).sum ≤ 24 * (2 ^ 62 * 2 ^ 1489) := Int.le_trans sl (Int.mul_le_mul_of_nonneg_right (by omega) (by decide))
                  have z2 : (24 * (2 ^ 62 * 2 ^ 1489) : Int) < ((2 ^ 2000 : Nat) : Int) := by decide +kernel
                  have z3 : (topsOf fs ((lcmAll fs : Nat) : Int)).sum.natAbs < 2 ^ 2000 := by
                    have := Int.lt_of_le_of_lt z z2
                    omega
                  exact Nat.lt_of_lt_of_le z3 (Nat.pow_le_pow_right (by decide) (by decide))
                · refine ⟨by show 2 ≤ sizeLine; decide, fun q hq => ?_⟩
                  refine new_step hq fun H4 s4 e4 => ?_
                  have sAll := ((s1.trans s2).trans s3).trans s4
                  refine ⟨frD (lowP (topsOf fs ((lcmAll fs : Nat) : Int)).sum ((lcmAll fs : Nat) : Int)), frD (1, 1), .tup (s4.sqT (SqT.of e3)) (.cons (.int _) (.cons (.int _) .nil)), .tup (SqT.of e4) (.cons (.int _) (.cons (.int _) .nil)), shaped_of (lay_frD _) (by decide), shaped_of (lay_frD _) (by decide), _, rfl, ?_⟩
                  rw [eqv_frD]
                  by_cases o1 : (topsOf fs ((lcmAll fs : Nat) : Int)).sum = ((lcmAll fs : Nat) : Int)
                  · rw [decide_eq_true ((low_one (by omega)).mpr o1)]
                    rw [if_pos (by rw [oo]; exact decide_eq_true o1)] at wr
                    exact iteT (put none H4 wr sAll)
                  · rw [decide_eq_false (fun z => o1 ((low_one (by omega)).mp z))]
                    rw [if_neg (by rw [oo]; exact fun z => o1 (of_decide_eq_true z))] at wr
                    exact iteF (put (some (.inl "shares")) H4 wr sAll)
          · rw [decide_eq_false (show ¬ ((ms.length : Nat) : Int) ≤ 24 by omega)]
            rw [if_pos (fun z => b2 z.2)] at wr
            exact iteT (put _ H wr (Same.refl H))
        · rw [decide_eq_false (show ¬ (1 : Int) ≤ ((ms.length : Nat) : Int) by omega)]
          rw [if_pos (fun z => b1 z.1)] at wr
          exact iteF ⟨_, rfl, iteT (put _ H wr (Same.refl H))⟩
      · rw [decide_eq_false a2]
        rw [if_pos (fun z => a2 z.2)] at wr
        exact iteT (put _ H wr (Same.refl H))
    · rw [decide_eq_false a1]
      rw [if_pos (fun z => a1 z.1)] at wr
      exact iteF ⟨_, rfl, iteT (put _ H wr (Same.refl H))⟩
end
end Law

namespace Law
open PySem L2 TL
theorem at_last {α : Type} {xs : List α} {v : α} (h : xs.getLast? = some v) : atI xs (-1) = some v := by
  obtain ⟨ys, rfl⟩ := List.getLast?_eq_some_iff.mp h
  exact atI_last ys v
def bodyF (rest : Str) (body : List Str) : Out := match noneF body with
  | some i => .line (i + 1)
  | none => if rest = Str.empty ∧ body ≠ [] then endF body else .line (body.length + 1)
theorem bodyF_some {rest : Str} {body : List Str} {i : Nat} (h : noneF body = some i) : bodyF rest body = .line (i + 1) := by unfold bodyF; rw [h]
theorem bodyF_none {rest : Str} {body : List Str} (h : noneF body = none) : bodyF rest body = if rest = Str.empty ∧ body ≠ [] then endF body else .line (body.length + 1) := by unfold bodyF; rw [h]
theorem read_body (body : List Str) (rest : Str) : readF oneB (body ++ [rest]) = bodyF rest body := read_by rfl
def OutAt (K : PySem.W.Frag) (H : Hp) (t : Addr) : Out → Prop
  | .line n => SqT K H t [.str "line", .int (n : Int)]
  | .part pt => SqT K H t [.str "system", partV pt]
  | .told many ms => ∃ a mv, SqT K H t [.str "told", .ref a] ∧ SqT K H a [.int many, .ref mv] ∧ MvsAt K H mv ms
theorem OutAt.same {K : PySem.W.Frag} {H H' : Hp} {t : Addr} {o : Out} (s : Same H H') (h : OutAt K H t o) : OutAt K H' t o := by
  cases o with
  | line n => exact s.sqT (show SqT K H t _ from h)
  | part pt => exact s.sqT (show SqT K H t _ from h)
  | told many ms =>
    obtain ⟨a, mv, h1, h2, h3⟩ := h
    exact ⟨a, mv, s.sqT h1, s.sqT h2, h3.same s⟩
theorem read_told {ls : List Str} {many : Int} {ms : List Mv3} (h : readF oneB ls = .told many ms) : wrongF oneB many ms = none := by
  unfold readF at h
  cases hd : ls.dropLast with
  | nil => rw [hd] at h; cases h
  | cons a r =>
    rw [hd] at h
    simp only at h
    cases hh : headO a with
    | none => rw [hh] at h; cases h
    | some m =>
      rw [hh] at h
      simp only at h
      cases hf : firstNo (r.map moveO) with
      | some i => rw [hf] at h; cases h
      | none =>
        rw [hf] at h
        simp only at h
        by_cases c : ls.getLast? = some Str.empty
        · rw [if_pos c] at h
          unfold madeF at h
          cases hw : wrongF oneB m ((r.map moveO).filterMap id) with
          | some p => rw [hw] at h; cases h
          | none =>
            rw [hw] at h
            cases h
            exact hw
        · rw [if_neg c] at h
          cases h
theorem wrong_none {many : Int} {ms : List Mv3} (h : wrongF oneB many ms = none) : 1 ≤ many ∧ many ≤ 12 := by
  unfold wrongF at h
  by_cases c : 1 ≤ many ∧ many ≤ 12
  · exact c
  · rw [if_pos c] at h
    cases h
section
variable {P : Program} {w : World} {K : PySem.W.Frag} {mg : Str → Option Value} {base : Heap}
def spDue (K : PySem.W.Frag) : Sp := fun vs H Q _ => ∃ t : Str, vs = [.str t] ∧ t.length ≤ 100000 ∧ ∀ a H', Same H H' → OutAt K H' a (readF oneB (Txt.split t ⟨#[10]⟩)) → Q (.ref a) H'
theorem somes_eq {α : Type} {l : List (Option α)} {m : List α} (h : l = m.map some) : firstNo l = none ∧ l.filterMap id = m := by
  subst h
  refine ⟨firstNo_somes m, ?_⟩
  induction m with
  | nil => rfl
  | cons a m ih => show a :: (m.map some).filterMap id = _; rw [ih]
abbrev nLawDue : List Str := ["_law_text_here", "_law_lines", "_law_many", "_law_moves_here", "_law_at", "_law_move", "_law_part"]
theorem scLawDue : FnScope nLawDue ["_law_text_here"] (defScope s_law_due) := ⟨rfl, rfl, rfl, by decide +kernel, rfl, by decide +kernel, by decide +kernel⟩
theorem ok_due {f : Addr} {fd : FuncData} {fcHeadL : Addr} {fdcHeadL : FuncData} {fcLineL : Addr} {fdcLineL : FuncData} {fcWrong : Addr} {fdcWrong : FuncData} (F : Fun K "_law_due" "_law_due" s_law_due f fd) (T : NmA mg) (cHeadL : Cl P w K mg base CX0 2 "_law_head" fcHeadL fdcHeadL ["_law_line_here"] spHeadL) (cLineL : Cl P w K mg base CX0 36 "_law_line" fcLineL fdcLineL ["_law_line_here"] (spLineL K)) (cWrong : Cl P w K mg base CX0 37 "_law_wrong" fcWrong fdcWrong ["_law_many", "_law_moves_here"] (spWrong K)) : FnOk P w K mg base CX0 38 f fd ["_law_text_here"] (spDue K) := by
  refine F.ok scLawDue (fun vs H Q E h => ?_) (fun cdv A' outer s H vs Q E hr h => ?_)
  · obtain ⟨t, rfl, _⟩ := h
    rfl
  · obtain ⟨t, rfl, tl6, k⟩ := h
    have hu := hu_of hr
    refine ⟨_, pss_cons (ps_if (pt_not (pt_val (pe_callB call_isi (by rfl) T.isi (by decide +kernel) (pa_cons (pv 0) (pa_cons (pe_bltn (v := .ty "str") (u := .type "str") (by rfl) T.str (by decide +kernel) rfl) pa_nil)))))
        (pss_one (ps_ret (pe_tup (pa_cons pe_str (pa_cons pe_int pa_nil))))) pss_nil)
      (pss_cons (ps_set (i := 1) scLawDue.nd rfl (Or.inl rfl) (pe_m1 PySem.F.slot_str_split PySem.F.type_str_split mt_split (pv 0) pe_str))
      (pss_cons (ps_set (i := 2) scLawDue.nd rfl (Or.inl rfl) (cHeadL.call (hr.mono (by decide)) (pa_cons (pe_ix ix_list (pv 1) pe_int (fun _ _ => rfl)) pa_nil)))
      (pss_cons (ps_if (PW.pt (pw_or (pt_cmpR op_isN (pv 2) pe_non (nomark _)) (pw_or1 (pt_cmpR op_lt (pe_callB call_len_seq (by rfl) T.len PySem.boot_len (pa_cons (pv 1) pa_nil)) pe_int (nomark _)))))
        (pss_one (ps_ret (pe_tup (pa_cons pe_str (pa_cons pe_int pa_nil))))) pss_nil)
      (pss_cons (ps_set (i := 3) scLawDue.nd rfl (Or.inl rfl) (pe_lst pa_nil))
      (pss_cons (ps_for PassesOwn.never rfl (pi_range2 (by rfl) T.range (pa_cons pe_int (pa_cons (pe_op op_sub (pe_callB call_len_seq (by rfl) T.len PySem.boot_len (pa_cons (pv 1) pa_nil)) pe_int) pa_nil))) (pg_name (i := 4) scLawDue.nd rfl (Or.inl rfl))
        (pss_cons (ps_set (i := 5) scLawDue.nd rfl (Or.inl rfl) (cLineL.call (hr.mono (by decide)) (pa_cons (pe_ix ix_list (pv 1) (pv 4) (fun _ _ => rfl)) pa_nil)))
        (pss_cons (ps_if (pt_cmpR op_isN (pv 5) pe_non (nomark _))
          (pss_one (ps_ret (pe_tup (pa_cons pe_str (pa_cons (pe_op op_add (pv 4) pe_int) pa_nil))))) pss_nil)
        (pss_one (ps_expr (pe_bm PySem.F.plainAttrs_list PySem.F.slot_list_append PySem.F.type_list_append mt_append (pv 3) (pa_cons (pv 5) pa_nil)))))))
      (pss_cons (ps_if (pt_cmpR op_ne (pe_ix ix_list (pv 1) (pe_un un_neg pe_int) (fun _ _ => rfl)) pe_str (nomark _))
        (pss_one (ps_ret (pe_tup (pa_cons pe_str (pa_cons (pe_callB call_len_seq (by rfl) T.len PySem.boot_len (pa_cons (pv 1) pa_nil)) pa_nil))))) pss_nil)
      (pss_cons (ps_set (i := 6) scLawDue.nd rfl (Or.inl rfl) (cWrong.call (hr.mono (by decide)) (pa_cons (pv 2) (pa_cons (pv 3) pa_nil))))
      (pss_one (ps_ret (pe_ifExp (pt_cmpR op_isN (pv 6) pe_non (nomark _)) (pe_tup (pa_cons pe_str (pa_cons (pe_tup (pa_cons (pv 2) (pa_cons (pe_callTy call_tuple_of (by rfl) T.tuple (by decide +kernel) (pa_cons (pv 3) pa_nil)) pa_nil))) pa_nil))) (pe_tup (pa_cons pe_str (pa_cons (pv 6) pa_nil))))))))))))), ?_⟩
    have tz : t.length ≤ sizeLine := by rw [sizeLine_eq]; omega
    have kb : PySem.W.kitOne K (.type "str") (.type "str") = some true := kit_ty (by decide +kernel)
    refine ⟨_, rfl, _, _, _, _, _, rfl, .ty "str", .base (.str t), kb, _, rfl, iteF ?_⟩
    obtain ⟨wl, cl⟩ := spl10_bound t
    have ne0 := split_ne (x := t) (c := 10) (by decide)
    rw [← nl_is] at wl cl ne0 k
    refine ⟨_, rfl, ⟨_, rfl⟩, t, _, rfl, rfl, by decide +kernel, by rw [sizeLine_eq]; omega, fun L hL => ?_⟩
    refine new_step hL fun H1 s1 e1 => ?_
    generalize Txt.split t ("\n" : Str) = ls at wl cl ne0 e1 k
    obtain ⟨body, rest, rfl⟩ : ∃ b r, ls = b ++ [r] := ⟨ls.dropLast, ls.getLast ne0, (List.dropLast_concat_getLast ne0).symm⟩
    rw [read_body] at k
    have bl : body.length ≤ t.length := by rw [List.length_append] at cl; exact Nat.le_of_succ_le_succ cl
    have wb : ∀ u ∈ body, u.length ≤ t.length := fun u hu => wl u (List.mem_append_left _ hu)
    have put : ∀ (o : Out) a H', bodyF rest body = o → Same H H' → OutAt K H' a o → Q (.ref a) H' := fun o a H' e s h => k a H' s (by rw [e]; exact h)
    clear k
    have hd0 : ∃ x, (body ++ [rest])[0]? = some x ∧ x.length ≤ t.length ∧ (body ≠ [] → body.head? = some x) := by
      cases body with
      | nil => exact ⟨rest, rfl, wl rest (by simp), fun z => absurd rfl z⟩
      | cons a r => exact ⟨a, rfl, wl a (by simp), fun _ => rfl⟩
    obtain ⟨x0, hx0, x0l, hb0⟩ := hd0
    refine ⟨_, rfl, L, _, _, .str x0, rfl, rfl, SqL.of e1, atI_nat (i := 0) (by rw [List.getElem?_map, hx0] <;> rfl), x0, rfl, by omega, fun H2 s2 => ?_⟩
    have s12 := s1.trans s2
    have l2 := s2 _ _ e1
    have one : ∀ H3, Same H H3 → bodyF rest body = .line 1 → ∀ q, H3 q = none → Q (.ref q) (upd H3 q (.tup [.str "line", .int 1])) := fun H3 s3 e q hq => put _ q _ e (s3.trans (Same.new hq)) (SqT.of upd_same)
    have ll : ((body ++ [rest]).map V.str).length = body.length + 1 := by rw [List.length_map, List.length_append] <;> rfl
    refine ⟨_, rfl, rfl, _, rfl, ?_⟩
    rw [optV_non]
    cases hh : headO x0 with
    | none =>
      refine iteT ⟨by show 2 ≤ sizeLine; decide, fun q hq => one H2 s12 ?_ q hq⟩
      cases body with
      | nil => exact if_neg fun z => z.2 rfl
      | cons a r =>
        obtain rfl : a = x0 := Option.some.inj (hb0 (by simp))
        exact bodyF_some (by rw [noneF_cons, hh])
    | some many =>
      refine iteF ⟨_, rfl, L, _, rfl, .inl (SqL.of l2), _, _, rfl, rfl, _, rfl, ?_⟩
      rw [ll]
      cases body with
      | nil =>
        refine iteT ⟨by show 2 ≤ sizeLine; decide, fun q hq => one H2 s12 ?_ q hq⟩
        exact if_neg fun z => z.2 rfl
      | cons a r =>
        obtain rfl : a = x0 := Option.some.inj (hb0 (by simp))
        rw [decide_eq_false (show ¬ (((a :: r).length + 1 : Nat) : Int) < 2 by simp; omega)]
        have nf : noneF (a :: r) = (firstNo (r.map moveO)).map (· + 1) := by rw [noneF_cons, hh]
        have eF : endF (a :: r) = madeF oneB many ((r.map moveO).filterMap id) := by
          show madeF oneB ((headO a).getD 0) _ = _
          rw [hh] <;> rfl
        refine iteF ⟨by show 0 ≤ sizeLine; decide, fun W hW => ?_⟩
        refine new_step hW fun H3 s3 e3 => ?_
        have l3 := s3 _ _ l2
        have hWH := s12.free hW
        have LW : L ≠ W := ne_of_none l2 hW
        have s13 := s12.trans s3
        have rl : r.length ≤ t.length := Nat.le_of_succ_le bl
        refine ⟨_, rfl, L, _, rfl, .inl (SqL.of l3), _, _, rfl, rfl, 1, _, rfl, ⟨by decide, by decide, ?_, ?_⟩, ?_⟩
        · rw [ll]
          omega
        · rw [ll]
          omega
        have en : ((((((a :: r) ++ [rest]).map V.str).length : Nat) : Int) - 1 - 1).toNat = r.length := by rw [ll, List.length_cons]; omega
        rw [en]
        refine for_range (lo := 1) (n := r.length) (fun i σ H' => Same H H' ∧ H' L = some (.lst (((a :: r) ++ [rest]).map V.str)) ∧ (∃ acc ms, H' W = some (.lst acc) ∧ MvsIn K H' acc ms ∧ (r.take i).map moveO = ms.map some) ∧ ∃ u v : Option V, σ = [some (.str t), some (.ref L), some (.int many), some (.ref W), u, v, none]) ⟨s13, l3, ⟨[], [], e3, ⟨rfl, fun i v hv => by simp at hv⟩, by simp⟩, none, none, rfl⟩ ?_ ?_
        · rintro i σ H4 hi ⟨s4, l4, ⟨acc, ms, w4, m4, t4⟩, u, v, rfl⟩
          obtain ⟨y, hy⟩ : ∃ y, r[i]? = some y := ⟨_, List.getElem?_eq_getElem hi⟩
          have yl := wb y (List.mem_cons_of_mem _ (List.mem_of_getElem? hy))
          have hat : atI (((a :: r) ++ [rest]).map V.str) (1 + (i : Int)) = some (.str y) := by
            rw [show (1 + (i : Int)) = ((i + 1 : Nat) : Int) by omega]
            refine atI_nat ?_
            rw [List.getElem?_map]
            show Option.map V.str ((r ++ [rest])[i]?) = _
            rw [List.getElem?_append_left hi, hy] <;> rfl
          refine ⟨_, rfl, _, rfl, L, _, _, .str y, rfl, rfl, SqL.of l4, hat, y, rfl, by omega, fun H5 h5 s5 => ?_, fun m p H5 h5 s5 hm => ?_⟩
          · refine ⟨_, rfl, rfl, _, rfl, iteT ⟨_, rfl, _, _, rfl, rfl, by show 2 ≤ sizeLine; decide, fun q hq => ?_⟩⟩
            have fn : firstNo (r.map moveO) = some i := by
              refine firstNo_of (by rw [List.getElem?_map, hy]; exact congrArg some h5) fun j hj => ?_
              have jl : j < ms.length := by
                have := congrArg List.length t4
                rw [List.length_map, List.length_map, List.length_take] at this
                omega
              refine ⟨ms[j], ?_⟩
              have z : ((r.take i).map moveO)[j]? = some (some ms[j]) := by rw [t4, List.getElem?_map, List.getElem?_eq_getElem jl] <;> rfl
              rw [List.getElem?_map, List.getElem?_take, if_pos hj, ← List.getElem?_map] at z
              exact z
            rw [fn] at nf
            refine put _ q _ (bodyF_some nf) ((s4.trans s5).trans (Same.new hq)) ?_
            show SqT K _ q [.str "line", .int ((i + 1 + 1 : Nat) : Int)]
            rw [show ((i + 1 + 1 : Nat) : Int) = 1 + (i : Int) + 1 by omega]
            exact SqT.of upd_same
          · refine ⟨_, rfl, rfl, _, rfl, iteF ⟨_, rfl, .inl ⟨rfl, _, SqL.of (s5 _ _ w4)⟩, _, rfl, W, _, _, rfl, rfl, s5 _ _ w4, ?_, (s4.trans s5).mut hWH, ?_, ⟨_, _, upd_same, (m4.same s5).snoc (s5 _ _ w4) hm, ?_⟩, _, _, rfl⟩⟩
            · have := congrArg List.length t4
              rw [List.length_map, List.length_map, List.length_take] at this
              rw [m4.1, sizeLine_eq]
              omega
            · rw [upd_ne LW]
              exact s5 _ _ l4
            · rw [List.take_add_one, hy, List.map_append, t4, List.map_append]
              show _ ++ [moveO y] = _ ++ [some m]
              rw [h5]
        · rintro σ H4 ⟨s4, l4, ⟨acc, ms, w4, m4, t4⟩, u, v, rfl⟩
          rw [List.take_length] at t4
          obtain ⟨fn, fm⟩ := somes_eq t4
          rw [fn] at nf
          rw [fm] at eF
          rw [bodyF_none nf, eF] at put
          have lastAt : atI (((a :: r) ++ [rest]).map V.str) (-1) = some (.str rest) := at_last (by rw [List.map_append]; exact List.getLast?_concat)
          refine ⟨_, rfl, _, rfl, L, _, _, .str rest, rfl, rfl, SqL.of l4, lastAt, rfl, _, rfl, ?_⟩
          rw [dec_str, e_emp]
          by_cases re : rest = Str.empty
          · rw [decide_eq_true re]
            rw [if_pos ⟨re, by simp⟩] at put
            have mlen : ms.length ≤ t.length := by
              have := congrArg List.length t4
              rw [List.length_map, List.length_map] at this
              omega
            have mok : ∀ m ∈ ms, MvSm m ∧ m.2.length ≤ 1000001 := fun m hmm => by
              have : some m ∈ r.map moveO := by rw [t4]; exact List.mem_map.mpr ⟨m, hmm, rfl⟩
              obtain ⟨y, y1, y2⟩ := List.mem_map.mp this
              obtain ⟨b1, b2⟩ := move_len y2
              have := wb y (List.mem_cons_of_mem _ y1)
              exact ⟨b1, by omega⟩
            refine iteF ⟨_, rfl, _, rfl, many, W, acc, ms, rfl, SqL.of w4, m4, mok, by omega, fun H5 s5 => ?_⟩
            have mf : madeF oneB many ms = match wrongF oneB many ms with
              | some p => .part p
              | none => .told many ms := rfl
            have s45 := s4.trans s5
            cases hw : wrongF oneB many ms with
            | none =>
              rw [hw] at mf
              rw [mf] at put
              refine ⟨_, rfl, rfl, _, rfl, iteT ⟨_, rfl, _, rfl, W, _, rfl, .inl ⟨SqL.of (s5 _ _ w4), fun q hq => ?_⟩⟩⟩
              refine new_step hq fun H6 s6 e6 => ?_
              refine ⟨by show 2 ≤ sizeLine; decide, fun q7 hq7 => ?_⟩
              refine new_step hq7 fun H7 s7 e7 => ?_
              refine ⟨by show 2 ≤ sizeLine; decide, fun q8 hq8 => ?_⟩
              refine new_step hq8 fun H8 s8 e8 => ?_
              have s68 := s7.trans s8
              exact put _ q8 H8 rfl ((s45.trans s6).trans s68) ⟨q7, q, SqT.of e8, s8.sqT (SqT.of e7), _, s68.sqT (SqT.of e6), (m4.same (s5.trans s6)).same s68⟩
            | some p =>
              rw [hw] at mf
              rw [mf] at put
              have wp : decide (wrongV (some p) = V.non) = false := decide_eq_false (by cases p <;> exact fun z => nomatch z)
              refine ⟨_, rfl, rfl, _, rfl, ?_⟩
              rw [wp]
              refine iteF ⟨_, rfl, by show 2 ≤ sizeLine; decide, fun q hq => ?_⟩
              refine new_step hq fun H6 s6 e6 => ?_
              exact put _ q H6 rfl (s45.trans s6) (SqT.of e6)
          · rw [decide_eq_false re]
            rw [if_neg (fun z => re z.1)] at put
            refine iteT ⟨_, rfl, L, _, rfl, .inl (SqL.of l4), by show 2 ≤ sizeLine; decide, fun q hq => ?_⟩
            refine new_step hq fun H6 s6 e6 => ?_
            rw [ll] at e6
            exact put _ q H6 rfl (s4.trans s6) (SqT.of e6)
end
end Law

namespace L2
theorem lk_hit {k : PySem.Str} {v : V} {es : List (PySem.Str × V)} : ((k, v) :: es).lookup k = some v := by simp [List.lookup]
end L2
namespace Law
open PySem L2 TL
section
variable {P : Program} {w : World} {K : PySem.W.Frag} {mg : Str → Option Value} {base : Heap}
def spTold (K : PySem.W.Frag) : Sp := fun vs H Q _ => ∃ v, vs = [v] ∧ ((∃ t : Str, v = .str t ∧ t.length ≤ 100000 ∧ ∀ a H', Same H H' → OutAt K H' a (readF oneB (Txt.split t ⟨#[10]⟩)) → Q (.ref a) H') ∨
  (∃ ty, TyX K H v ty ∧ PySem.W.kitOne K ty (.type "str") = some false ∧ ∀ a H', Same H H' → OutAt K H' a (.line 0) → Q (.ref a) H'))
abbrev nLawTold : List Str := ["_law_text_here", "_law_found", "e"]
theorem scLawTold : FnScope nLawTold ["_law_text_here"] (defScope s_law_told) := ⟨rfl, rfl, rfl, by decide +kernel, rfl, by decide +kernel, by decide +kernel⟩
def tbT (sp : Sp) (W : WX) : TS := tAsg (tCallS sp (WE W) (tCons (tVar 0) tNil)) (gName 1)
theorem ok_told {f : Addr} {fd : FuncData} {fcReadS : Addr} {fdcReadS : FuncData} {C BS BL G : Addr} (F : Fun K "_law_told" "_law_told" s_law_told f fd) (T : NmA mg) (S : SysT K mg C) (cReadS : ClX P w K mg base 7 "read_system" fcReadS fdcReadS ["text"] (spReadS K C BS BL)) (eBS : Er1 P w K mg base "BadSystem" BS "part") (eBL : Er1 P w K mg base "BadLine" BL "number") (hG : mg "DrawError" = some (.ref G))
    (x1 : PySem.W.exmOne K (.ref BL) (.ref BL) = some true) (x2 : PySem.W.exmOne K (.ref BS) (.ref BL) = some false) (x3 : PySem.W.exmOne K (.ref BS) (.ref BS) = some true) (k1 : PySem.W.kitOne K (.ref BL) (.ref G) = some true) (k2 : PySem.W.kitOne K (.ref BL) (.ref BS) = some false) (k3 : PySem.W.kitOne K (.ref BS) (.ref G) = some true) :
    FnOk P w K mg base CX0 8 f fd ["_law_text_here"] (spTold K) := by
  refine F.ok scLawTold (fun vs H Q E h => ?_) (fun cdv A' outer s H vs Q E hr h => ?_)
  · obtain ⟨v, rfl, _⟩ := h
    rfl
  · obtain ⟨v, rfl, h⟩ := h
    refine ⟨_, pss_cons (ps_try_manyAs (n := "e") (i := 2) (tb := tbT (spReadS K C BS BL)) (l := _) (Wout := fun _ _ _ _ => False) rfl rfl scLawTold.nd rfl rfl takes0
        (fun W pn xe tk _ => pss_one (ps_set (i := 1) scLawTold.nd rfl (Or.inl rfl) (cReadS.callS (hr.mono (by decide)) tk (pa_cons (pv 0) pa_nil))))
        (.cons ⟨rfl, by decide, .inl eBL.m⟩ (fun a oe cls d pn hz hf => pss_one (ps_ret (pe_tup (pa_cons pe_str (pa_cons (pe_ifExp (PW.pt (pw_and (pt_val (pe_callB (call_isS hz hf) (by rfl) T.isi (by decide +kernel) (pa_cons (pv 2) (pa_cons (pe_glob (v := .ref G) (u := .ref G) rfl hG rfl) pa_nil))))
          (pw_and1 (pt_not (pt_val (pe_callB (call_isS hz hf) (by rfl) T.isi (by decide +kernel) (pa_cons (pv 2) (pa_cons (pe_glob (v := .ref BS) (u := .ref BS) rfl eBS.m rfl) pa_nil)))))))) (pe_xs hz hf (pv 2)) pe_non) pa_nil)))))
        (.cons ⟨rfl, by decide, .inl eBS.m⟩ (fun a oe cls d pn hz hf => pss_one (ps_ret (pe_tup (pa_cons pe_str (pa_cons (pe_ifExp (pt_val (pe_callB (call_isS hz hf) (by rfl) T.isi (by decide +kernel) (pa_cons (pv 2) (pa_cons (pe_glob (v := .ref G) (u := .ref G) rfl hG rfl) pa_nil)))) (pe_xs hz hf (pv 2)) pe_non) pa_nil))))) .nil)))
      (pss_one (ps_ret (pe_ifExp (pt_val (pe_callB call_isi (by rfl) T.isi (by decide +kernel) (pa_cons (pv 1) (pa_cons (pe_glob (v := .ref C) (u := .ref C) rfl S.mgC rfl) pa_nil))))
        (pe_tup (pa_cons pe_str (pa_cons (pe_tup (pa_cons (pe_fld (pv 1) rfl) (pa_cons (pe_fld (pv 1) rfl) pa_nil))) pa_nil))) (pe_tup (pa_cons pe_str (pa_cons pe_non pa_nil)))))), ?_⟩
    rcases h with ⟨t, rfl, tl1, k⟩ | ⟨ty, t1, t2, k⟩
    · refine ⟨_, rfl, _, rfl, .inl ⟨t, rfl, by omega, fun n d H1 hr1 s1 hd hx => ?_, fun pt d H1 hr1 s1 hd hx => ?_, fun many ms q H1 hr1 s1 hq hS => ?_⟩⟩
      · rw [hr1] at k
        refine ⟨true, x1, fun _ a ha => ?_, fun q => nomatch q⟩
        refine ⟨_, rfl, BL, d, _, .ref G, .ref G, true, rfl, rfl, eBL.T, rfl, hx, .own _, k1, _, rfl, iteT ?_⟩
        refine ⟨_, rfl, BL, d, _, .ref BS, .ref BS, false, rfl, rfl, eBL.T, rfl, hx, .own _, k2, _, rfl, iteT ?_⟩
        refine ⟨_, rfl, rfl, BL, d, _, _, rfl, eBL.T, eBL.no, rfl, hx, lk_hit, by show 2 ≤ sizeLine; decide, fun r hr2 => ?_⟩
        exact k r _ (s1.trans (Same.new hr2)) (SqT.of upd_same)
      · rw [hr1] at k
        refine ⟨false, x2, fun q => (nomatch q), fun _ => ⟨true, x3, fun _ a ha => ?_, fun q => nomatch q⟩⟩
        refine ⟨_, rfl, BS, d, _, .ref G, .ref G, true, rfl, rfl, eBS.T, rfl, hx, .own _, k3, _, rfl, iteT ?_⟩
        refine ⟨_, rfl, rfl, BS, d, _, _, rfl, eBS.T, eBS.no, rfl, hx, lk_hit, by show 2 ≤ sizeLine; decide, fun r hr2 => ?_⟩
        exact k r _ (s1.trans (Same.new hr2)) (SqT.of upd_same)
      · rw [hr1] at k
        have w1 := wrong_none (read_told hr1)
        obtain ⟨dx, mv, h1, h2⟩ := id hS
        refine ⟨_, rfl, _, _, _, _, _, rfl, .own C, hS.ty S, kit_self (by simp), _, rfl, iteT ?_⟩
        refine ⟨_, rfl, q, C, dx, _, _, rfl, h1, S.cl, S.nK, sysF_many _ _, _, rfl, q, C, dx, _, _, rfl, h1, S.cl, S.nM, sysF_moves _ _, by show 2 ≤ sizeLine; decide, fun r hr2 => ?_⟩
        refine new_step hr2 fun H2 s2 e2 => ?_
        refine ⟨by show 2 ≤ sizeLine; decide, fun r3 hr3 => ?_⟩
        refine new_step hr3 fun H3 s3 e3 => ?_
        refine k r3 H3 ((s1.trans s2).trans s3) ⟨r, mv, SqT.of e3, ?_, h2.same (s2.trans s3)⟩
        rw [show ((many.toNat : Nat) : Int) = many by omega] at e2
        exact s3.sqT (SqT.of e2)
    · refine ⟨_, rfl, _, rfl, .inr ⟨ty, t1, t2, fun d H1 s1 hd hx => ?_⟩⟩
      refine ⟨true, x1, fun _ a ha => ?_, fun q => nomatch q⟩
      refine ⟨_, rfl, BL, d, _, .ref G, .ref G, true, rfl, rfl, eBL.T, rfl, hx, .own _, k1, _, rfl, iteT ?_⟩
      refine ⟨_, rfl, BL, d, _, .ref BS, .ref BS, false, rfl, rfl, eBL.T, rfl, hx, .own _, k2, _, rfl, iteT ?_⟩
      refine ⟨_, rfl, rfl, BL, d, _, _, rfl, eBL.T, eBL.no, rfl, hx, lk_hit, by show 2 ≤ sizeLine; decide, fun r hr2 => ?_⟩
      exact k r _ (s1.trans (Same.new hr2)) (SqT.of upd_same)
def spLText (K : PySem.W.Frag) : Sp := fun vs H Q _ => ∃ (many : Nat) (mv : Addr) (ms : List Mv), vs = [.int (many : Int), .ref mv] ∧ MvsAt K H mv ms ∧ many ≤ 12 ∧ ms.length ≤ 24 ∧ (∀ m ∈ ms, MvSm m ∧ m.2.length ≤ 12) ∧ ∀ t H', Same H H' → tl t = textT many ms → Q (.str t) H'
theorem text_len {ms : List Mv3} {many : Nat} (m12 : many ≤ 12) (h : ∀ m ∈ ms, MvSm m ∧ m.2.length ≤ 12) : (headT (many : Int) ++ [10] ++ (ms.map fun m => moveT m ++ [10]).flatten).length ≤ 10 + ms.length * 184 := by
  have h0 : (headT (many : Int)).length ≤ 9 := by
    unfold headT
    rw [List.length_append, Int.toNat_natCast]
    have : (numL many).length ≤ 2 := numL_len (by decide) (by show many < 100; omega)
    show 7 + _ ≤ _
    omega
  have h1 : ∀ l : List Mv3, (∀ m ∈ l, MvSm m ∧ m.2.length ≤ 12) → ((l.map fun m => moveT m ++ [10]).flatten).length ≤ l.length * 184 := fun l => by
    induction l with
    | nil => exact fun _ => Nat.zero_le _
    | cons m l ih =>
      intro hl
      have a := ih fun m hm => hl m (List.mem_cons_of_mem _ hm)
      have b := moveT_len (hl m List.mem_cons_self).1 (hl m List.mem_cons_self).2
      rw [List.map_cons, List.flatten_cons, List.length_append, List.length_append]
      show (moveT m).length + 1 + _ ≤ (l.length + 1) * 184
      omega
  have := h1 ms h
  rw [List.length_append, List.length_append]
  show _ + 1 + _ ≤ _
  omega
abbrev nLawText : List Str := ["_law_many", "_law_moves_here", "_law_found", "_law_share_here", "_law_leads_here", "_law_head_here", "_law_state"]
theorem scLawText : FnScope nLawText ["_law_many", "_law_moves_here"] (defScope s_law_text) := ⟨rfl, rfl, rfl, by decide +kernel, rfl, by decide +kernel, by decide +kernel⟩
theorem ok_text {f : Addr} {fd : FuncData} (F : Fun K "_law_text" "_law_text" s_law_text f fd) (T : NmA mg) : FnOk P w K mg base CX0 1 f fd ["_law_many", "_law_moves_here"] (spLText K) := by
  refine F.ok scLawText (fun vs H Q E h => ?_) (fun cdv A' outer s H vs Q E hr h => ?_)
  · obtain ⟨many, mv, ms, rfl, _⟩ := h
    rfl
  · obtain ⟨many, mv, ms, rfl, hMv, m12, l24, hm, k⟩ := h
    have hu := hu_of hr
    refine ⟨_, pss_cons (ps_set (i := 2) scLawText.nd rfl (Or.inl rfl) (pe_op op_add_str (pe_op op_add_str pe_str (pe_callTy call_str_int (by rfl) T.str (by decide +kernel) (pa_cons (pv 0) pa_nil))) pe_str))
      (pss_cons (ps_for PassesOwn.never rfl (pi_tup (pv 1)) (pg_tup (by rfl) (pgs_cons (pg_name (i := 3) scLawText.nd rfl (Or.inl rfl)) (pgs_cons (pg_name (i := 4) scLawText.nd rfl (Or.inl rfl)) pgs_nil)))
        (pss_cons (ps_set (i := 5) scLawText.nd rfl (Or.inl rfl) (pe_op op_add_str (pe_callTy call_str_int (by rfl) T.str (by decide +kernel) (pa_cons (pe_ix ix_tup (pv 3) pe_int (fun _ _ => rfl)) pa_nil)) (pe_ifExp (pt_cmpR op_gt (pe_ix ix_tup (pv 3) pe_int (fun _ _ => rfl)) pe_int (nomark _)) (pe_op op_add_str pe_str (pe_callTy call_str_int (by rfl) T.str (by decide +kernel) (pa_cons (pe_ix ix_tup (pv 3) pe_int (fun _ _ => rfl)) pa_nil))) pe_str)))
        (pss_one (ps_set (i := 2) scLawText.nd rfl (Or.inl rfl) (pe_op op_add_str (pe_op op_add_str (pe_op op_add_str (pe_op op_add_str (pv 2) (pv 5)) pe_str) (pe_m1 PySem.F.slot_str_join PySem.F.type_str_join mt_join pe_str (pe_lc (own := [("_law_state", 6)]) (g := (gName 6)) (tt := tYes) rfl scLawText.nd  (pi_tup (pv 4)) (blkOk_by (own := [("_law_state", 6)]) (N := nLawText) (sc := defScope s_law_text) (by decide +kernel)) (fun _ _ _ _ _ => (pg_name (i := 6) scLawText.nd rfl (Or.inl rfl))) (fun _ _ _ _ _ => pts_nil) (fun _ _ _ _ _ => (pe_callTy call_str_int (by rfl) T.str (by decide +kernel) (pa_cons (pv 6) pa_nil)))))) pe_str)))))
      (pss_one (ps_ret (pv 2)))), ?_⟩
    obtain ⟨vs, hV, hM⟩ := hMv
    have vl := hM.1
    have c_st : ("states " : Str).length = 7 := by decide +kernel
    have c_cs : (": " : Str).length = 2 := by decide +kernel
    have c_nl : ("\n" : Str).length = 1 := by decide +kernel
    have c_sl : ("/" : Str).length = 1 := by decide +kernel
    have t_st : tl ("states " : Str) = [115, 116, 97, 116, 101, 115, 32] := by decide +kernel
    have ln : (Str.ofString (toString (many : Int))).length ≤ 2 := by
      rw [len_tl, tl_num]
      exact numL_len (by decide) (by show many < 100; omega)
    refine ⟨_, rfl, (many : Int), rfl, logn (Nat.lt_of_le_of_lt (show (many : Int).natAbs ≤ 12 by omega) (by decide)), _, _, rfl, rfl, by rw [sizeLine_eq, c_st]; omega, _, _, rfl, rfl, by rw [sizeLine_eq, Str.length_append, c_st, c_nl]; omega, ?_⟩
    refine ⟨_, rfl, mv, rfl, ⟨_, hV⟩, for_tup (K := K) (a := mv) (xs := vs) (fun i σ H' => Same H H' ∧ ∃ (fnd : Str) (u v x : Option V), tl fnd = headT many ++ [10] ++ ((ms.take i).map fun m => moveT m ++ [10]).flatten ∧ σ = [some (.int (many : Int)), some (.ref mv), some (.str fnd), u, v, x, none]) ⟨Same.refl H, _, none, none, none, ?_, rfl⟩ (fun i σ H' _ h => h.1.sqT hV) ?_ ?_⟩
    · rw [tl_append, tl_append, t_st, tl_num, one_nl, List.take_zero]
      unfold headT
      rw [Int.toNat_natCast, List.map_nil, List.flatten_nil, List.append_nil]
    · rintro i x σ H2 hi ⟨s2, fnd, u, v, y, g2, rfl⟩
      obtain ⟨m, hmi, a, s, l, rfl, hA, hT, hLd⟩ := hM.2 i x hi
      obtain ⟨sm, ll⟩ := hm m (List.mem_of_getElem? hmi)
      obtain ⟨f0, f1, f2, f3, _, f6⟩ := id sm
      have il := (List.getElem?_eq_some_iff.mp hmi).1
      have fl : fnd.length ≤ 10 + 24 * 184 := by
        rw [len_tl, g2]
        have z := text_len (ms := ms.take i) m12 fun m hm' => hm m (List.mem_of_mem_take hm')
        have : (ms.take i).length ≤ 24 := by rw [List.length_take]; omega
        omega
      have l1 : (Str.ofString (toString m.1.1)).length ≤ 12 := by
        rw [len_tl, tl_str f0]
        exact numL_len (by decide) (by omega)
      have l2 : (Str.ofString (toString m.1.2)).length ≤ 12 := by
        rw [len_tl, tl_str (Int.le_of_lt f2)]
        exact numL_len (by decide) (by omega)
      have lg : ∀ n : Int, 0 ≤ n → n < 10 ^ 12 → n.natAbs.log2 < 1920 := fun n h0 h1 => logn (Nat.lt_of_lt_of_le (show n.natAbs < 10 ^ 12 by omega) (by decide))
      refine ⟨a, _, rfl, s2.sqT hA, rfl, _, _, rfl, _, _, rfl, rfl, ?_⟩
      refine ⟨_, rfl, s, _, _, _, rfl, rfl, s2.sqT hT, ats0 _ _, m.1.1, rfl, lg _ f0 f1, ?_⟩
      refine mrg (fun v H' => H' = H2 ∧ ∃ z : Str, v = .str z ∧ z.length ≤ 13 ∧ tl z = if m.1.2 = 1 then [] else 47 :: numL m.1.2.toNat) (fun Q' key => ?_) ?_
      · refine ⟨_, rfl, s, _, _, _, rfl, rfl, s2.sqT hT, ats1 _ _, _, _, rfl, rfl, _, rfl, ?_⟩
        by_cases b1 : m.1.2 > 1
        · rw [decide_eq_true b1]
          refine iteT ⟨_, rfl, s, _, _, _, rfl, rfl, s2.sqT hT, ats1 _ _, m.1.2, rfl, lg _ (Int.le_of_lt f2) f3, _, _, rfl, rfl, by rw [sizeLine_eq, c_sl]; omega, ?_⟩
          refine key _ _ ⟨rfl, _, rfl, by rw [Str.length_append, c_sl]; omega, ?_⟩
          rw [if_neg (by omega), tl_append, tl_str (Int.le_of_lt f2), sl_is] <;> rfl
        · rw [decide_eq_false b1]
          refine iteF (key _ _ ⟨rfl, _, rfl, by rw [e_emp]; exact Nat.zero_le _, ?_⟩)
          rw [if_pos (by omega), e_emp] <;> rfl
      rintro v' H2' ⟨rfl, z, rfl, zl, hz⟩
      have hd : tl (Str.ofString (toString m.1.1) ++ z) = fracT m.1 := by
        rw [tl_append, tl_str f0, hz] <;> rfl
      have hdl : (Str.ofString (toString m.1.1) ++ z).length ≤ 25 := by rw [Str.length_append]; omega
      refine ⟨_, _, rfl, rfl, by rw [sizeLine_eq]; omega, ?_⟩
      generalize Str.ofString (toString m.1.1) ++ z = hdS at hd hdl ⊢
      refine ⟨_, rfl, _, rfl, _, _, rfl, rfl, by rw [sizeLine_eq]; omega, _, _, rfl, rfl, by rw [sizeLine_eq, Str.length_append, c_cs]; omega, ⟨_, rfl⟩, _, rfl, l, rfl, ⟨_, s2.sqT hLd⟩, fun D hD => ?_⟩
      refine lc_tup (K := K) (a := l) (xs := m.2.map V.int) (fun j H' => Same H2' H' ∧ H' D = some (.lst ((m.2.take j).map fun c => V.str (Str.ofString (toString c))))) ⟨Same.new hD, upd_same⟩ (fun j H' _ g => (s2.trans g.1).sqT hLd) (fun j y H4 hj g => ?_) fun H4 g => ?_
      · obtain ⟨s4, g4⟩ := g
        rw [List.getElem?_map] at hj
        obtain ⟨c, hc, rfl⟩ := Option.map_eq_some_iff.mp hj
        obtain ⟨c0, c1⟩ := f6 c (List.mem_of_getElem? hc)
        have jl := (List.getElem?_eq_some_iff.mp hc).1
        refine ⟨rfl, _, rfl, c, rfl, lg c c0 c1, _, g4, ?_, s4.mut hD, ?_⟩
        · rw [List.length_map, List.length_take]
          exact small1000 (by omega)
        · rw [upd_same, List.take_add_one, hc, List.map_append] <;> rfl
      · obtain ⟨s4, g4⟩ := g
        rw [List.length_map, List.take_length] at g4
        have jt : tl (Txt.join (" " : Str) (m.2.map fun c => Str.ofString (toString c))) = joinL [32] (m.2.map fun s => numL s.toNat) := by
          rw [join_eq, tl_join, one_sp, List.map_map]
          exact congrArg (joinL [32]) (List.map_congr_left fun c hc => tl_str (f6 c hc).1)
        have jl := lead_len sm ll
        have sb : ((m.2.map fun c => Str.ofString (toString c)).map (·.length)).sum ≤ (m.2.map fun c => Str.ofString (toString c)).length * 12 := by
          have z := natsum_le (c := 12) ((m.2.map fun c => Str.ofString (toString c)).map (·.length)) fun y hy => by
            obtain ⟨q, hq, rfl⟩ := List.mem_map.mp hy
            obtain ⟨c, hc, rfl⟩ := List.mem_map.mp hq
            obtain ⟨a0, a1⟩ := f6 c hc
            rw [len_tl, tl_str a0]
            exact numL_len (by decide) (by omega)
          rw [List.length_map (as := m.2.map _)] at z
          exact z
        rw [List.length_map] at sb
        have lj : (Txt.join (" " : Str) (m.2.map fun c => Str.ofString (toString c))).length ≤ 156 := by rw [len_tl, jt]; exact jl
        refine ⟨_, D, m.2.map fun c => Str.ofString (toString c), rfl, rfl, .inl (SqL.of (by rw [List.map_map]; exact g4)), ?_, _, _, rfl, rfl, ?_, ?_⟩
        · have c_sp : (" " : Str).length = 1 := by decide +kernel
          rw [List.length_map, c_sp]
          omega
        · show (fnd ++ hdS ++ (": " : Str)).length + (Txt.join (" " : Str) (m.2.map fun c => Str.ofString (toString c))).length ≤ sizeLine
          rw [Str.length_append, Str.length_append, c_cs, sizeLine_eq]
          omega
        · refine ⟨_, _, rfl, rfl, ?_, s2.trans s4, _, _, _, _, ?_, rfl⟩
          · show (fnd ++ hdS ++ (": " : Str) ++ Txt.join (" " : Str) (m.2.map fun c => Str.ofString (toString c))).length + ("\n" : Str).length ≤ sizeLine
            rw [Str.length_append, Str.length_append, Str.length_append, c_cs, c_nl, sizeLine_eq]
            omega
          · show tl (fnd ++ hdS ++ (": " : Str) ++ Txt.join (" " : Str) (m.2.map fun c => Str.ofString (toString c)) ++ ("\n" : Str)) = _
            rw [tl_append, tl_append, tl_append, tl_append, g2, hd, jt, one_nl, cs_is, List.take_add_one, hmi]
            simp only [Option.toList, List.map_append, List.map_cons, List.map_nil, List.flatten_append, List.flatten_cons, List.flatten_nil, List.append_nil, List.append_assoc, moveT] <;> rfl
    · rintro σ H2 ⟨s2, fnd, u, v, y, g2, rfl⟩
      rw [vl, List.take_length] at g2
      exact ⟨_, rfl, k fnd H2 s2 g2⟩
end
end Law

namespace L2
open PySem PySem.Spec PyProof.Rows PySem.Builtin PySem.Builtin.Str
theorem rep_len (a : Array Nat) : ∀ (n : Nat) (b : Array Nat), ((List.replicate n a).foldl (· ++ ·) b).size = b.size + n * a.size
  | 0, b => by simp
  | n + 1, b => by
    rw [List.replicate_succ, List.foldl_cons, rep_len a n, Array.size_append, Nat.add_mul]
    omega
/-- a text, some times -/
def rRepS : R2 := fun x y H Q => ∃ (z : Str) (n : Int), x = .str z ∧ y = .int n ∧ 2 ≤ n ∧ n ≤ 1000 ∧ 1 ≤ z.length ∧ z.length ≤ 1000 ∧ ∀ z' : Str, z'.length = z.length * n.toNat → Q (.str z') H
theorem op_repS {X : Cx} : OpR X (binaryOp .Mult) rRepS := by
  intro pins s σ H x y v u Q I rx ry h
  obtain ⟨z, n, rfl, rfl, n2, n3, l1, l2, q⟩ := h
  obtain ⟨t, rfl⟩ := rx
  obtain ⟨t', rfl⟩ := ry
  have hn : z.length * n.toNat ≤ 1000 * 1000 := Nat.mul_le_mul l2 (by omega)
  have c2 : (n == 1 || z.length == 0) = false := by
    rw [beq_eq_false_iff_ne.mpr (show n ≠ 1 by omega), beq_eq_false_iff_ne.mpr (show z.length ≠ 0 by omega)] <;> rfl
  have sz : ((List.replicate n.toNat z.cps).foldl (· ++ ·) #[]).size = z.length * n.toNat := by
    rw [rep_len, Nat.mul_comm]
    show 0 + _ = _
    rw [Nat.zero_add] <;> rfl
  refine PySem.P.mul_str ?_ (fun _ _ => ?_) (fun _ _ => ?_) ?_
  · rw [decide_eq_false (by omega), decide_eq_false (by omega)] <;> rfl
  · have h1 : (1000 : Int) ≤ (2 ^ 63 - 1) / n := by
      refine Int.le_ediv_of_mul_le (by omega) ?_
      omega
    omega
  · unfold tooLong
    refine decide_eq_false ?_
    rw [sizeLine_eq]
    omega
  · rw [if_neg (by omega), c2, if_neg Bool.false_ne_true]
    refine ⟨?_, ?_⟩
    · show ((List.replicate n.toNat z.cps).foldl (· ++ ·) #[]).size ≤ sizeLine
      rw [sz, sizeLine_eq]
      omega
    · exact ⟨.str _, H, I.tok _, ⟨_, rfl⟩, q _ sz⟩
end L2
namespace L2
open PySem PySem.Spec PyProof.Rows TL
/-- the signs of the lines, each with its line feed -/
def szL (l : List Str) : Nat := (l.map fun x => x.length + 1).sum
theorem szL_app (a b : List Str) : szL (a ++ b) = szL a + szL b := by unfold szL; rw [List.map_append, List.sum_append]
theorem szL_one (x : Str) : szL [x] = x.length + 1 := by simp [szL]
theorem szL_cut (l : List Str) (i : Nat) : szL (l.take i) + szL (l.drop i) = szL l := by rw [← szL_app, List.take_append_drop]
theorem szL_drop (l : List Str) (i : Nat) : szL (l.drop i) ≤ szL l := by
  have := szL_cut l i
  omega
theorem szL_take (l : List Str) (i : Nat) : szL (l.take i) ≤ szL l := by
  have := szL_cut l i
  omega
theorem szL_gap (l : List Str) (i j : Nat) : szL (l.take i) + szL (l.drop (i + j)) ≤ szL l := by
  have := szL_cut l i
  have := szL_drop (l.drop i) j
  rw [List.drop_drop] at this
  omega
theorem szL_get {l : List Str} {i : Nat} {x : Str} (h : l[i]? = some x) : szL (l.take i) + (x.length + 1) + szL (l.drop (i + 1)) = szL l := by
  have hi := (List.getElem?_eq_some_iff.mp h).1
  have e : l.drop i = x :: l.drop (i + 1) := by
    rw [List.drop_eq_getElem_cons hi]
    congr 1
    exact (List.getElem?_eq_some_iff.mp h).2
  have := szL_cut l i
  rw [e, show x :: l.drop (i + 1) = [x] ++ l.drop (i + 1) from rfl, szL_app, szL_one] at this
  omega
theorem szL_mem {l : List Str} {x : Str} (h : x ∈ l) : x.length + 1 ≤ szL l := by
  obtain ⟨i, hi⟩ := List.getElem?_of_mem h
  have := szL_get hi
  omega
theorem szL_set (l : List Str) (i : Nat) (v : Str) : szL (l.set i v) ≤ szL l + (v.length + 1) := by
  by_cases hi : i < l.length
  · have e : l.set i v = l.take i ++ [v] ++ l.drop (i + 1) := by rw [List.set_eq_take_append_cons_drop, if_pos hi, List.append_assoc] <;> rfl
    rw [e, szL_app, szL_app, szL_one]
    have := szL_gap l i 1
    omega
  · rw [List.set_eq_of_length_le (by omega)]
    omega
theorem szL_len : ∀ l : List Str, l.length ≤ szL l
  | [] => Nat.zero_le _
  | x :: l => by
    have := szL_len l
    rw [show x :: l = [x] ++ l from rfl, szL_app, szL_one, List.length_append]
    show 1 + _ ≤ _
    omega
theorem join_sz (s : Nat) : ∀ l : List Str, (joinL [s] (l.map tl)).length ≤ szL l
  | [] => Nat.zero_le _
  | [x] => by rw [szL_one, len_tl] <;> exact Nat.le_succ _
  | x :: y :: r => by
    have ih := join_sz s (y :: r)
    rw [show x :: y :: r = [x] ++ (y :: r) from rfl, szL_app, szL_one, List.map_append]
    show (tl x ++ ([s] ++ joinL [s] ((y :: r).map tl))).length ≤ _
    rw [List.length_append, List.length_append, len_tl x]
    show _ + (1 + _) ≤ _
    omega
theorem split_sz (x : Str) {c : Nat} (hc : c < 256) : szL (Txt.split x (⟨#[c]⟩ : Str)) = x.length + 1 := by
  have hy : tl (⟨#[c]⟩ : Str) = [c] := rfl
  have e := split_spl x (⟨#[c]⟩ : Str) (by rw [hy]; simp) (kind_ok (by simp [hc]))
  rw [hy] at e
  have j : joinL [c] (spl [c] 0 [] (tl x)) = tl x := by rw [join_spl, List.nil_append]
  have key : ∀ ps : List Str, ps ≠ [] → szL ps = (joinL [c] (ps.map tl)).length + 1 := fun ps => by
    induction ps with
    | nil => exact fun h => absurd rfl h
    | cons p ps ih =>
      intro _
      cases ps with
      | nil => rw [szL_one, len_tl] <;> rfl
      | cons q r =>
        rw [show p :: q :: r = [p] ++ (q :: r) from rfl, szL_app, szL_one, ih (by simp), List.map_append]
        show _ = (tl p ++ ([c] ++ joinL [c] ((q :: r).map tl))).length + 1
        rw [List.length_append, List.length_append, len_tl p]
        show _ = _ + (1 + _) + 1
        omega
  rw [key _ (split_ne hc), e, j, ← len_tl]
theorem sum_sz : ∀ l : List Str, (l.map (·.length)).sum + l.length = szL l
  | [] => rfl
  | x :: l => by
    have := sum_sz l
    rw [show x :: l = [x] ++ l from rfl, szL_app, szL_one, List.map_append, List.sum_append, List.length_append]
    simp
    omega
theorem cut_toS (xs : List Str) (n : Nat) : cutV (xs.map V.str) none (some (n : Int)) = (xs.take n).map V.str := by
  unfold cutV
  show ((xs.map V.str).drop 0).take (HT.sIx (xs.map V.str).length (xs.map V.str).length (some (n : Int)) - 0) = _
  rw [HT.sIx_nat, List.drop_zero, Nat.sub_zero, List.map_take, List.length_map]
  rcases Nat.le_total n xs.length with h | h
  · rw [Nat.min_eq_left h]
  · rw [Nat.min_eq_right h, List.take_of_length_le (by rw [List.length_map]; exact Nat.le_refl _), List.take_of_length_le (by rw [List.length_map]; exact h)]
theorem cut_fromS (xs : List Str) (n : Nat) : cutV (xs.map V.str) (some (n : Int)) none = (xs.drop n).map V.str := by
  unfold cutV
  show ((xs.map V.str).drop (HT.sIx (xs.map V.str).length 0 (some (n : Int)))).take ((xs.map V.str).length - HT.sIx (xs.map V.str).length 0 (some (n : Int))) = _
  rw [HT.sIx_nat, List.map_drop, List.length_map]
  rw [List.take_of_length_le (by rw [List.length_drop, List.length_map]; omega)]
  rcases Nat.le_total n xs.length with h | h
  · rw [Nat.min_eq_left h]
  · rw [Nat.min_eq_right h, List.drop_of_length_le (by rw [List.length_map]; exact Nat.le_refl _), List.drop_of_length_le (by rw [List.length_map]; exact h)]
end L2
namespace Law
open PySem L2 TL
section
variable {P : Program} {w : World} {K : PySem.W.Frag} {mg : Str → Option Value} {base : Heap}
theorem asg_mrg {te : TE} {g : TG} {B : TS} {E : Ends} {σ : L2.St} {H : Hp} (R : V → Hp → Prop) (h : ∀ Q' : VK, (∀ x H1, R x H1 → Q' x H1) → te σ H Q') (key : ∀ x H1, R x H1 → g x σ H1 (B E)) {r : VK} {b c : L2.St → Hp → Prop} : tNext { nx := tSeq (tAsg te g) B E, rt := r, bk := b, ct := c } σ H := h _ key
theorem asg_mrg2 {te : TE} {g : TG} {B : TS} {E : Ends} {σ : L2.St} {H : Hp} (R : V → Hp → Prop) (h : ∀ Q' : VK, (∀ x H1, R x H1 → Q' x H1) → te σ H Q') (key : ∀ x H1, R x H1 → g x σ H1 (B E)) : tSeq (tAsg te g) B E σ H := h _ key
def spBent (K : PySem.W.Frag) : Sp := fun vs H Q _ => ∃ (p od : Addr) (t : Str) (os : List Str), vs = [.ref p, .str t, .ref od] ∧ HandAt H p ∧ H od = some (.lst (os.map V.str)) ∧ 0 < os.length ∧ os.length ≤ 100 ∧ (∀ o ∈ os, o.length ≤ 30) ∧ t.length ≤ 20000 ∧ ∀ (t' : Str) H', Stp p H H' → t'.length ≤ 3 * (t.length + 1) + 100 → Q (.str t') H'
theorem strs13 {x : V} (h : x ∈ [V.str ("0" : Str), .str "1", .str "2", .str "9", .str " ", .str "-", .str ":", .str "/", .str "s", .str "\n", .str ".", .str "+", .str "~"]) : ∃ z : Str, x = .str z ∧ z.length ≤ 1 := by
  simp only [List.mem_cons, List.not_mem_nil, or_false] at h
  rcases h with rfl | rfl | rfl | rfl | rfl | rfl | rfl | rfl | rfl | rfl | rfl | rfl | rfl <;> exact ⟨_, rfl, by decide +kernel⟩
abbrev nLawBent : List Str := ["_law_hand_here", "_law_text_here", "_law_odd", "_law_lines", "_law_at", "_law_to", "_law_line_here", "_law_here", "_law_sign", "_law_kind", "_law_cut", "_law_other", "_law_words", "_law_spot", "_law_some", "_law_word"]
theorem scLawBent : FnScope nLawBent ["_law_hand_here", "_law_text_here", "_law_odd"] (defScope s_law_bent) := ⟨rfl, rfl, rfl, by decide +kernel, rfl, by decide +kernel, by decide +kernel⟩
theorem ok_bent {f : Addr} {fd : FuncData} {fD : Addr} {fdD : FuncData} {fA : Addr} {fdA : FuncData} (F : Fun K "_law_bent" "_law_bent" s_law_bent f fd) (T : NmA mg) (D : Cl P w K mg base CX0 1 "_law_draw" fD fdD ["_law_hand_here", "_law_many"] spDraw) (A : Cl P w K mg base CX0 2 "_law_any" fA fdA ["_law_hand_here", "_law_things"] (spAny K)) : FnOk P w K mg base CX0 3 f fd ["_law_hand_here", "_law_text_here", "_law_odd"] (spBent K) := by
  refine F.ok scLawBent (fun vs H Q E h => ?_) (fun cdv A' outer s H vs Q E hr h => ?_)
  · obtain ⟨p, od, t, os, rfl, _⟩ := h
    rfl
  · obtain ⟨p, od, t, os, rfl, hH, hO, o0, o1, ol, tl2, k⟩ := h
    have hu := hu_of hr
    refine ⟨_, pss_cons (ps_set (i := 3) scLawBent.nd rfl (Or.inl rfl) (pe_m1 PySem.F.slot_str_split PySem.F.type_str_split mt_split (pv 1) pe_str))
      (pss_cons (ps_par (i := 4) (j := 5) (by rfl) scLawBent.nd rfl rfl (by decide) rfl rfl (pa_cons (D.call (hr.mono (by decide)) (pa_cons (pv 0) (pa_cons (pe_callB call_len_seq (by rfl) T.len PySem.boot_len (pa_cons (pv 3) pa_nil)) pa_nil))) (pa_cons (D.call (hr.mono (by decide)) (pa_cons (pv 0) (pa_cons (pe_callB call_len_seq (by rfl) T.len PySem.boot_len (pa_cons (pv 3) pa_nil)) pa_nil))) pa_nil)) (by rfl))
      (pss_cons (ps_set (i := 6) scLawBent.nd rfl (Or.inl rfl) (pe_ix ix_list (pv 3) (pv 4) (fun _ _ => rfl)))
      (pss_cons (ps_set (i := 7) scLawBent.nd rfl (Or.inl rfl) (D.call (hr.mono (by decide)) (pa_cons (pv 0) (pa_cons (pe_op op_add (pe_callB call_len_str (by rfl) T.len PySem.boot_len (pa_cons (pv 6) pa_nil)) pe_int) pa_nil))))
      (pss_cons (ps_set (i := 8) scLawBent.nd rfl (Or.inl rfl) (A.call (hr.mono (by decide)) (pa_cons (pv 0) (pa_cons (pe_lst (pa_cons pe_str (pa_cons pe_str (pa_cons pe_str (pa_cons pe_str (pa_cons pe_str (pa_cons pe_str (pa_cons pe_str (pa_cons pe_str (pa_cons pe_str (pa_cons pe_str (pa_cons pe_str (pa_cons pe_str (pa_cons pe_str pa_nil)))))))))))))) pa_nil))))
      (pss_cons (ps_set (i := 9) scLawBent.nd rfl (Or.inl rfl) (D.call (hr.mono (by decide)) (pa_cons (pv 0) (pa_cons pe_int pa_nil))))
      (Evl.pss_cut (ps_if (pt_cmpR op_lt (pv 9) pe_int (nomark _))
        (pss_cons (ps_set (i := 10) scLawBent.nd rfl (Or.inl rfl) (pe_lst (pa_cons (pe_op op_add_str (pe_op op_add_str (pe_slice sl_str (pv 6) po_none (po_some (pv 7))) (pv 8)) (pe_slice sl_str (pv 6) (po_some (pv 7)) po_none)) (pa_cons (pe_op op_add_str (pe_slice sl_str (pv 6) po_none (po_some (pv 7))) (pe_slice sl_str (pv 6) (po_some (pe_op op_add (pv 7) pe_int)) po_none)) (pa_cons (pe_op op_add_str (pe_op op_add_str (pe_slice sl_str (pv 6) po_none (po_some (pv 7))) (pv 8)) (pe_slice sl_str (pv 6) (po_some (pe_op op_add (pv 7) pe_int)) po_none)) pa_nil)))))
        (pss_one (ps_set (i := 3) scLawBent.nd rfl (Or.inl rfl) (pe_op op_cat (pe_op op_cat (pe_slice sl_list (pv 3) po_none (po_some (pv 4))) (pe_lst (pa_cons (pe_ix ix_list (pv 10) (pv 9) (fun _ _ => rfl)) pa_nil))) (pe_slice sl_list (pv 3) (po_some (pe_op op_add (pv 4) pe_int)) po_none))))) (pss_one (ps_if (pt_cmpR op_eq (pv 9) pe_int (nomark _))
          (pss_one (ps_set (i := 3) scLawBent.nd rfl (Or.inl rfl) (pe_op op_cat (pe_slice sl_list (pv 3) po_none (po_some (pv 4))) (pe_slice sl_list (pv 3) (po_some (pe_op op_add (pv 4) pe_int)) po_none)))) (pss_one (ps_if (pt_cmpR op_eq (pv 9) pe_int (nomark _))
            (pss_one (ps_set (i := 3) scLawBent.nd rfl (Or.inl rfl) (pe_op op_cat (pe_op op_cat (pe_slice sl_list (pv 3) po_none (po_some (pv 5))) (pe_lst (pa_cons (pv 6) pa_nil))) (pe_slice sl_list (pv 3) (po_some (pv 5)) po_none)))) (pss_one (ps_if (pt_cmpR op_eq (pv 9) pe_int (nomark _))
              (pss_cons (ps_set (i := 11) scLawBent.nd rfl (Or.inl rfl) (pe_ix ix_list (pv 3) (pv 5) (fun _ _ => rfl)))
              (pss_cons (ps_asg (pv 6) (pg_sub (pv 3) (pv 5) set_list))
              (pss_one (ps_asg (pv 11) (pg_sub (pv 3) (pv 4) set_list))))) (pss_one (ps_if (pt_cmpR op_lt (pv 9) pe_int (nomark _))
                (pss_cons (ps_set (i := 12) scLawBent.nd rfl (Or.inl rfl) (pe_m1 PySem.F.slot_str_split PySem.F.type_str_split mt_split (pv 6) pe_str))
                (pss_cons (ps_set (i := 13) scLawBent.nd rfl (Or.inl rfl) (D.call (hr.mono (by decide)) (pa_cons (pv 0) (pa_cons (pe_callB call_len_seq (by rfl) T.len PySem.boot_len (pa_cons (pv 12) pa_nil)) pa_nil))))
                (pss_cons (ps_set (i := 14) scLawBent.nd rfl (Or.inl rfl) (pe_lst (pa_cons pe_str (pa_cons pe_str (pa_cons pe_str (pa_cons pe_str (pa_cons pe_str (pa_cons pe_str (pa_cons pe_str (pa_cons pe_str (pa_cons pe_str (pa_cons (pe_op op_repS pe_str pe_int) (pa_cons (pe_op op_add_str pe_str (pe_op op_repS pe_str pe_int)) (pa_cons pe_str (pa_cons pe_str (pa_cons pe_str (pa_cons pe_str (pa_cons pe_str pa_nil))))))))))))))))))
                (pss_cons (ps_expr (pe_bm PySem.F.plainAttrs_list PySem.F.slot_list_extend PySem.F.type_list_extend mt_extend (pv 14) (pa_cons (pe_lst (pa_cons pe_str (pa_cons pe_str (pa_cons pe_str (pa_cons pe_str (pa_cons pe_str (pa_cons pe_str (pa_cons pe_str (pa_cons pe_str (pa_cons pe_str (pa_cons pe_str (pa_cons pe_str pa_nil)))))))))))) pa_nil)))
                (pss_cons (ps_set (i := 15) scLawBent.nd rfl (Or.inl rfl) (pe_ifExp (pt_cmpR op_eq (D.call (hr.mono (by decide)) (pa_cons (pv 0) (pa_cons pe_int pa_nil))) pe_int (nomark _)) (pe_lst (pa_cons (A.call (hr.mono (by decide)) (pa_cons (pv 0) (pa_cons (pv 14) pa_nil))) pa_nil)) (pe_lst pa_nil)))
                (pss_cons (ps_set (i := 12) scLawBent.nd rfl (Or.inl rfl) (pe_op op_cat (pe_op op_cat (pe_slice sl_list (pv 12) po_none (po_some (pv 13))) (pv 15)) (pe_slice sl_list (pv 12) (po_some (pe_op op_add (pv 13) pe_int)) po_none)))
                (pss_one (ps_set (i := 3) scLawBent.nd rfl (Or.inl rfl) (pe_op op_cat (pe_op op_cat (pe_slice sl_list (pv 3) po_none (po_some (pv 4))) (pe_lst (pa_cons (pe_m1 PySem.F.slot_str_join PySem.F.type_str_join mt_join pe_str (pv 12)) pa_nil))) (pe_slice sl_list (pv 3) (po_some (pe_op op_add (pv 4) pe_int)) po_none)))))))))) (pss_one (ps_set (i := 3) scLawBent.nd rfl (Or.inl rfl) (pe_op op_cat (pe_op op_cat (pe_slice sl_list (pv 3) po_none (po_some (pv 4))) (pe_lst (pa_cons (A.call (hr.mono (by decide)) (pa_cons (pv 0) (pa_cons (pv 2) pa_nil))) pa_nil))) (pe_slice sl_list (pv 3) (po_some (pe_op op_sub (pe_op op_add (pv 4) (pv 9)) pe_int)) po_none)))))))))))))
      (pss_one (ps_ret (pe_m1 PySem.F.slot_str_join PySem.F.type_str_join mt_join pe_str (pv 3)))))))))), ?_⟩
    have hu2 := hu
    unfold tNoPart
    obtain ⟨ks, hp⟩ := hH.dk
    have tz : t.length ≤ sizeLine := by rw [sizeLine_eq]; omega
    have hz := split_sz t (c := 10) (by decide)
    have ne0 := split_ne (x := t) (c := 10) (by decide)
    have lz := szL_len (Txt.split t (⟨#[10]⟩ : Str))
    rw [← nl_is] at hz ne0 lz
    refine ⟨_, rfl, ⟨_, rfl⟩, t, _, rfl, rfl, by decide +kernel, by rw [sizeLine_eq]; omega, fun L hL => ?_⟩
    have Lp : L ≠ p := fun z => by rw [z, hp] at hL; cases hL
    refine new_step hL fun H1 s1 e1 => ?_
    generalize Txt.split t ("\n" : Str) = ls at hz ne0 lz e1
    have ll : 0 < ls.length := List.length_pos_iff.mpr ne0
    have lm : (ls.map V.str).length = ls.length := List.length_map _
    refine ⟨_, rfl, _, rfl, L, _, rfl, .inl (SqL.of e1), p, _, rfl, by omega, by omega, hH.same s1, fun d H2 d0 d1 S2 => ?_⟩
    have e2 := S2.keep _ _ Lp e1
    refine ⟨_, rfl, _, rfl, L, _, rfl, .inl (SqL.of e2), p, _, rfl, by omega, by omega, S2.hand, fun d' H3 d0' d1' S3 => ⟨_, _, rfl, ?_⟩⟩
    have e3 := S3.keep _ _ Lp e2
    obtain ⟨a, rfl⟩ := Int.eq_ofNat_of_zero_le d0
    obtain ⟨b, rfl⟩ := Int.eq_ofNat_of_zero_le d0'
    have al : a < ls.length := by omega
    have bl : b < ls.length := by omega
    have ha : ls[a]? = some ls[a] := List.getElem?_eq_getElem al
    have hb : ls[b]? = some ls[b] := List.getElem?_eq_getElem bl
    have lnm : ls[a].length + 1 ≤ szL ls := szL_mem (List.getElem_mem al)
    have lbm : ls[b].length + 1 ≤ szL ls := szL_mem (List.getElem_mem bl)
    have gap := szL_get ha
    generalize hln : ls[a] = ln at ha lnm gap
    have lnz : ln.length ≤ sizeLine := by rw [sizeLine_eq]; omega
    refine ⟨_, rfl, _, rfl, L, _, _, .str ln, rfl, rfl, SqL.of e3, atI_nat (by rw [List.getElem?_map, ha] <;> rfl), ?_⟩
    refine ⟨_, rfl, _, rfl, ln, rfl, lnz, _, _, rfl, rfl, p, _, rfl, by omega, by omega, S3.hand, fun h H4 h0 h1 S4 => ?_⟩
    obtain ⟨hh, rfl⟩ := Int.eq_ofNat_of_zero_le h0
    refine ⟨_, rfl, by show 13 ≤ sizeLine; decide, fun q hq => ⟨p, q, _, rfl, .inl (SqL.of upd_same), by show 0 < 13; decide, by show 13 < _; decide, S4.hand.same (Same.new hq), fun j x H5 hj S5 => ?_⟩⟩
    obtain ⟨sg, rfl, sgl⟩ := strs13 (List.mem_of_getElem? hj)
    have S45 : Stp p H4 H5 := S5.pre (Same.new hq)
    refine ⟨_, rfl, p, 13, rfl, by decide, by decide, S45.hand, fun kd H6 k0 k1 S6 => ?_⟩
    have S36 := (S4.trans S45).trans S6
    have e6 := S36.keep _ _ Lp e3
    have S06 : Stp p H H6 := ((S2.trans S3).trans S36).pre s1
    have o6 : H6 od = some (.lst (os.map V.str)) := S06.keep _ _ (fun z => by rw [z, hp] at hO; cases hO) hO
    clear S36 S45 S6 S5 S4 e3 e2 e1
    obtain ⟨kn, rfl⟩ := Int.eq_ofNat_of_zero_le k0
    have fz : ∀ n : Nat, n ≤ 1000000 → n ≤ sizeLine := fun n hn => by rw [sizeLine_eq]; omega
    have ap : ∀ x y : Str, (x ++ y).length = x.length + y.length := Str.length_append
    have slen : ∀ l : List Str, (l.map V.str).length ≤ szL l := fun l => by rw [List.length_map]; exact szL_len l
    have tk := fun i => szL_take ls i
    have dr := fun i => szL_drop ls i
    refine ⟨fun σ' H' => Stp p H H' ∧ ∃ (L' : Addr) (ys : List Str) (u4 u5 u6 u7 u8 u9 u10 u11 u12 u13 u14 u15 : Option V), σ' = [some (.ref p), some (.str t), some (.ref od), some (.ref L'), u4, u5, u6, u7, u8, u9, u10, u11, u12, u13, u14, u15] ∧ H' L' = some (.lst (ys.map V.str)) ∧ szL ys ≤ 3 * (t.length + 1) + 100, ?_, ?_⟩
    · -- what is bent
      have fin : ∀ (H' : Hp) (q : Addr) (ys : List Str), Same H6 H' → H' q = some (.lst (ys.map V.str)) → szL ys ≤ 3 * (t.length + 1) + 100 → ∀ u4 u5 u6 u7 u8 u9 u10 u11 u12 u13 u14 u15 : Option V, Stp p H H' ∧ ∃ (L' : Addr) (ys : List Str) (v4 v5 v6 v7 v8 v9 v10 v11 v12 v13 v14 v15 : Option V), [some (V.ref p), some (.str t), some (.ref od), some (.ref q), u4, u5, u6, u7, u8, u9, u10, u11, u12, u13, u14, u15] = [some (V.ref p), some (.str t), some (.ref od), some (.ref L'), v4, v5, v6, v7, v8, v9, v10, v11, v12, v13, v14, v15] ∧ H' L' = some (.lst (ys.map V.str)) ∧ szL ys ≤ 3 * (t.length + 1) + 100 := fun H' q ys s e l u4 u5 u6 u7 u8 u9 u10 u11 u12 u13 u14 u15 => ⟨S06.post s, q, ys, _, _, _, _, _, _, _, _, _, _, _, _, rfl, e, l⟩
      have c1 : (cutS ln none (some (hh : Int))).length + (cutS ln (some (hh : Int)) none).length = ln.length := by
        rw [len_tl, len_tl (cutS ln (some (hh : Int)) none), tl_cutS_to, tl_cutS_from, len_tl ln, List.length_take, List.length_drop]
        omega
      have c2 : (cutS ln none (some (hh : Int))).length + (cutS ln (some ((hh : Int) + 1)) none).length ≤ ln.length := by
        have e : ((hh : Int) + 1) = ((hh + 1 : Nat) : Int) := by rw [Int.natCast_add] <;> rfl
        rw [e, len_tl, len_tl (cutS ln (some ((hh + 1 : Nat) : Int)) none), tl_cutS_to, tl_cutS_from, len_tl ln, List.length_take, List.length_drop]
        omega
      have a1 : ((a : Int) + 1) = ((a + 1 : Nat) : Int) := by rw [Int.natCast_add] <;> rfl
      refine ⟨_, rfl, _, _, rfl, rfl, _, rfl, ?_⟩
      by_cases q3 : kn < 3
      · rw [decide_eq_true (show (kn : Int) < 3 by omega)]
        refine iteT ⟨_, rfl, _, rfl, _, rfl, ln, rfl, lnz, _, rfl, _, _, rfl, rfl, fz _ (by omega), _, rfl, _, rfl, _, rfl, ln, rfl, lnz, _, _, rfl, rfl, fz _ (by rw [ap]; omega), ?_⟩
        refine ⟨_, rfl, _, rfl, _, rfl, ln, rfl, lnz, _, rfl, _, rfl, _, _, rfl, rfl, _, rfl, ln, rfl, lnz, _, _, rfl, rfl, fz _ (by omega), ?_⟩
        refine ⟨_, rfl, _, rfl, _, rfl, ln, rfl, lnz, _, rfl, _, _, rfl, rfl, fz _ (by omega), _, rfl, _, rfl, _, _, rfl, rfl, _, rfl, ln, rfl, lnz, _, _, rfl, rfl, fz _ (by rw [ap]; omega), by show 3 ≤ sizeLine; decide, fun C hC => ?_⟩
        refine new_step hC fun H7 s7 e7 => ?_
        have pick : ∃ z : Str, atI [V.str (cutS ln none (some (hh : Int)) ++ sg ++ cutS ln (some (hh : Int)) none), .str (cutS ln none (some (hh : Int)) ++ cutS ln (some ((hh : Int) + 1)) none), .str (cutS ln none (some (hh : Int)) ++ sg ++ cutS ln (some ((hh : Int) + 1)) none)] ((kn : Nat) : Int) = some (.str z) ∧ z.length ≤ ln.length + 1 := by
          match kn, q3 with
          | 0, _ => exact ⟨_, atI_nat rfl, by rw [ap, ap]; omega⟩
          | 1, _ => exact ⟨_, atI_nat rfl, by rw [ap]; omega⟩
          | 2, _ => exact ⟨_, atI_nat rfl, by rw [ap, ap]; omega⟩
        obtain ⟨z, hz1, hz2⟩ := pick
        have e67 := s7 _ _ e6
        refine ⟨_, rfl, _, rfl, (a : Int), rfl, L, _, rfl, SqL.of e67, fun p1 hp1 => ?_⟩
        rw [cut_toS]
        refine new_step hp1 fun H8 s8 e8 => ?_
        refine ⟨_, rfl, _, rfl, C, _, _, .str z, rfl, rfl, SqL.of (s8 _ _ e7), hz1, by show 1 ≤ sizeLine; decide, fun p2 hp2 => ?_⟩
        refine new_step hp2 fun H9 s9 e9 => ?_
        have l1 := slen (ls.take a)
        have l2 := tk a
        refine ⟨p1, p2, _, _, rfl, rfl, s9 _ _ e8, e9, fz _ (by show _ + 1 ≤ _; omega), fun p3 hp3 => ?_⟩
        refine new_step hp3 fun H10 s10 e10 => ?_
        have s710 := (s8.trans s9).trans s10
        refine ⟨_, rfl, _, rfl, _, _, rfl, rfl, _, rfl, L, _, rfl, SqL.of (s710 _ _ e67), fun p4 hp4 => ?_⟩
        rw [a1, cut_fromS]
        refine new_step hp4 fun H11 s11 e11 => ?_
        have l3 := slen (ls.drop (a + 1))
        have l4 := dr (a + 1)
        refine ⟨p3, p4, _, _, rfl, rfl, s11 _ _ e10, e11, fz _ (by rw [List.length_append]; show _ + 1 + _ ≤ _; omega), fun p5 hp5 => ?_⟩
        refine new_step hp5 fun H12 s12 e12 => ?_
        refine fin H12 p5 (ls.take a ++ [z] ++ ls.drop (a + 1)) (((s7.trans s710).trans s11).trans s12) (by rw [e12, List.map_append, List.map_append] <;> rfl) ?_ _ _ _ _ _ _ _ _ _ _ _ _
        rw [szL_app, szL_app, szL_one]
        omega
      rw [decide_eq_false (show ¬ (kn : Int) < 3 by omega)]
      refine iteF ⟨_, rfl, rfl, _, rfl, ?_⟩
      by_cases q4 : kn = 3
      · rw [decide_eq_true (show V.int (kn : Int) = V.int 3 by rw [q4] <;> rfl)]
        refine iteT ⟨_, rfl, _, rfl, (a : Int), rfl, L, _, rfl, SqL.of e6, fun p1 hp1 => ?_⟩
        rw [cut_toS]
        refine new_step hp1 fun H8 s8 e8 => ?_
        refine ⟨_, rfl, _, rfl, _, _, rfl, rfl, _, rfl, L, _, rfl, SqL.of (s8 _ _ e6), fun p4 hp4 => ?_⟩
        rw [a1, cut_fromS]
        refine new_step hp4 fun H11 s11 e11 => ?_
        have l1 := slen (ls.take a)
        have l2 := tk a
        have l3 := slen (ls.drop (a + 1))
        have l4 := dr (a + 1)
        refine ⟨p1, p4, _, _, rfl, rfl, s11 _ _ e8, e11, fz _ (by omega), fun p5 hp5 => ?_⟩
        refine new_step hp5 fun H12 s12 e12 => ?_
        refine fin H12 p5 (ls.take a ++ ls.drop (a + 1)) ((s8.trans s11).trans s12) (by rw [e12, List.map_append] <;> rfl) ?_ _ _ _ _ _ _ _ _ _ _ _ _
        rw [szL_app]
        omega
      rw [decide_eq_false (show ¬ V.int (kn : Int) = V.int 3 from fun z => q4 (by have := V.int.inj z; omega))]
      refine iteF ⟨_, rfl, rfl, _, rfl, ?_⟩
      by_cases q5 : kn = 4
      · rw [decide_eq_true (show V.int (kn : Int) = V.int 4 by rw [q5] <;> rfl)]
        refine iteT ⟨_, rfl, _, rfl, (b : Int), rfl, L, _, rfl, SqL.of e6, fun p1 hp1 => ?_⟩
        rw [cut_toS]
        refine new_step hp1 fun H8 s8 e8 => ?_
        refine ⟨_, rfl, by show 1 ≤ sizeLine; decide, fun p2 hp2 => ?_⟩
        refine new_step hp2 fun H9 s9 e9 => ?_
        have l1 := slen (ls.take b)
        have l2 := tk b
        refine ⟨p1, p2, _, _, rfl, rfl, s9 _ _ e8, e9, fz _ (by show _ + 1 ≤ _; omega), fun p3 hp3 => ?_⟩
        refine new_step hp3 fun H10 s10 e10 => ?_
        have s710 := (s8.trans s9).trans s10
        refine ⟨_, rfl, _, rfl, (b : Int), rfl, L, _, rfl, SqL.of (s710 _ _ e6), fun p4 hp4 => ?_⟩
        rw [cut_fromS]
        refine new_step hp4 fun H11 s11 e11 => ?_
        have l3 := slen (ls.drop b)
        have l4 := dr b
        refine ⟨p3, p4, _, _, rfl, rfl, s11 _ _ e10, e11, fz _ (by rw [List.length_append]; show _ + 1 + _ ≤ _; omega), fun p5 hp5 => ?_⟩
        refine new_step hp5 fun H12 s12 e12 => ?_
        refine fin H12 p5 (ls.take b ++ [ln] ++ ls.drop b) ((s710.trans s11).trans s12) (by rw [e12, List.map_append, List.map_append] <;> rfl) ?_ _ _ _ _ _ _ _ _ _ _ _ _
        rw [szL_app, szL_app, szL_one]
        have := szL_cut ls b
        omega
      rw [decide_eq_false (show ¬ V.int (kn : Int) = V.int 4 from fun z => q5 (by have := V.int.inj z; omega))]
      refine iteF ⟨_, rfl, rfl, _, rfl, ?_⟩
      by_cases q6 : kn = 5
      · rw [decide_eq_true (show V.int (kn : Int) = V.int 5 by rw [q6] <;> rfl)]
        refine iteT ⟨_, rfl, _, rfl, L, _, _, .str ls[b], rfl, rfl, SqL.of e6, atI_nat (by rw [List.getElem?_map, hb] <;> rfl), ?_⟩
        refine ⟨_, rfl, _, rfl, _, rfl, L, _, _, b, rfl, rfl, e6, Evl.ixN_nat (by rw [List.length_map]; exact bl), ?_⟩
        rw [show (ls.map V.str).set b (.str ln) = (ls.set b ln).map V.str from List.map_set.symm]
        have S7 : Stp p H (upd H6 L (.lst ((ls.set b ln).map V.str))) := S06.mut hH hL
        have e7 : (upd H6 L (.lst ((ls.set b ln).map V.str))) L = some (.lst ((ls.set b ln).map V.str)) := upd_same
        generalize upd H6 L (.lst ((ls.set b ln).map V.str)) = H7 at S7 e7 ⊢
        refine ⟨_, rfl, _, rfl, _, rfl, L, _, _, a, rfl, rfl, e7, Evl.ixN_nat (by rw [List.length_map, List.length_set]; exact al), ?_⟩
        rw [show ((ls.set b ln).map V.str).set a (.str ls[b]) = ((ls.set b ln).set a ls[b]).map V.str from List.map_set.symm]
        refine ⟨S7.mut hH hL, L, (ls.set b ln).set a ls[b], _, _, _, _, _, _, _, _, _, _, _, _, rfl, upd_same, ?_⟩
        have z1 := szL_set ls b ln
        have z2 := szL_set (ls.set b ln) a ls[b]
        omega
      rw [decide_eq_false (show ¬ V.int (kn : Int) = V.int 5 from fun z => q6 (by have := V.int.inj z; omega))]
      refine iteF ⟨_, rfl, _, _, rfl, rfl, _, rfl, ?_⟩
      by_cases q7 : kn < 11
      · rw [decide_eq_true (show (kn : Int) < 11 by omega)]
        have wz := split_sz ln (c := 32) (by decide)
        have wne := split_ne (x := ln) (c := 32) (by decide)
        rw [← sp_is] at wz wne
        have wl := szL_len (Txt.split ln (" " : Str))
        refine iteT ⟨_, rfl, ⟨_, rfl⟩, ln, _, rfl, rfl, by decide +kernel, by rw [sizeLine_eq]; omega, fun W hW => ?_⟩
        have hp6 := S06.hand.dk.choose_spec
        have Wp : W ≠ p := fun z => by rw [z, hp6] at hW; cases hW
        refine new_step hW fun H7 s7 e7 => ?_
        generalize Txt.split ln (" " : Str) = ws at wz wne wl e7
        have wpos := List.length_pos_iff.mpr wne
        have wm : (ws.map V.str).length = ws.length := List.length_map _
        refine ⟨_, rfl, _, rfl, W, _, rfl, .inl (SqL.of e7), p, _, rfl, by omega, by omega, (S06.post s7).hand, fun sp H8 p0 p1 S8 => ?_⟩
        obtain ⟨spn, rfl⟩ := Int.eq_ofNat_of_zero_le p0
        have e8 := S8.keep _ _ Wp e7
        have l8 := S8.keep _ _ Lp (s7 _ _ e6)
        have S08 := (S06.post s7).trans S8
        refine ⟨_, 12, rfl, rfl, by decide, by decide, by decide +kernel, by decide +kernel, fun z9 h9 => ⟨_, 12, rfl, rfl, by decide, by decide, by decide +kernel, by decide +kernel, fun z0 h0 => ⟨_, _, rfl, rfl, ?_, by show 16 ≤ sizeLine; decide, fun Sm hSm => ?_⟩⟩⟩
        · have o1 : ("1" : Str).length = 1 := by decide +kernel
          have o2 : ("0" : Str).length = 1 := by decide +kernel
          rw [h0, o1, o2]
          decide
        have z9l : z9.length ≤ 13 := by
          have o2 : ("9" : Str).length = 1 := by decide +kernel
          rw [h9, o2]
          decide
        have z10l : (("1" : Str) ++ z0).length ≤ 13 := by
          have o1 : ("1" : Str).length = 1 := by decide +kernel
          have o2 : ("0" : Str).length = 1 := by decide +kernel
          rw [ap, h0, o1, o2]
          decide
        generalize ("1" : Str) ++ z0 = z10 at z10l hSm ⊢
        have hp8 := S08.hand.dk.choose_spec
        have Sp : Sm ≠ p := fun z => by rw [z, hp8] at hSm; cases hSm
        have q8 := Same.new (o := .lst [.str ("0" : Str), .str "1", .str "2", .str "3", .str "11", .str "12", .str "13", .str "00", .str "01", .str z9, .str z10, .str "-1", .str "", .str "x", .str "1:", .str "1/2:"]) hSm
        have w8 : (upd H8 Sm (.lst [.str ("0" : Str), .str "1", .str "2", .str "3", .str "11", .str "12", .str "13", .str "00", .str "01", .str z9, .str z10, .str "-1", .str "", .str "x", .str "1:", .str "1/2:"])) Sm = some _ := upd_same
        have SmH := S08.free hSm
        have in1 : ∀ x ∈ [V.str ("0" : Str), .str "1", .str "2", .str "3", .str "11", .str "12", .str "13", .str "00", .str "01", .str z9, .str z10, .str "-1", .str "", .str "x", .str "1:", .str "1/2:"], ∃ z : Str, x = .str z ∧ z.length ≤ 13 := fun x hx => by
          simp only [List.mem_cons, List.not_mem_nil, or_false] at hx
          rcases hx with rfl | rfl | rfl | rfl | rfl | rfl | rfl | rfl | rfl | rfl | rfl | rfl | rfl | rfl | rfl | rfl
          all_goals first
            | exact ⟨_, rfl, z9l⟩
            | exact ⟨_, rfl, z10l⟩
            | exact ⟨_, rfl, by decide +kernel⟩
        have in1l : [V.str ("0" : Str), .str "1", .str "2", .str "3", .str "11", .str "12", .str "13", .str "00", .str "01", .str z9, .str z10, .str "-1", .str "", .str "x", .str "1:", .str "1/2:"].length = 16 := rfl
        generalize [V.str ("0" : Str), .str "1", .str "2", .str "3", .str "11", .str "12", .str "13", .str "00", .str "01", .str z9, .str z10, .str "-1", .str "", .str "x", .str "1:", .str "1/2:"] = so1 at in1 in1l q8 w8 ⊢
        generalize hG8 : upd H8 Sm (.lst so1) = G8 at q8 w8 ⊢
        refine ⟨_, rfl, .inl ⟨rfl, _, SqL.of w8⟩, by show 11 ≤ sizeLine; decide, fun X hX => ?_⟩
        have in2 : ∀ x ∈ [V.str ("2/4:" : Str), .str "1/1:", .str "1/0:", .str "0:", .str "0/1:", .str "1/2", .str ":", .str "2/1:", .str "1/03:", .str "3/2:", .str "1/2/2:"], ∃ z : Str, x = .str z ∧ z.length ≤ 13 := fun x hx => by
          simp only [List.mem_cons, List.not_mem_nil, or_false] at hx
          rcases hx with rfl | rfl | rfl | rfl | rfl | rfl | rfl | rfl | rfl | rfl | rfl
          all_goals exact ⟨_, rfl, by decide +kernel⟩
        have in2l : [V.str ("2/4:" : Str), .str "1/1:", .str "1/0:", .str "0:", .str "0/1:", .str "1/2", .str ":", .str "2/1:", .str "1/03:", .str "3/2:", .str "1/2/2:"].length = 11 := rfl
        generalize [V.str ("2/4:" : Str), .str "1/1:", .str "1/0:", .str "0:", .str "0/1:", .str "1/2", .str ":", .str "2/1:", .str "1/03:", .str "3/2:", .str "1/2/2:"] = so2 at in2 in2l ⊢
        refine new_step hX fun H9 s9 e9 => ?_
        refine ⟨Sm, X, _, _, rfl, rfl, s9 _ _ w8, e9, fz _ (by omega), ?_⟩
        have s89 : Same H8 (upd H9 Sm (.lst (so1 ++ so2))) := (q8.trans s9).mut hSm
        have w9 : (upd H9 Sm (.lst (so1 ++ so2))) Sm = some (.lst (so1 ++ so2)) := upd_same
        have in3 : ∀ x ∈ so1 ++ so2, ∃ z : Str, x = .str z ∧ z.length ≤ 13 := fun x hx => (List.mem_append.mp hx).elim (in1 x) (in2 x)
        have in3l : (so1 ++ so2).length = 27 := by rw [List.length_append, in1l, in2l]
        generalize so1 ++ so2 = so at s89 w9 in3 in3l ⊢
        generalize upd H9 Sm (.lst so) = H10 at s89 w9 ⊢
        have S010 := S08.post s89
        have e10 := s89 _ _ e8
        have l10 := s89 _ _ l8
        -- word
        refine asg_mrg (fun v H' => Stp p H10 H' ∧ ∃ (q : Addr) (ys : List Str), v = .ref q ∧ H' q = some (.lst (ys.map V.str)) ∧ szL ys ≤ 14) (fun Q' key => ?_) ?_
        · refine ⟨_, rfl, p, 2, rfl, by decide, by decide, S010.hand, fun dd H11 _ _ S11 => ?_⟩
          refine ⟨rfl, _, rfl, ite2 (fun _ => ?_) (fun _ => ?_)⟩
          · refine ⟨_, rfl, _, rfl, p, Sm, so, rfl, .inl (SqL.of (S11.keep _ _ Sp w9)), by omega, by omega, S11.hand, fun j x H12 hj S12 => ?_⟩
            obtain ⟨z, rfl, zl⟩ := in3 x (List.mem_of_getElem? hj)
            refine ⟨by show 1 ≤ sizeLine; decide, fun q hq => key _ _ ⟨(S11.trans S12).post (Same.new hq), q, [z], rfl, upd_same, by rw [szL_one]; omega⟩⟩
          · exact ⟨by show 0 ≤ sizeLine; decide, fun q hq => key _ _ ⟨S11.post (Same.new hq), q, [], rfl, upd_same, Nat.zero_le _⟩⟩
        rintro v H11 ⟨S11, wq, ys, rfl, ew, yl⟩
        have e11 := S11.keep _ _ Wp e10
        have l11 := S11.keep _ _ Lp l10
        have S011 := S010.trans S11
        have wyl := szL_len ys
        have sp1 : ((spn : Int) + 1) = ((spn + 1 : Nat) : Int) := by rw [Int.natCast_add] <;> rfl
        refine ⟨_, rfl, _, rfl, (spn : Int), rfl, W, _, rfl, SqL.of e11, fun p1 hp1 => ?_⟩
        rw [cut_toS]
        refine new_step hp1 fun H12 s12 e12 => ?_
        have w1 := szL_len (ws.take spn)
        have w2 := szL_take ws spn
        have w3 := szL_len (ws.drop (spn + 1))
        have w4 := szL_gap ws spn 1
        refine ⟨_, rfl, p1, wq, _, _, rfl, rfl, e12, s12 _ _ ew, fz _ (by rw [List.length_map, List.length_map]; omega), fun p3 hp3 => ?_⟩
        refine new_step hp3 fun H13 s13 e13 => ?_
        have s113 := s12.trans s13
        refine ⟨_, rfl, _, rfl, _, _, rfl, rfl, _, rfl, W, _, rfl, SqL.of (s113 _ _ e11), fun p4 hp4 => ?_⟩
        rw [sp1, cut_fromS]
        refine new_step hp4 fun H14 s14 e14 => ?_
        refine ⟨p3, p4, _, _, rfl, rfl, s14 _ _ e13, e14, fz _ (by rw [List.length_append, List.length_map, List.length_map, List.length_map]; omega), fun p5 hp5 => ?_⟩
        refine new_step hp5 fun H15 s15 e15 => ?_
        have s115 := (s113.trans s14).trans s15
        have e15 : H15 p5 = some (.lst ((ws.take spn ++ ys ++ ws.drop (spn + 1)).map V.str)) := by rw [e15, List.map_append, List.map_append]
        have wsz : szL (ws.take spn ++ ys ++ ws.drop (spn + 1)) ≤ ln.length + 15 := by
          rw [szL_app, szL_app]
          omega
        generalize ws.take spn ++ ys ++ ws.drop (spn + 1) = wn at e15 wsz
        have js := join_sz 32 wn
        have sl := sum_sz wn
        have c_sp : (" " : Str).length = 1 := by decide +kernel
        have l15 := s115 _ _ l11
        have jl : (Txt.join (" " : Str) wn).length ≤ ln.length + 15 := by
          rw [len_tl, join_eq, tl_join, one_sp]
          omega
        refine ⟨_, rfl, _, rfl, (a : Int), rfl, L, _, rfl, SqL.of l15, fun r1 hr1 => ?_⟩
        rw [cut_toS]
        refine new_step hr1 fun H16 s16 e16 => ?_
        refine ⟨⟨_, rfl⟩, _, rfl, _, p5, wn, rfl, rfl, .inl (SqL.of (s16 _ _ e15)), by rw [c_sp]; omega, by show 1 ≤ sizeLine; decide, fun r2 hr2 => ?_⟩
        refine new_step hr2 fun H17 s17 e17 => ?_
        have l1 := slen (ls.take a)
        have l2 := tk a
        refine ⟨r1, r2, _, _, rfl, rfl, s17 _ _ e16, e17, fz _ (by show _ + 1 ≤ _; omega), fun r3 hr3 => ?_⟩
        refine new_step hr3 fun H18 s18 e18 => ?_
        have s158 := (s16.trans s17).trans s18
        refine ⟨_, rfl, _, rfl, _, _, rfl, rfl, _, rfl, L, _, rfl, SqL.of (s158 _ _ l15), fun r4 hr4 => ?_⟩
        rw [a1, cut_fromS]
        refine new_step hr4 fun H19 s19 e19 => ?_
        have l3 := slen (ls.drop (a + 1))
        have l4 := dr (a + 1)
        refine ⟨r3, r4, _, _, rfl, rfl, s19 _ _ e18, e19, fz _ (by rw [List.length_append]; show _ + 1 + _ ≤ _; omega), fun r5 hr5 => ?_⟩
        refine new_step hr5 fun H20 s20 e20 => ?_
        refine ⟨S011.post ((s115.trans s158).trans (s19.trans s20)), r5, ls.take a ++ [Txt.join (" " : Str) wn] ++ ls.drop (a + 1), _, _, _, _, _, _, _, _, _, _, _, _, rfl, by rw [e20, List.map_append, List.map_append] <;> rfl, ?_⟩
        rw [szL_app, szL_app, szL_one]
        omega
      rw [decide_eq_false (show ¬ (kn : Int) < 11 by omega)]
      refine iteF ?_
      refine ⟨_, rfl, _, rfl, (a : Int), rfl, L, _, rfl, SqL.of e6, fun p1 hp1 => ?_⟩
      rw [cut_toS]
      refine new_step hp1 fun H8 s8 e8 => ?_
      have hp6 := S06.hand.dk.choose_spec
      have P1 : p1 ≠ p := fun z => by rw [z, hp6] at hp1; cases hp1
      refine ⟨_, rfl, _, rfl, p, od, os.map V.str, rfl, .inl (SqL.of (s8 _ _ o6)), by rw [List.length_map]; omega, by rw [List.length_map]; omega, (S06.post s8).hand, fun j x H9 hj S9 => ?_⟩
      have hx : ∃ z : Str, x = .str z ∧ z.length ≤ 30 := by
        obtain ⟨z, hz1, hz2⟩ := List.mem_map.mp (List.mem_of_getElem? hj)
        exact ⟨z, hz2.symm, ol z hz1⟩
      obtain ⟨z, rfl, zl⟩ := hx
      have S09 := (S06.post s8).trans S9
      have e9 := S9.keep _ _ P1 e8
      have l9 := S9.keep _ _ Lp (s8 _ _ e6)
      refine ⟨by show 1 ≤ sizeLine; decide, fun p2 hp2 => ?_⟩
      refine new_step hp2 fun H10 s10 e10 => ?_
      have l1 := slen (ls.take a)
      have l2 := tk a
      refine ⟨p1, p2, _, _, rfl, rfl, s10 _ _ e9, e10, fz _ (by show _ + 1 ≤ _; omega), fun p3 hp3 => ?_⟩
      refine new_step hp3 fun H11 s11 e11 => ?_
      have s911 := s10.trans s11
      have a2 : ((a : Int) + (kn : Int) - 11) = ((a + (kn - 11) : Nat) : Int) := by omega
      refine ⟨_, rfl, _, rfl, _, rfl, _, _, rfl, rfl, _, _, rfl, rfl, _, rfl, L, _, rfl, SqL.of (s911 _ _ l9), fun p4 hp4 => ?_⟩
      rw [a2, cut_fromS]
      refine new_step hp4 fun H12 s12 e12 => ?_
      have l3 := slen (ls.drop (a + (kn - 11)))
      have l4 := dr (a + (kn - 11))
      refine ⟨p3, p4, _, _, rfl, rfl, s12 _ _ e11, e12, fz _ (by rw [List.length_append]; show _ + 1 + _ ≤ _; omega), fun p5 hp5 => ?_⟩
      refine new_step hp5 fun H13 s13 e13 => ?_
      refine ⟨S09.post ((s911.trans s12).trans s13), p5, ls.take a ++ [z] ++ ls.drop (a + (kn - 11)), _, _, _, _, _, _, _, _, _, _, _, _, rfl, by rw [e13, List.map_append, List.map_append] <;> rfl, ?_⟩
      rw [szL_app, szL_app, szL_one]
      omega
    · rintro σ' H' ⟨S', L', ys, u4, u5, u6, u7, u8, u9, u10, u11, u12, u13, u14, u15, rfl, e, l⟩
      have js := join_sz 10 ys
      have sl := sum_sz ys
      have c_nl : ("\n" : Str).length = 1 := by decide +kernel
      refine ⟨⟨_, rfl⟩, _, rfl, _, L', ys, rfl, rfl, .inl (SqL.of e), by rw [c_nl]; omega, k _ H' S' ?_⟩
      rw [len_tl, join_eq, tl_join, one_nl]
      omega
end
end Law

namespace Law
open PySem L2
/-! ### a System's own == -/
def rOwS (C : Addr) (sp : Sp) : R2 := fun x y H Q => ∃ a b dx fs dy gs, x = .ref a ∧ y = .ref b ∧ H a = some (.ins C dx fs) ∧ H b = some (.ins C dy gs) ∧ sp [x, y] H Q E0
section
variable {X : Cx}
theorem op_ownS {C f : Addr} {n : Nat} {fd : FuncData} {ps : List Str} {sp : Sp} (F : FnOk X.prog X.w X.K X.mg X.base CX0 n f fd ps sp) (hs : PySem.W.findIn X.K (.ref C) "__eq__" = some (some (.ref f))) (hf : PySem.W.isFn X.K (.ref f) = true) (hb : Binds X.K fd ps [])
    (hr : Room n X.A) (hbl : ∀ vs H Q, sp vs H Q E0 → sp vs H (fun z H' => (∃ b, z = .bl b) ∧ Q z H') E0) : OpR X (compareOp .Eq) (rOwS C sp) := by
  intro pins s σ H x y v u Q I rx ry h
  obtain ⟨a, b, dx, fs, dy, gs, rfl, rfl, ha, hb', q⟩ := h
  cases rx
  cases ry
  obtain ⟨mA, J, _⟩ := ins_get I.hok ha
  obtain ⟨od, J, _⟩ := J.look
  obtain ⟨m, hF⟩ := I.fr
  have q' := hbl _ _ _ q
  have hl := F.len _ _ _ _ q'
  have r2 : Vals [V.ref a, V.ref b] [Value.ref a, Value.ref b] := .cons rfl (.cons rfl .nil)
  have go : wpAny (model X.prog X.w) X.A (call (.ref f) [.ref a, .ref b]) (fun w s' => ∃ z H', Inv X pins σ H' s' ∧ RelV z w ∧ (∃ k, z = .bl k) ∧ Q z H') X.xe s := by
    refine wpAny_call (codeAny_mono (F.run X.A X.stack s H ⟨[.ref a, .ref b], []⟩ [.ref a, .ref b] [.ref a, .ref b] _ E0 hr I.env0 (by
      have := hb s [.ref a, .ref b] I.kIn (by simpa using hl)
      simpa using this) r2 q') fun r s' hq => ?_)
    cases r with
    | error e => exact pass0 pins σ H s e s' I hq
    | ok fl =>
      cases fl with
      | ret w =>
        obtain ⟨z, H', I', rz, ez, qz⟩ := I.after hq
        exact ⟨z, H', I', rz, ez, qz⟩
      | _ => exact hq.elim
  have back : ∀ w s', (∃ z H', Inv X pins σ H' s' ∧ RelV z w ∧ (∃ k, z = .bl k) ∧ Q z H') → PySem.W.CmpBack (EP X pins σ Q) w s' := fun w s' ⟨z, H', I', rz, ⟨k, ez⟩, qz⟩ => by
    subst ez
    cases (show w = Value.bool k from rz)
    exact ⟨.bl k, H', I', rfl, qz⟩
  show wpAny (model X.prog X.w) X.A (richCompare .Eq (.ref a) (.ref b)) (EP X pins σ Q) X.xe s
  obtain ⟨mB, J', _⟩ := ins_get I.hok hb'
  obtain ⟨od', J', _⟩ := J'.look
  exact PySem.W.cmp_K (op := .Eq) (tb := .ref C) hr.units0 hF I.ok.mod.kin J J'.type (by simp [PySem.W.notFirst]) hs hf (wpAny_mono go back fun _ _ x => x)
end
theorem bl_SE {K : PySem.W.Frag} {C : Addr} : ∀ vs H Q, spSEq K C vs H Q E0 → spSEq K C vs H (fun z H' => (∃ b, z = .bl b) ∧ Q z H') E0 := by
  rintro vs H Q ⟨p, q, m1, m2, ms1, ms2, e, h1, h2, k⟩
  exact ⟨p, q, m1, m2, ms1, ms2, e, h1, h2, ⟨_, rfl⟩, k⟩
end Law
namespace Law
open PySem L2 TL
def partD : Part → PyData
  | .inl s => .str s
  | .inr n => .int (n : Int)
def outD : Out → PyData
  | .line n => .tuple [.str "line", .int (n : Int)]
  | .part pt => .tuple [.str "system", partD pt]
  | .told many ms => .tuple [.str "told", .tuple [.int many, mvsD ms]]
theorem dp_out {K : PySem.W.Frag} {H : Hp} {t : Addr} {o : Out} (h : OutAt K H t o) : Dp K H (.ref t) (outD o) := by
  cases o with
  | line n => exact .tup (show SqT K H t _ from h) (.cons (.str _) (.cons (.int _) .nil))
  | part pt =>
    refine .tup (show SqT K H t _ from h) (.cons (.str _) (.cons ?_ .nil))
    cases pt with
    | inl s => exact .str s
    | inr n => exact .int _
  | told many ms =>
    obtain ⟨a, mv, h1, h2, h3⟩ := h
    exact .tup h1 (.cons (.str _) (.cons (.tup h2 (.cons (.int _) (.cons (dp_mvsAt h3) .nil))) .nil))
def OutOk : Out → Prop
  | .part (.inl s) => s = "many" ∨ s = "moves" ∨ s = "shares"
  | _ => True
theorem made_ok (many : Int) (ms : List Mv3) : OutOk (madeF oneB many ms) := by
  unfold madeF wrongF
  by_cases c1 : 1 ≤ many ∧ many ≤ 12
  · rw [if_neg (fun z => z c1)]
    by_cases c2 : 1 ≤ ms.length ∧ ms.length ≤ 24
    · rw [if_neg (fun z => z c2)]
      cases badMv many ms with
      | some i => exact trivial
      | none =>
        show OutOk (match (if oneB (ms.map (·.1)) = true then none else some (.inl "shares")) with | some p => Out.part p | none => .told many ms)
        by_cases c3 : oneB (ms.map (·.1)) = true
        · rw [if_pos c3]
          exact trivial
        · rw [if_neg c3]
          exact .inr (.inr rfl)
    · rw [if_pos c2]
      exact .inr (.inl rfl)
  · rw [if_pos c1]
    exact .inl rfl
theorem read_ok (ls : List Str) (hl : ls ≠ []) : OutOk (readF oneB ls) := by
  obtain ⟨body, rest, rfl⟩ : ∃ b r, ls = b ++ [r] := ⟨ls.dropLast, ls.getLast hl, (List.dropLast_concat_getLast hl).symm⟩
  rw [read_body]
  cases hn : noneF body with
  | some i => rw [bodyF_some hn]; exact trivial
  | none =>
    rw [bodyF_none hn]
    by_cases c : rest = Str.empty ∧ body ≠ []
    · rw [if_pos c]
      cases body with
      | nil => exact trivial
      | cons a r => exact made_ok _ _
    · rw [if_neg c]
      exact trivial
theorem okD_line : PyData.strOk (Str.ofString "line") = true := by decide +kernel
theorem okD_system : PyData.strOk (Str.ofString "system") = true := by decide +kernel
theorem okD_told : PyData.strOk (Str.ofString "told") = true := by decide +kernel
theorem lay_out {o : Out} (h : OutOk o) : (outD o).canLay0 = true ∧ (outD o).depth ≤ 6 := by
  cases o with
  | line n => exact ⟨by simp only [outD, PyData.canLay0, PyData.canLayAll0, okD_line, Bool.and_self], by simp only [outD, PyData.depth, PyData.depthAll]; omega⟩
  | part pt =>
    cases pt with
    | inl s =>
      have hs : PyData.strOk s = true := by
        rcases h with rfl | rfl | rfl <;> decide +kernel
      exact ⟨by simp only [outD, partD, PyData.canLay0, PyData.canLayAll0, okD_system, hs, Bool.and_self], by simp only [outD, partD, PyData.depth, PyData.depthAll]; omega⟩
    | inr n => exact ⟨by simp only [outD, partD, PyData.canLay0, PyData.canLayAll0, okD_system, Bool.and_self], by simp only [outD, partD, PyData.depth, PyData.depthAll]; omega⟩
  | told many ms =>
    have l := lay_mvsD ms
    exact ⟨by simp only [outD, PyData.canLay0, PyData.canLayAll0, okD_told, l.1, Bool.and_self], by simp only [outD, PyData.depth, PyData.depthAll]; omega⟩
theorem OutAt.stp {K : PySem.W.Frag} {p : Addr} {H H' : Hp} {t : Addr} {o : Out} (hh : HandAt H p) (s : Stp p H H') (h : OutAt K H t o) : OutAt K H' t o := by
  cases o with
  | line n => exact s.sqT hh (show SqT K H t _ from h)
  | part pt => exact s.sqT hh (show SqT K H t _ from h)
  | told many ms =>
    obtain ⟨a, mv, h1, h2, vs, h3, h4⟩ := h
    exact ⟨a, mv, s.sqT hh h1, s.sqT hh h2, vs, s.sqT hh h3, s.mv hh h4⟩
/-- its second thing is no truth value -/
theorem out_second {K : PySem.W.Frag} {H : Hp} {t : Addr} {o : Out} (h : OutAt K H t o) : ∃ x y ty, SqT K H t [x, y] ∧ TyX K H y ty ∧ PySem.W.kitOne K ty (.type "bool") = some false := by
  cases o with
  | line n => exact ⟨_, _, _, (show SqT K H t _ from h), .base (.int _), kit_ty (by decide +kernel)⟩
  | part pt =>
    cases pt with
    | inl s => exact ⟨_, _, _, (show SqT K H t _ from h), .base (.str _), kit_ty (by decide +kernel)⟩
    | inr n => exact ⟨_, _, _, (show SqT K H t _ from h), .base (.int _), kit_ty (by decide +kernel)⟩
  | told many ms =>
    obtain ⟨a, mv, h1, h2, h3⟩ := h
    exact ⟨_, _, _, h1, tyx_tup h2, kit_ty (by decide +kernel)⟩
theorem firstNo_ifs {f : Mv3 → Bool} : ∀ {ms : List Mv3}, (∀ m ∈ ms, f m = true) → firstNo (ms.map fun m => if f m = true then some m else none) = none
  | [], _ => rfl
  | m :: ms, h => by
    rw [List.map_cons, if_pos (h m List.mem_cons_self)]
    show (firstNo _).map (· + 1) = none
    rw [firstNo_ifs fun x hx => h x (List.mem_cons_of_mem _ hx)] <;> rfl
theorem sys_sm {many : Nat} {ms : List Mv} (h : MvsOk many ms) : ∀ m ∈ ms, MvSm m ∧ m.2.length ≤ 12 ∧ m.2 ≠ [] := fun m hm => by
  obtain ⟨⟨a1, a2, a3⟩, a4, a5, a6, a7⟩ := h.ok.mv m hm
  obtain ⟨b1, b2⟩ := h.lt m hm
  have m1 := h.ok.m1
  have m2 := h.ok.m2
  refine ⟨⟨by omega, b1, a1, b2, a5, fun i hi => ?_⟩, by omega, fun z => by rw [z] at a6; have : 0 = many := a6; omega⟩
  obtain ⟨c1, c2⟩ := a7 i hi
  exact ⟨c1, by omega⟩
theorem wrong_ok {many : Nat} {ms : List Mv} (h : MvsOk many ms) : wrongF oneB (many : Int) ms = none := by
  have m1 := h.ok.m1
  have m2 := h.ok.m2
  unfold wrongF
  rw [if_neg (fun z => z ⟨by omega, by omega⟩), if_neg (fun z => z ⟨h.ok.l1, h.ok.l2⟩)]
  have bm : badMv (many : Int) ms = none := firstNo_ifs fun m hm => by
    obtain ⟨_, a4, a5, a6, a7⟩ := h.ok.mv m hm
    unfold mvB
    rw [decide_eq_true a4, Bool.true_and, decide_eq_true (show ((m.2.length : Nat) : Int) = (many : Int) by rw [a6]), Bool.and_true, List.all_eq_true]
    exact fun s hs => decide_eq_true (a7 s hs).2
  rw [bm]
  show (if oneB (ms.map (·.1)) = true then none else _) = none
  exact if_pos (show oneB (ms.map (·.1)) = true from decide_eq_true h.ok.one)
/-- a thing that is no text -/
def ThN (K : PySem.W.Frag) (C p : Addr) (H : Hp) (x : V) : Prop := (x = .non ∨ (∃ i, x = .int i) ∨ ∃ b, x = .bl b) ∨ NS K p H x ∨ ∃ a many ms, x = .ref a ∧ SysAt K C H a many ms
theorem stp_sys {K : PySem.W.Frag} {C p : Addr} {H H' : Hp} {y : Addr} {many : Nat} {ms : List Mv} (hh : HandAt H p) (s : Stp p H H') (h : SysAt K C H y many ms) : SysAt K C H' y many ms := by
  obtain ⟨dx, mv, h1, vs, h2, h3⟩ := h
  have n : y ≠ p := ne_of h1 hh.dk.choose_spec (by intro z; cases z)
  exact ⟨dx, mv, s.keep _ _ n h1, vs, s.sqT hh h2, s.mv hh h3⟩
theorem ThN.stp {K : PySem.W.Frag} {C p : Addr} {H H' : Hp} {x : V} (hh : HandAt H p) (s : Stp p H H') (h : ThN K C p H x) : ThN K C p H' x := by
  rcases h with h | h | ⟨a, many, ms, h1, h2⟩
  · exact .inl h
  · exact .inr (.inl (h.stp hh s))
  · exact .inr (.inr ⟨a, many, ms, h1, stp_sys hh s h2⟩)
theorem ThN.ty {K : PySem.W.Frag} {mg : Str → Option Value} {C p : Addr} {H : Hp} {x : V} (S : SysT K mg C) (kS : PySem.W.kitOne K (.ref C) (.type "str") = some false) (h : ThN K C p H x) : ∃ ty, TyX K H x ty ∧ PySem.W.kitOne K ty (.type "str") = some false := by
  rcases h with (rfl | ⟨i, rfl⟩ | ⟨b, rfl⟩) | h | ⟨a, many, ms, rfl, h2⟩
  · exact ⟨_, .base .non, kit_ty (by decide +kernel)⟩
  · exact ⟨_, .base (.int _), kit_ty (by decide +kernel)⟩
  · exact ⟨_, .base (.bl _), kit_ty (by decide +kernel)⟩
  · exact h.ty
  · exact ⟨_, h2.ty S, kS⟩
abbrev od1 : List Str := ["states 1", "states 2", "states", "states ", "state 2", "States 2", "states  2", "states 02", "states 0"]
abbrev od2 : List Str := ["states 13", "", " ", ":", "1: 0", "1:0"]
abbrev od3 : List Str := ["1/2: 0 1", "1/2 : 0 1", "1/2: 0  1", "1/2: ", "1/2:", ": 0 1"]
abbrev od4 : List Str := ["1/2: 0 1 ", "2/4: 0 1", "1/2: 0 01", "0: 0 0", "1/2: 0 -1"]
abbrev od5 : List Str := ["-1/2: 0 1", "1/2: 0 99", "+1: 0", "1 : 0", "1/2; 0 1"]
theorem od_len : ∀ o ∈ od1 ++ od2 ++ od3 ++ od4 ++ od5, o.length ≤ 30 := by decide +kernel
section
variable {P : Program} {w : World} {K : PySem.W.Frag} {mg : Str → Option Value} {base : Heap}
def spLaw (K : PySem.W.Frag) : Sp := fun vs H Q _ => ∃ (a : Addr) (ns : List Int), vs = [.ref a] ∧ SqL K H a (ns.map V.int) ∧ ns.length ≤ 63 ∧ ∀ H', Q (.bl true) H'
abbrev nLaw : List Str := ["_law_script", "_law_hand_here", "_law_odd", "_law_turn", "_law_many", "_law_moves_here", "_law_plain", "_law_system", "_law_again", "_law_text_here", "_law_change", "_law_found", "_law_things"]
theorem scLaw : FnScope nLaw ["_law_script"] (defScope s_law) := ⟨rfl, rfl, rfl, by decide +kernel, rfl, by decide +kernel, by decide +kernel⟩
theorem ok_law {f : Addr} {fd : FuncData} {fcHand : Addr} {fdcHand : FuncData} {fcSize : Addr} {fdcSize : FuncData} {fcMoves : Addr} {fdcMoves : FuncData} {fD : Addr} {fdD : FuncData} {fcLText : Addr} {fdcLText : FuncData} {fgS : Addr} {fdgS : FuncData} {fcSysText : Addr} {fdcSysText : FuncData} {fcTold : Addr} {fdcTold : FuncData} {fcBent : Addr} {fdcBent : FuncData} {fA : Addr} {fdA : FuncData} {fcDue : Addr} {fdcDue : FuncData} {fcDeep : Addr} {fdcDeep : FuncData} {C BS BL fE fR : Addr} {fdE fdR : FuncData} (F : Fun K "law" "law" s_law f fd) (T : NmA mg) (cHand : Cl P w K mg base CX0 1 "_law_hand" fcHand fdcHand ["_law_script"] (spHand K)) (cSize : Cl P w K mg base CX0 3 "_law_size" fcSize fdcSize ["_law_hand_here"] spSize) (cMoves : Cl P w K mg base CX0 36 "_law_moves" fcMoves fdcMoves ["_law_hand_here", "_law_many", "_law_most"] (spMovesN K)) (D : Cl P w K mg base CX0 1 "_law_draw" fD fdD ["_law_hand_here", "_law_many"] spDraw) (cLText : Cl P w K mg base CX0 1 "_law_text" fcLText fdcLText ["_law_many", "_law_moves_here"] (spLText K)) (MgS : Mk K C fgS) (GgS : FnOk P w K mg base CX0 5 fgS fdgS ["self", "many", "moves"] (spSInit K C)) (BgS : Binds K fdgS ["self", "many", "moves"] []) (YgS : SysT K mg C) (cSysText : Cl P w K mg base CX0 3 "system_text" fcSysText fdcSysText ["system"] (spSysText K C)) (cTold : Cl P w K mg base CX0 8 "_law_told" fcTold fdcTold ["_law_text_here"] (spTold K)) (cBent : Cl P w K mg base CX0 3 "_law_bent" fcBent fdcBent ["_law_hand_here", "_law_text_here", "_law_odd"] (spBent K)) (A : Cl P w K mg base CX0 2 "_law_any" fA fdA ["_law_hand_here", "_law_things"] (spAny K)) (cDue : Cl P w K mg base CX0 38 "_law_due" fcDue fdcDue ["_law_text_here"] (spDue K)) (cDeep : Cl P w K mg base CX0 2 "_law_deep" fcDeep fdcDeep ["_law_hand_here"] (spNS K)) (cReadS : ClX P w K mg base 7 "read_system" fR fdR ["text"] (spReadS K C BS BL)) (GE : FnOk P w K mg base CX0 1 fE fdE ["self", "other"] (spSEq K C)) (hsE : PySem.W.findIn K (.ref C) "__eq__" = some (some (.ref fE))) (hfE : PySem.W.isFn K (.ref fE) = true) (BE : Binds K fdE ["self", "other"] []) (kS : PySem.W.kitOne K (.ref C) (.type "str") = some false) : FnOk P w K mg base CX0 39 f fd ["_law_script"] (spLaw K) := by
  refine F.ok scLaw (fun vs H Q E h => ?_) (fun cdv A' outer s H vs Q E hr h => ?_)
  · obtain ⟨a, ns, rfl, _⟩ := h
    rfl
  · obtain ⟨a, ns, rfl, hN, h63, k⟩ := h
    have hu := hu_of hr
    refine ⟨_, pss_cons (ps_set (i := 1) scLaw.nd rfl (Or.inl rfl) (cHand.call (hr.mono (by decide)) (pa_cons (pv 0) pa_nil)))
      (pss_cons (ps_set (i := 2) scLaw.nd rfl (Or.inl rfl) (pe_lst (pa_cons pe_str (pa_cons pe_str (pa_cons pe_str (pa_cons pe_str (pa_cons pe_str (pa_cons pe_str (pa_cons pe_str (pa_cons pe_str (pa_cons pe_str pa_nil)))))))))))
      (pss_cons (ps_expr (pe_bm PySem.F.plainAttrs_list PySem.F.slot_list_extend PySem.F.type_list_extend mt_extend (pv 2) (pa_cons (pe_lst (pa_cons pe_str (pa_cons pe_str (pa_cons pe_str (pa_cons pe_str (pa_cons pe_str (pa_cons pe_str pa_nil))))))) pa_nil)))
      (pss_cons (ps_expr (pe_bm PySem.F.plainAttrs_list PySem.F.slot_list_extend PySem.F.type_list_extend mt_extend (pv 2) (pa_cons (pe_lst (pa_cons pe_str (pa_cons pe_str (pa_cons pe_str (pa_cons pe_str (pa_cons pe_str (pa_cons pe_str pa_nil))))))) pa_nil)))
      (pss_cons (ps_expr (pe_bm PySem.F.plainAttrs_list PySem.F.slot_list_extend PySem.F.type_list_extend mt_extend (pv 2) (pa_cons (pe_lst (pa_cons pe_str (pa_cons pe_str (pa_cons pe_str (pa_cons pe_str (pa_cons pe_str pa_nil)))))) pa_nil)))
      (pss_cons (ps_expr (pe_bm PySem.F.plainAttrs_list PySem.F.slot_list_extend PySem.F.type_list_extend mt_extend (pv 2) (pa_cons (pe_lst (pa_cons pe_str (pa_cons pe_str (pa_cons pe_str (pa_cons pe_str (pa_cons pe_str pa_nil)))))) pa_nil)))
      (pss_cons (ps_for PassesOwn.never rfl (pi_range1 (by rfl) T.range (pa_cons pe_int pa_nil)) (pg_name (i := 3) scLaw.nd rfl (Or.inl rfl))
        (pss_cons (ps_set (i := 4) scLaw.nd rfl (Or.inl rfl) (cSize.call (hr.mono (by decide)) (pa_cons (pv 1) pa_nil)))
        (pss_cons (ps_set (i := 5) scLaw.nd rfl (Or.inl rfl) (cMoves.call (hr.mono (by decide)) (pa_cons (pv 1) (pa_cons (pv 4) (pa_cons (pe_ifExp (pt_cmpR op_gt (D.call (hr.mono (by decide)) (pa_cons (pv 1) (pa_cons pe_int pa_nil))) pe_int (nomark _)) pe_int pe_int) pa_nil)))))
        (pss_cons (ps_par (i := 6) (j := 7) (by rfl) scLaw.nd rfl rfl (by decide) rfl rfl (pa_cons (cLText.call (hr.mono (by decide)) (pa_cons (pv 4) (pa_cons (pv 5) pa_nil))) (pa_cons (pe_make MgS GgS (hr.mono (by decide)) (by rfl) YgS.mgC BgS .nil pass0 (pa_cons (pv 4) (pa_cons (pv 5) pa_nil))) pa_nil)) (by rfl))
        (pss_cons (ps_if (PW.pt (pw_or (pt_cmpR op_ne (cSysText.call (hr.mono (by decide)) (pa_cons (pv 7) pa_nil)) (pv 6) (nomark _)) (pw_or1 (pt_not (pt_cmpR (op_ownS GE hsE hfE BE (hr.mono (by decide)) bl_SE) (cReadS.callS (hr.mono (by decide)) takes0 (pa_cons (pv 6) pa_nil)) (pv 7) (nomark _))))))
          (pss_one (ps_ret pe_bl)) pss_nil)
        (pss_cons (ps_if (pt_cmpR (op_neD hr.units) (cTold.call (hr.mono (by decide)) (pa_cons (pv 6) pa_nil)) (pe_tup (pa_cons pe_str (pa_cons (pe_tup (pa_cons (pv 4) (pa_cons (pv 5) pa_nil))) pa_nil))) (nomark _))
          (pss_one (ps_ret pe_bl)) pss_nil)
        (pss_one (ps_for PassesOwn.never rfl (pi_range1 (by rfl) T.range (pa_cons pe_int pa_nil)) (pg_name (i := 8) scLaw.nd rfl (Or.inl rfl))
          (pss_cons (ps_set (i := 9) scLaw.nd rfl (Or.inl rfl) (pv 6))
          (pss_cons (ps_for PassesOwn.never rfl (pi_range1 (by rfl) T.range (pa_cons (pe_op op_add pe_int (D.call (hr.mono (by decide)) (pa_cons (pv 1) (pa_cons pe_int pa_nil)))) pa_nil)) (pg_name (i := 10) scLaw.nd rfl (Or.inl rfl))
            (pss_one (ps_set (i := 9) scLaw.nd rfl (Or.inl rfl) (cBent.call (hr.mono (by decide)) (pa_cons (pv 1) (pa_cons (pv 9) (pa_cons (pv 2) pa_nil)))))))
          (pss_cons (ps_set (i := 9) scLaw.nd rfl (Or.inl rfl) (A.call (hr.mono (by decide)) (pa_cons (pv 1) (pa_cons (pe_op op_cat (pe_op op_rep (pe_lst (pa_cons (pv 9) pa_nil)) pe_int) (pe_lst (pa_cons (pe_slice sl_str (pv 9) po_none (po_some (pe_un un_neg pe_int))) (pa_cons (pe_op op_add_str (pv 9) pe_str) (pa_cons (pe_op op_add_str (pv 9) pe_str) (pa_cons (pe_op op_add_str pe_str (pv 9)) (pa_cons pe_str pa_nil))))))) pa_nil))))
          (pss_cons (ps_set (i := 11) scLaw.nd rfl (Or.inl rfl) (cTold.call (hr.mono (by decide)) (pa_cons (pv 9) pa_nil)))
          (pss_one (ps_if (PW.pt (pw_or (pt_cmpR (op_neD hr.units) (pv 11) (cDue.call (hr.mono (by decide)) (pa_cons (pv 9) pa_nil)) (nomark _)) (pw_or1 (pt_val (pe_callB call_isi (by rfl) T.isi (by decide +kernel) (pa_cons (pe_ix ix_tup (pv 11) pe_int (fun _ _ => rfl)) (pa_cons (pe_bltn (v := .ty "bool") (u := .type "bool") (by rfl) T.bool (by decide +kernel) rfl) pa_nil)))))))
            (pss_one (ps_ret pe_bl)) pss_nil))))))))))))))
      (pss_cons (ps_set (i := 12) scLaw.nd rfl (Or.inl rfl) (pe_lst (pa_cons pe_non (pa_cons pe_int (pa_cons pe_bl (pa_cons (pe_lst (pa_cons pe_str pa_nil)) (pa_cons (pe_tup (pa_cons pe_str pa_nil)) (pa_cons pe_dnewK (pa_cons (cDeep.call (hr.mono (by decide)) (pa_cons (pv 1) pa_nil)) (pa_cons (pe_make MgS GgS (hr.mono (by decide)) (by rfl) YgS.mgC BgS .nil pass0 (pa_cons pe_int (pa_cons (pe_tup (pa_cons (pe_tup (pa_cons (pe_tup (pa_cons pe_int (pa_cons pe_int pa_nil))) (pa_cons (pe_tup (pa_cons pe_int pa_nil)) pa_nil))) pa_nil)) pa_nil))) pa_nil))))))))))
      (pss_one (ps_ret (pe_cmpR (op_eqD hr.units) (cTold.call (hr.mono (by decide)) (pa_cons (A.call (hr.mono (by decide)) (pa_cons (pv 1) (pa_cons (pv 12) pa_nil))) pa_nil)) (pe_tup (pa_cons pe_str (pa_cons pe_int pa_nil))) (nomark _))))))))))), ?_⟩
    refine ⟨_, rfl, a, ns, rfl, hN, h63, fun p H1 hp s1 hH1 => ?_⟩
    obtain ⟨ks, hpk⟩ := hH1.dk
    refine ⟨by show 9 ≤ sizeLine; decide, fun L hL => ?_⟩
    have Lp : L ≠ p := fun z => by rw [z, hpk] at hL; cases hL
    refine new_step hL fun H2 s2 e2 => ?_
    have e2 : H2 L = some (.lst ((od1).map V.str)) := e2
    refine ⟨_, rfl, .inl ⟨rfl, _, SqL.of e2⟩, by show 6 ≤ sizeLine; decide, fun X2 hX2 => ?_⟩
    refine new_step hX2 fun G2 t2 x2 => ?_
    refine ⟨L, X2, _, _, rfl, rfl, t2 _ _ e2, x2, by show 15 ≤ sizeLine; decide, ?_⟩
    have s3 : Same H1 (upd G2 L (.lst ((od1 ++ od2).map V.str))) := (s2.trans t2).mut hL
    have e3 : (upd G2 L (.lst ((od1 ++ od2).map V.str))) L = some (.lst ((od1 ++ od2).map V.str)) := upd_same
    change tSeq _ _ _ _ (upd G2 L (.lst ((od1 ++ od2).map V.str)))
    generalize upd G2 L (.lst ((od1 ++ od2).map V.str)) = H3 at s3 e3 ⊢
    refine ⟨_, rfl, .inl ⟨rfl, _, SqL.of e3⟩, by show 6 ≤ sizeLine; decide, fun X3 hX3 => ?_⟩
    refine new_step hX3 fun G3 t3 x3 => ?_
    refine ⟨L, X3, _, _, rfl, rfl, t3 _ _ e3, x3, by show 21 ≤ sizeLine; decide, ?_⟩
    have s4 : Same H1 (upd G3 L (.lst ((od1 ++ od2 ++ od3).map V.str))) := (s3.trans t3).mut hL
    have e4 : (upd G3 L (.lst ((od1 ++ od2 ++ od3).map V.str))) L = some (.lst ((od1 ++ od2 ++ od3).map V.str)) := upd_same
    change tSeq _ _ _ _ (upd G3 L (.lst ((od1 ++ od2 ++ od3).map V.str)))
    generalize upd G3 L (.lst ((od1 ++ od2 ++ od3).map V.str)) = H4 at s4 e4 ⊢
    refine ⟨_, rfl, .inl ⟨rfl, _, SqL.of e4⟩, by show 5 ≤ sizeLine; decide, fun X4 hX4 => ?_⟩
    refine new_step hX4 fun G4 t4 x4 => ?_
    refine ⟨L, X4, _, _, rfl, rfl, t4 _ _ e4, x4, by show 26 ≤ sizeLine; decide, ?_⟩
    have s5 : Same H1 (upd G4 L (.lst ((od1 ++ od2 ++ od3 ++ od4).map V.str))) := (s4.trans t4).mut hL
    have e5 : (upd G4 L (.lst ((od1 ++ od2 ++ od3 ++ od4).map V.str))) L = some (.lst ((od1 ++ od2 ++ od3 ++ od4).map V.str)) := upd_same
    change tSeq _ _ _ _ (upd G4 L (.lst ((od1 ++ od2 ++ od3 ++ od4).map V.str)))
    generalize upd G4 L (.lst ((od1 ++ od2 ++ od3 ++ od4).map V.str)) = H5 at s5 e5 ⊢
    refine ⟨_, rfl, .inl ⟨rfl, _, SqL.of e5⟩, by show 5 ≤ sizeLine; decide, fun X5 hX5 => ?_⟩
    refine new_step hX5 fun G5 t5 x5 => ?_
    refine ⟨L, X5, _, _, rfl, rfl, t5 _ _ e5, x5, by show 31 ≤ sizeLine; decide, ?_⟩
    have s6 : Same H1 (upd G5 L (.lst ((od1 ++ od2 ++ od3 ++ od4 ++ od5).map V.str))) := (s5.trans t5).mut hL
    have e6 : (upd G5 L (.lst ((od1 ++ od2 ++ od3 ++ od4 ++ od5).map V.str))) L = some (.lst ((od1 ++ od2 ++ od3 ++ od4 ++ od5).map V.str)) := upd_same
    change tSeq _ _ _ _ (upd G5 L (.lst ((od1 ++ od2 ++ od3 ++ od4 ++ od5).map V.str)))
    generalize upd G5 L (.lst ((od1 ++ od2 ++ od3 ++ od4 ++ od5).map V.str)) = H6 at s6 e6 ⊢
    have hO := hH1.same s6
    clear e5 s5 t5 x5 hX5 e4 s4 t4 x4 hX4 e3 s3 t3 x3 hX3 e2 s2 t2 x2 hX2
    have oll : ∀ o ∈ od1 ++ od2 ++ od3 ++ od4 ++ od5, o.length ≤ 30 := od_len
    have olen : (od1 ++ od2 ++ od3 ++ od4 ++ od5).length = 31 := rfl
    generalize od1 ++ od2 ++ od3 ++ od4 ++ od5 = os at e6 oll olen
    have g12 : (10 : Int) ^ 12 = 1000000000000 := by decide
    refine ⟨3, rfl, by decide, by decide, ?_⟩
    refine for_range (lo := 0) (n := 3) (fun i σ H' => Stp p H6 H' ∧ ∃ u3 u4 u5 u6 u7 u8 u9 u10 u11 : Option V, σ = [some (.ref a), some (.ref p), some (.ref L), u3, u4, u5, u6, u7, u8, u9, u10, u11, none]) ⟨Stp.refl hO, _, _, _, _, _, _, _, _, _, rfl⟩ ?_ ?_
    · rintro i σ H7 hi ⟨S7, u3, u4, u5, u6, u7, u8, u9, u10, u11, rfl⟩
      refine ⟨_, rfl, p, rfl, S7.hand, fun n H8 n1 n12 S8 => ?_⟩
      refine ⟨_, rfl, _, rfl, ?_⟩
      refine mrg (fun v H' => ∃ most : Nat, v = .int (most : Int) ∧ 1 ≤ most ∧ most ≤ 24 ∧ Stp p H8 H') (fun Q' key => ?_) ?_
      · refine ⟨_, rfl, p, 12, rfl, by decide, by decide, S8.hand, fun d H9 d0 d1 S9 => ⟨_, _, rfl, rfl, _, rfl, ite2 (fun _ => ?_) (fun _ => ?_)⟩⟩
        · exact key _ _ ⟨6, rfl, by decide, by decide, S9⟩
        · exact key _ _ ⟨24, rfl, by decide, by decide, S9⟩
      rintro v H9 ⟨most, rfl, mo1, mo2, S9⟩
      refine ⟨p, n, most, rfl, n1, n12, mo1, mo2, S9.hand, fun l H10 ms S10 hA ok hlen => ?_⟩
      have sm := sys_sm ok
      have l24 : ms.length ≤ 24 := by omega
      have hms : ∀ m ∈ ms, MvSm m ∧ m.2.length ≤ 12 := fun m hm => ⟨(sm m hm).1, (sm m hm).2.1⟩
      have S610 := ((S7.trans S8).trans S9).trans S10
      refine ⟨_, rfl, _, rfl, n, l, ms, rfl, hA, n12, l24, hms, fun pl H11 s11 hpl => ?_⟩
      refine ⟨_, rfl, _, rfl, ?_⟩
      intro y dy hy hdy ney
      refine ⟨y, dy, n, l, ms, rfl, upd_same, (hA.same s11).same (mk_same0 hy hdy), ok.ok, fun H12 k12 h12 => ⟨rfl, _, _, rfl, ?_⟩⟩
      have s12 : Same H11 H12 := mk_same hy hdy k12
      have hA12 := (hA.same s11).same s12
      have Sy : SysAt K C H12 y n ms := ⟨dy, l, h12, hA12⟩
      have S612 := (S610.post s11).post s12
      have pll : pl.length ≤ 4500 := by
        rw [len_tl, hpl]
        have z := text_len (ms := ms) n12 hms
        unfold textT
        omega
      have hrd : readF oneB (Txt.split pl ⟨#[10]⟩) = .told (n : Int) ms := by
        rw [read_back hpl (by omega) (by omega) fun m hm => ⟨(sm m hm).1, (sm m hm).2.2⟩]
        unfold madeF
        rw [wrong_ok ok]
      refine ⟨_, rfl, y, n, ms, rfl, Sy, n12, l24, hms, fun tx H13 s13 htx => ?_⟩
      refine ⟨_, rfl, rfl, _, rfl, ?_⟩
      rw [dec_str, decide_eq_true (show tx = pl from ext_tl (htx.trans hpl.symm))]
      refine iteF ⟨_, rfl, .str pl, rfl, .inl ⟨pl, rfl, by omega, fun n' d' H' hr' => ?_, fun pt d' H' hr' => ?_, fun many' ms' q H14 hr' s14 hq hS => ?_⟩⟩
      · rw [hrd] at hr'
        cases hr'
      · rw [hrd] at hr'
        cases hr'
      rw [hrd] at hr'
      cases hr'
      have Sy14 := (Sy.same s13).same s14
      obtain ⟨dq, mq, hq1, hq2⟩ := id hS
      obtain ⟨dy4, my4, hy1, hy2⟩ := id Sy14
      refine ⟨_, rfl, q, y, dq, _, dy4, _, rfl, rfl, hq1, hy1, q, y, _, n, ms, ms, rfl, hS, Sy14, _, rfl, ?_⟩
      rw [Int.toNat_natCast, decide_eq_true (show n = n from rfl), decide_eq_true (show ms = ms from rfl)]
      refine iteF ⟨_, rfl, .str pl, rfl, .inl ⟨pl, rfl, by omega, fun b H15 s15 hO15 => ?_⟩⟩
      rw [hrd] at hO15
      have s125 := (s13.trans s14).trans s15
      refine ⟨_, rfl, _, rfl, by show 2 ≤ sizeLine; decide, fun q1 hq1' => ?_⟩
      refine new_step hq1' fun H16 s16 e16 => ?_
      refine ⟨by show 2 ≤ sizeLine; decide, fun q2 hq2' => ?_⟩
      refine new_step hq2' fun H17 s17 e17 => ?_
      have s157 := s16.trans s17
      have hO17 : OutAt K H17 q2 (.told (n : Int) ms) := ⟨q1, l, SqT.of e17, s17.sqT (SqT.of e16), (hA12.same s125).same s157⟩
      have ly := lay_out (o := .told (n : Int) ms) trivial
      refine ⟨outD (.told (n : Int) ms), outD (.told (n : Int) ms), dp_out (hO15.same s157), dp_out hO17, shaped_of ly (by decide), shaped_of ly (by decide), _, rfl, ?_⟩
      rw [SeqAt.eqv_refl _ ly.1]
      have S617 := S612.post (s125.trans s157)
      clear hO17 hO15 e17 e16 s157 s17 s16 s125 s15 hy1 hy2 hq1 hq2 Sy14 s14 s13 hS
      refine iteF ⟨6, rfl, by decide, by decide, ?_⟩
      refine for_range (lo := 0) (n := 6) (fun j σ H' => Stp p H6 H' ∧ ∃ u8 u9 u10 u11 : Option V, σ = [some (.ref a), some (.ref p), some (.ref L), some (.int (0 + (i : Int))), some (.int (n : Int)), some (.ref l), some (.str pl), some (.ref y), u8, u9, u10, u11, none]) ⟨S617, _, _, _, _, rfl⟩ ?_ ?_
      · rintro j σ H20 hj ⟨S20, v8, v9, v10, v11, rfl⟩
        refine ⟨_, rfl, ?_⟩
        refine ⟨_, rfl, p, 2, rfl, by decide, by decide, S20.hand, fun d H21 d0 d1 S21 => ⟨_, _, rfl, rfl, _, rfl, by omega, by omega, ?_⟩⟩
        have S21' := S20.trans S21
        refine for_range (lo := 0) (n := (1 + d).toNat) (fun i' σ H' => Stp p H6 H' ∧ ∃ (u : Str) (u10 : Option V), (i' = 0 → u.length ≤ 4500) ∧ (i' = 1 → u.length ≤ 14000) ∧ (i' = 2 → u.length ≤ 43000) ∧ σ = [some (.ref a), some (.ref p), some (.ref L), some (.int (0 + (i : Int))), some (.int (n : Int)), some (.ref l), some (.str pl), some (.ref y), some (.int (0 + (j : Int))), some (.str u), u10, v11, none]) ⟨S21', pl, _, fun _ => pll, fun z => (by cases z), fun z => (by cases z), rfl⟩ ?_ ?_
        · rintro i' σ H22 hi' ⟨S22, u, w10, b0, b1, b2, rfl⟩
          have i2 : i' < 2 := by omega
          have ul : u.length ≤ 14000 := by
            match i', i2 with
            | 0, _ => exact Nat.le_trans (b0 rfl) (by decide)
            | 1, _ => exact b1 rfl
          refine ⟨_, rfl, _, rfl, _, rfl, p, L, u, os, rfl, S22.hand, S22.keep _ _ Lp e6, by omega, by omega, oll, by omega, fun u' H23 S23 ul' => ?_⟩
          refine ⟨S22.trans S23, u', _, fun z => (by omega), fun z => ?_, fun z => ?_, rfl⟩
          · have := b0 (by omega)
            omega
          · have := b1 (by omega)
            omega
        · rintro σ H22 ⟨S22, u, w10, b0, b1, b2, rfl⟩
          have ul : u.length ≤ 43000 := by
            have : (1 + d).toNat = 1 ∨ (1 + d).toNat = 2 := by omega
            rcases this with h | h
            · exact Nat.le_trans (b1 h) (by decide)
            · exact b2 h
          clear b0 b1 b2
          have uz : u.length ≤ sizeLine := by rw [sizeLine_eq]; omega
          have fz : ∀ k : Nat, k ≤ 1000000 → k ≤ sizeLine := fun k hk => by rw [sizeLine_eq]; omega
          have ap : ∀ x y : Str, (x ++ y).length = x.length + y.length := Str.length_append
          have c_nl : ("\n" : Str).length = 1 := by decide +kernel
          have c_x : ("x" : Str).length = 1 := by decide +kernel
          have cl : (cutS u none (some (-1))).length ≤ u.length := cutS_length _ _ _
          unfold tNoPart
          refine ⟨_, rfl, _, rfl, by show 1 ≤ sizeLine; decide, fun q1 hq1 => ?_⟩
          refine new_step hq1 fun H23 s23 e23 => ?_
          refine ⟨q1, 8, _, rfl, rfl, e23, by decide, by decide, by show 1 * 8 ≤ sizeLine; decide, fun q2 hq2 => ?_⟩
          refine new_step hq2 fun H24 s24 e24 => ?_
          refine ⟨_, rfl, _, rfl, _, rfl, u, rfl, uz, _, rfl, _, _, rfl, rfl, fz _ (by omega), _, rfl, _, _, rfl, rfl, fz _ (by omega), _, rfl, _, _, rfl, rfl, fz _ (by omega), by show 5 ≤ sizeLine; decide, fun q3 hq3 => ?_⟩
          refine new_step hq3 fun H25 s25 e25 => ?_
          refine ⟨q2, q3, _, _, rfl, rfl, s25 _ _ e24, e25, by show 13 ≤ sizeLine; decide, fun q4 hq4 => ?_⟩
          refine new_step hq4 fun H26 s26 e26 => ?_
          have s2226 := ((s23.trans s24).trans s25).trans s26
          have all : ∀ x ∈ (List.replicate (8 : Int).toNat [V.str u]).flatten ++ [V.str (cutS u none (some (-1))), .str (u ++ ("\n" : Str)), .str (u ++ ("x" : Str)), .str (("\n" : Str) ++ u), .str ""], ∃ z : Str, x = .str z ∧ z.length ≤ 43001 := fun x hx => by
            rcases List.mem_append.mp hx with hx | hx
            · obtain ⟨m, hm, hx⟩ := List.mem_flatten.mp hx
              rw [List.eq_of_mem_replicate hm] at hx
              rw [List.mem_singleton.mp hx]
              exact ⟨u, rfl, by omega⟩
            · simp only [List.mem_cons, List.not_mem_nil, or_false] at hx
              rcases hx with rfl | rfl | rfl | rfl | rfl
              · exact ⟨_, rfl, by omega⟩
              · exact ⟨_, rfl, by rw [ap]; omega⟩
              · exact ⟨_, rfl, by rw [ap]; omega⟩
              · exact ⟨_, rfl, by rw [ap]; omega⟩
              · exact ⟨_, rfl, by rw [e_emp]; exact Nat.zero_le _⟩
          have alen : ((List.replicate (8 : Int).toNat [V.str u]).flatten ++ [V.str (cutS u none (some (-1))), .str (u ++ ("\n" : Str)), .str (u ++ ("x" : Str)), .str (("\n" : Str) ++ u), .str ""]).length = 13 := rfl
          generalize (List.replicate (8 : Int).toNat [V.str u]).flatten ++ [V.str (cutS u none (some (-1))), .str (u ++ ("\n" : Str)), .str (u ++ ("x" : Str)), .str (("\n" : Str) ++ u), .str ""] = cho at e26 all alen
          refine ⟨p, q4, cho, rfl, .inl (SqL.of e26), by omega, by omega, (S22.post s2226).hand, fun jj x H27 hjj S27 => ?_⟩
          obtain ⟨z, rfl, zl⟩ := all x (List.mem_of_getElem? hjj)
          have S27' := (S22.post s2226).trans S27
          refine ⟨_, rfl, .str z, rfl, .inl ⟨z, rfl, by omega, fun f H28 s28 hf => ?_⟩⟩
          refine ⟨_, rfl, _, rfl, z, rfl, by omega, fun g H29 s29 hg => ?_⟩
          have hok := read_ok (Txt.split z (⟨#[10]⟩ : Str)) (split_ne (by decide))
          generalize readF oneB (Txt.split z (⟨#[10]⟩ : Str)) = o at hf hg hok
          have ly := lay_out hok
          have hf2 := hf.same s29
          refine ⟨outD o, outD o, dp_out hf2, dp_out hg, shaped_of ly (by decide), shaped_of ly (by decide), _, rfl, ?_⟩
          rw [SeqAt.eqv_refl _ ly.1]
          obtain ⟨xx, yy, ty, w1, w2, w3⟩ := out_second hf2
          refine iteF ⟨_, rfl, f, _, _, yy, rfl, rfl, w1, atI_nat (i := 1) rfl, _, _, _, _, _, rfl, .ty "bool", w2, w3, _, rfl, ?_⟩
          exact iteF ⟨(S27'.post s28).post s29, _, _, _, _, rfl⟩
      · rintro σ H20 ⟨S20, v8, v9, v10, v11, rfl⟩
        exact ⟨S20, _, _, _, _, _, _, _, _, _, rfl⟩
    · rintro σ H7 ⟨S7, u3, u4, u5, u6, u7, u8, u9, u10, u11, rfl⟩
      have hp7 := S7.hand.dk.choose_spec
      refine ⟨by show 1 ≤ sizeLine; decide, fun q1 hq1 => ?_⟩
      have Q1 : q1 ≠ p := fun z => by rw [z, hp7] at hq1; cases hq1
      refine new_step hq1 fun H8 s8 e8 => ?_
      refine ⟨by show 1 ≤ sizeLine; decide, fun q2 hq2 => ?_⟩
      refine new_step hq2 fun H9 s9 e9 q3 hq3 => ?_
      have hp9 := s9 _ _ (s8 _ _ hp7)
      have Q3 : q3 ≠ p := fun z => by rw [z, hp9] at hq3; cases hq3
      refine new_step hq3 fun H10 s10 e10 => ?_
      have S10 := ((S7.post s8).post s9).post s10
      refine ⟨_, rfl, p, rfl, S10.hand, fun x H11 S11 hx => ?_⟩
      have th1 : ThN K C p H10 (.ref q1) := .inr (.inl (.inl ⟨q1, rfl, Q1, .inl ⟨_, (s9.trans s10) _ _ e8⟩⟩))
      have th2 : ThN K C p H10 (.ref q2) := .inr (.inl (.inr ⟨q2, _, rfl, SqT.of (s10 _ _ e9)⟩))
      have th3 : ThN K C p H10 (.ref q3) := .inr (.inl (.inl ⟨q3, rfl, Q3, .inr ⟨_, e10⟩⟩))
      have t1 := th1.stp S10.hand S11
      have t2 := th2.stp S10.hand S11
      have t3 := th3.stp S10.hand S11
      have t4 : ThN K C p H11 x := .inr (.inl hx)
      have S11' := S10.trans S11
      clear th1 th2 th3 hx e8 e9 e10
      refine ⟨by show 2 ≤ sizeLine; decide, fun r1 hr1 => ?_⟩
      refine new_step hr1 fun H12 s12 e12 => ?_
      refine ⟨by show 1 ≤ sizeLine; decide, fun r2 hr2 => ?_⟩
      refine new_step hr2 fun H13 s13 e13 => ?_
      refine ⟨by show 2 ≤ sizeLine; decide, fun r3 hr3 => ?_⟩
      refine new_step hr3 fun H14 s14 e14 => ?_
      refine ⟨by show 1 ≤ sizeLine; decide, fun r4 hr4 => ?_⟩
      refine new_step hr4 fun H15 s15 e15 => ?_
      intro y dy hy hdy ney
      have mA : MvsAt K H15 r4 [((1, 1), [0])] := by
        refine ⟨[.ref r3], SqT.of e15, rfl, fun i v hv => ?_⟩
        match i, hv with
        | 0, hv =>
          cases hv
          exact ⟨((1, 1), [0]), rfl, r3, r1, r2, rfl, s15.sqT (SqT.of e14), ((s13.trans s14).trans s15).sqT (SqT.of e12), (s14.trans s15).sqT (SqT.of e13)⟩
      have so : SysOk 1 [((1, 1), [0])] := by
        refine ⟨by decide, by decide, by decide, by decide, fun m hm => ?_, by decide⟩
        rw [List.mem_singleton.mp hm]
        exact ⟨⟨by decide, by decide, by decide⟩, by decide, by decide, rfl, fun x hx => by rw [List.mem_singleton.mp hx]; decide⟩
      refine ⟨y, dy, 1, r4, [((1, 1), [0])], rfl, upd_same, mA.same (mk_same0 hy hdy), so, fun H16 k16 h16 => ⟨rfl, ?_⟩⟩
      have s16 : Same H15 H16 := mk_same hy hdy k16
      have sAll := (((s12.trans s13).trans s14).trans s15).trans s16
      have Sy : SysAt K C H16 y 1 [((1, 1), [0])] := ⟨dy, r4, h16, mA.same s16⟩
      have S16 := S11'.post sAll
      have st := Stp.of S11'.hand sAll
      have t1 := t1.stp S11'.hand st
      have t2 := t2.stp S11'.hand st
      have t3 := t3.stp S11'.hand st
      have t4 := t4.stp S11'.hand st
      have all : ∀ z ∈ [V.non, .int 0, .bl true, .ref q1, .ref q2, .ref q3, x, .ref y], ThN K C p H16 z := fun z hz => by
        simp only [List.mem_cons, List.not_mem_nil, or_false] at hz
        rcases hz with rfl | rfl | rfl | rfl | rfl | rfl | rfl | rfl
        · exact .inl (.inl rfl)
        · exact .inl (.inr (.inl ⟨_, rfl⟩))
        · exact .inl (.inr (.inr ⟨_, rfl⟩))
        · exact t1
        · exact t2
        · exact t3
        · exact t4
        · exact .inr (.inr ⟨y, 1, _, rfl, Sy⟩)
      refine ⟨by show 8 ≤ sizeLine; decide, fun T1 hT1 => ?_⟩
      have st2 := Stp.of S16.hand (Same.new (o := .lst [V.non, .int 0, .bl true, .ref q1, .ref q2, .ref q3, x, .ref y]) hT1)
      refine ⟨_, rfl, _, rfl, p, T1, _, rfl, .inl (SqL.of upd_same), by show 0 < 8; decide, by show 8 < _; decide, st2.hand, fun jj z H17 hjj S17 => ?_⟩
      have tz := ((all z (List.mem_of_getElem? hjj)).stp S16.hand st2).stp st2.hand S17
      obtain ⟨ty, y1, y2⟩ := tz.ty YgS kS
      refine ⟨z, rfl, .inr ⟨ty, y1, y2, fun f H18 s18 hf => ?_⟩⟩
      refine ⟨by show 2 ≤ sizeLine; decide, fun g hg => ?_⟩
      refine new_step hg fun H19 s19 e19 => ?_
      have ly := lay_out (o := .line 0) trivial
      have hg : OutAt K H19 g (.line 0) := SqT.of e19
      refine ⟨outD (.line 0), outD (.line 0), dp_out (hf.same s19), dp_out hg, shaped_of ly (by decide), shaped_of ly (by decide), ?_⟩
      rw [SeqAt.eqv_refl _ ly.1]
      exact k H19
end
end Law

set_option maxHeartbeats 0
namespace Law
open PySem PySem.Spec PyProof.Rows L2
theorem ba3 {a b : Bool} (h : (a && b) = true) : a = true ∧ b = true := Bool.and_eq_true_iff.mp h
theorem optT_ok {o : Option Bool} (h : optT o = true) : o = some true := by
  cases o with
  | none => cases h
  | some b =>
    cases b with
    | true => rfl
    | false => cases h
section
variable {P : Program} {w : World} {K : PySem.W.Frag} {h : Heap} {mg : Str → Option Value} {base : Heap}
theorem facts {f : Addr} (tr : P.given.tree = none) (X : K.In h) (G : h.Ns mainGlobals mg) (hfa : mg ("law" : Str) = some (.ref f)) (c : He.SaysD fas fns K) (e : exK K = true) :
    ∃ fd : FuncData, (∀ (s : Shared) (v : Value), BindsTo s fd ⟨[v], []⟩ [("_law_script", v)]) ∧ ∀ base : Heap, K.In base → base.Ns mainGlobals mg → FnOk P w K mg base CX0 39 f fd ["_law_script"] (spLaw K) := by
  have eL := hfa.symm.trans (He.glo_ok X G (c.fact 41 (f := .glo "law") rfl))
  cases eL
  obtain ⟨e1, e⟩ := ba3 e
  obtain ⟨e2, e⟩ := ba3 e
  obtain ⟨e3, e6⟩ := ba3 e2
  obtain ⟨v1, e⟩ := ba3 e
  obtain ⟨v2, e⟩ := ba3 e
  obtain ⟨i1, e⟩ := ba3 e
  obtain ⟨i2, e⟩ := ba3 e
  obtain ⟨w1, e⟩ := ba3 e
  obtain ⟨w2, e⟩ := ba3 e
  obtain ⟨w3, w4⟩ := ba3 e
  obtain ⟨x1, x2⟩ := ba3 e3
  obtain ⟨x2, x3⟩ := ba3 x2
  obtain ⟨x3, x4⟩ := ba3 x3
  obtain ⟨y1, y2⟩ := ba3 e1
  obtain ⟨ia1, ia2⟩ := ba3 i1
  obtain ⟨ib1, ib2⟩ := ba3 i2
  have T : NmA mg := ⟨He.free_ok X G (c.fact 43 (f := .free "abs") rfl), He.free_ok X G (c.fact 44 (f := .free "all") rfl), He.free_ok X G (c.fact 45 (f := .free "bool") rfl), He.free_ok X G (c.fact 46 (f := .free "divmod") rfl), He.free_ok X G (c.fact 47 (f := .free "enumerate") rfl), He.free_ok X G (c.fact 48 (f := .free "int") rfl), He.free_ok X G (c.fact 49 (f := .free "isinstance") rfl), He.free_ok X G (c.fact 50 (f := .free "len") rfl), He.free_ok X G (c.fact 51 (f := .free "list") rfl), He.free_ok X G (c.fact 52 (f := .free "range") rfl), He.free_ok X G (c.fact 53 (f := .free "reversed") rfl), He.free_ok X G (c.fact 54 (f := .free "str") rfl), He.free_ok X G (c.fact 55 (f := .free "sum") rfl), He.free_ok X G (c.fact 56 (f := .free "tuple") rfl), PySem.W.mg_of X G (He.eqO_ok y1), PySem.W.mg_of X G (He.eqO_ok y2)⟩
  have Y : SysT K mg (He.ga K "System") := ⟨He.cls_ok (c.fact 57 (f := .cls "System") rfl), He.noat_ok (c.fact 58 (f := .noat "System" "many") rfl), He.noat_ok (c.fact 59 (f := .noat "System" "moves") rfl), He.glo_ok X G (c.fact 16 (f := .glo "System") rfl), He.eqO_ok x1, He.eqO_ok x2, optT_ok x3, optT_ok x4⟩
  obtain ⟨fd_law, F_law⟩ := c.def_ 41 rfl
  have FD_law := F_law
  have F_law := funD_fun (st := s_law) F_law
  have B_law := F_law.binds (ps := ["_law_script"]) fun _ _ _ _ _ _ us hl => match us, hl with | [_], _ => rfl
  have M_law := He.glo_ok X G (c.fact 41 (f := .glo "law") rfl)
  obtain ⟨fd__law_hand, F__law_hand⟩ := c.def_ 21 rfl
  have FD__law_hand := F__law_hand
  have F__law_hand := funD_fun (st := s_law_hand) F__law_hand
  have B__law_hand := F__law_hand.binds (ps := ["_law_script"]) fun _ _ _ _ _ _ us hl => match us, hl with | [_], _ => rfl
  have M__law_hand := He.glo_ok X G (c.fact 21 (f := .glo "_law_hand") rfl)
  obtain ⟨fd__law_size, F__law_size⟩ := c.def_ 30 rfl
  have FD__law_size := F__law_size
  have F__law_size := funD_fun (st := s_law_size) F__law_size
  have B__law_size := F__law_size.binds (ps := ["_law_hand_here"]) fun _ _ _ _ _ _ us hl => match us, hl with | [_], _ => rfl
  have M__law_size := He.glo_ok X G (c.fact 30 (f := .glo "_law_size") rfl)
  obtain ⟨fd__law_draw, F__law_draw⟩ := c.def_ 22 rfl
  have FD__law_draw := F__law_draw
  have F__law_draw := funD_fun (st := s_law_draw) F__law_draw
  have B__law_draw := F__law_draw.binds (ps := ["_law_hand_here", "_law_many"]) fun _ _ _ _ _ _ us hl => match us, hl with | [_, _], _ => rfl
  have M__law_draw := He.glo_ok X G (c.fact 22 (f := .glo "_law_draw") rfl)
  obtain ⟨fd__law_any, F__law_any⟩ := c.def_ 23 rfl
  have FD__law_any := F__law_any
  have F__law_any := funD_fun (st := s_law_any) F__law_any
  have B__law_any := F__law_any.binds (ps := ["_law_hand_here", "_law_things"]) fun _ _ _ _ _ _ us hl => match us, hl with | [_, _], _ => rfl
  have M__law_any := He.glo_ok X G (c.fact 23 (f := .glo "_law_any") rfl)
  obtain ⟨fd__law_moves, F__law_moves⟩ := c.def_ 29 rfl
  have FD__law_moves := F__law_moves
  have F__law_moves := funD_fun (st := s_law_moves) F__law_moves
  have B__law_moves := F__law_moves.binds (ps := ["_law_hand_here", "_law_many", "_law_most"]) fun _ _ _ _ _ _ us hl => match us, hl with | [_, _, _], _ => rfl
  have M__law_moves := He.glo_ok X G (c.fact 29 (f := .glo "_law_moves") rfl)
  obtain ⟨fd__law_shares, F__law_shares⟩ := c.def_ 27 rfl
  have FD__law_shares := F__law_shares
  have F__law_shares := funD_fun (st := s_law_shares) F__law_shares
  have B__law_shares := F__law_shares.binds (ps := ["_law_hand_here", "_law_many"]) fun _ _ _ _ _ _ us hl => match us, hl with | [_, _], _ => rfl
  have M__law_shares := He.glo_ok X G (c.fact 27 (f := .glo "_law_shares") rfl)
  obtain ⟨fd__law_low, F__law_low⟩ := c.def_ 24 rfl
  have FD__law_low := F__law_low
  have F__law_low := funD_fun (st := s_law_low) F__law_low
  have B__law_low := F__law_low.binds (ps := ["_law_top", "_law_bottom"]) fun _ _ _ _ _ _ us hl => match us, hl with | [_, _], _ => rfl
  have M__law_low := He.glo_ok X G (c.fact 24 (f := .glo "_law_low") rfl)
  obtain ⟨fd__law_leads, F__law_leads⟩ := c.def_ 28 rfl
  have FD__law_leads := F__law_leads
  have F__law_leads := funD_fun (st := s_law_leads) F__law_leads
  have B__law_leads := F__law_leads.binds (ps := ["_law_hand_here", "_law_many"]) fun _ _ _ _ _ _ us hl => match us, hl with | [_, _], _ => rfl
  have M__law_leads := He.glo_ok X G (c.fact 28 (f := .glo "_law_leads") rfl)
  obtain ⟨fd__law_text, F__law_text⟩ := c.def_ 32 rfl
  have FD__law_text := F__law_text
  have F__law_text := funD_fun (st := s_law_text) F__law_text
  have B__law_text := F__law_text.binds (ps := ["_law_many", "_law_moves_here"]) fun _ _ _ _ _ _ us hl => match us, hl with | [_, _], _ => rfl
  have M__law_text := He.glo_ok X G (c.fact 32 (f := .glo "_law_text") rfl)
  obtain ⟨fd_System___init__, F_System___init__⟩ := c.def_ 15 rfl
  have FD_System___init__ := F_System___init__
  have F_System___init__ := funD_fun (st := s_System_init) F_System___init__
  have B_System___init__ := F_System___init__.binds (ps := ["self", "many", "moves"]) fun _ _ _ _ _ _ us hl => match us, hl with | [_, _, _], _ => rfl
  obtain ⟨fd_is_within, F_is_within⟩ := c.def_ 1 rfl
  have FD_is_within := F_is_within
  have F_is_within := funD_fun (st := s_is_within) F_is_within
  have B_is_within := F_is_within.binds (ps := ["low", "high", "thing"]) fun _ _ _ _ _ _ us hl => match us, hl with | [_, _, _], _ => rfl
  have M_is_within := He.glo_ok X G (c.fact 1 (f := .glo "is_within") rfl)
  obtain ⟨fd_is_integer, F_is_integer⟩ := c.def_ 0 rfl
  have FD_is_integer := F_is_integer
  have F_is_integer := funD_fun (st := s_is_integer) F_is_integer
  have B_is_integer := F_is_integer.binds (ps := ["thing"]) fun _ _ _ _ _ _ us hl => match us, hl with | [_], _ => rfl
  have M_is_integer := He.glo_ok X G (c.fact 0 (f := .glo "is_integer") rfl)
  obtain ⟨fd_is_move, F_is_move⟩ := c.def_ 17 rfl
  have FD_is_move := F_is_move
  have F_is_move := funD_fun (st := s_is_move) F_is_move
  have B_is_move := F_is_move.binds (ps := ["many", "thing"]) fun _ _ _ _ _ _ us hl => match us, hl with | [_, _], _ => rfl
  have M_is_move := He.glo_ok X G (c.fact 17 (f := .glo "is_move") rfl)
  obtain ⟨fd_is_fraction, F_is_fraction⟩ := c.def_ 3 rfl
  have FD_is_fraction := F_is_fraction
  have F_is_fraction := funD_fun (st := s_is_fraction) F_is_fraction
  have B_is_fraction := F_is_fraction.binds (ps := ["thing"]) fun _ _ _ _ _ _ us hl => match us, hl with | [_], _ => rfl
  have M_is_fraction := He.glo_ok X G (c.fact 3 (f := .glo "is_fraction") rfl)
  obtain ⟨fd_is_row_below, F_is_row_below⟩ := c.def_ 2 rfl
  have FD_is_row_below := F_is_row_below
  have F_is_row_below := funD_fun (st := s_is_row_below) F_is_row_below
  have B_is_row_below := F_is_row_below.binds (ps := ["bound", "thing"]) fun _ _ _ _ _ _ us hl => match us, hl with | [_, _], _ => rfl
  have M_is_row_below := He.glo_ok X G (c.fact 2 (f := .glo "is_row_below") rfl)
  obtain ⟨fd_are_one_together, F_are_one_together⟩ := c.def_ 6 rfl
  have FD_are_one_together := F_are_one_together
  have F_are_one_together := funD_fun (st := s_are_one_together) F_are_one_together
  have B_are_one_together := F_are_one_together.binds (ps := ["fractions"]) fun _ _ _ _ _ _ us hl => match us, hl with | [_], _ => rfl
  have M_are_one_together := He.glo_ok X G (c.fact 6 (f := .glo "are_one_together") rfl)
  obtain ⟨fd_common_bottom, F_common_bottom⟩ := c.def_ 4 rfl
  have FD_common_bottom := F_common_bottom
  have F_common_bottom := funD_fun (st := s_common_bottom) F_common_bottom
  have B_common_bottom := F_common_bottom.binds (ps := ["fractions"]) fun _ _ _ _ _ _ us hl => match us, hl with | [_], _ => rfl
  have M_common_bottom := He.glo_ok X G (c.fact 4 (f := .glo "common_bottom") rfl)
  obtain ⟨fd_tops_over, F_tops_over⟩ := c.def_ 5 rfl
  have FD_tops_over := F_tops_over
  have F_tops_over := funD_fun (st := s_tops_over) F_tops_over
  have B_tops_over := F_tops_over.binds (ps := ["fractions", "bottom"]) fun _ _ _ _ _ _ us hl => match us, hl with | [_, _], _ => rfl
  have M_tops_over := He.glo_ok X G (c.fact 5 (f := .glo "tops_over") rfl)
  obtain ⟨fd_system_text, F_system_text⟩ := c.def_ 18 rfl
  have FD_system_text := F_system_text
  have F_system_text := funD_fun (st := s_system_text) F_system_text
  have B_system_text := F_system_text.binds (ps := ["system"]) fun _ _ _ _ _ _ us hl => match us, hl with | [_], _ => rfl
  have M_system_text := He.glo_ok X G (c.fact 18 (f := .glo "system_text") rfl)
  obtain ⟨fd_fraction_text, F_fraction_text⟩ := c.def_ 11 rfl
  have FD_fraction_text := F_fraction_text
  have F_fraction_text := funD_fun (st := s_fraction_text) F_fraction_text
  have B_fraction_text := F_fraction_text.binds (ps := ["share"]) fun _ _ _ _ _ _ us hl => match us, hl with | [_], _ => rfl
  have M_fraction_text := He.glo_ok X G (c.fact 11 (f := .glo "fraction_text") rfl)
  obtain ⟨fd_number_text, F_number_text⟩ := c.def_ 7 rfl
  have FD_number_text := F_number_text
  have F_number_text := funD_fun (st := s_number_text) F_number_text
  have B_number_text := F_number_text.binds (ps := ["number"]) fun _ _ _ _ _ _ us hl => match us, hl with | [_], _ => rfl
  have M_number_text := He.glo_ok X G (c.fact 7 (f := .glo "number_text") rfl)
  obtain ⟨fd__law_told, F__law_told⟩ := c.def_ 39 rfl
  have FD__law_told := F__law_told
  have F__law_told := funD_fun (st := s_law_told) F__law_told
  have B__law_told := F__law_told.binds (ps := ["_law_text_here"]) fun _ _ _ _ _ _ us hl => match us, hl with | [_], _ => rfl
  have M__law_told := He.glo_ok X G (c.fact 39 (f := .glo "_law_told") rfl)
  obtain ⟨fd_read_system, F_read_system⟩ := c.def_ 20 rfl
  have FD_read_system := F_read_system
  have F_read_system := funD_fun (st := s_read_system) F_read_system
  have B_read_system := F_read_system.binds (ps := ["text"]) fun _ _ _ _ _ _ us hl => match us, hl with | [_], _ => rfl
  have M_read_system := He.glo_ok X G (c.fact 20 (f := .glo "read_system") rfl)
  obtain ⟨fd_number_behind, F_number_behind⟩ := c.def_ 9 rfl
  have FD_number_behind := F_number_behind
  have F_number_behind := funD_fun (st := s_number_behind) F_number_behind
  have B_number_behind := F_number_behind.binds (ps := ["word", "line"]) fun _ _ _ _ _ _ us hl => match us, hl with | [_, _], _ => rfl
  have M_number_behind := He.glo_ok X G (c.fact 9 (f := .glo "number_behind") rfl)
  obtain ⟨fd_number_of_text, F_number_of_text⟩ := c.def_ 8 rfl
  have FD_number_of_text := F_number_of_text
  have F_number_of_text := funD_fun (st := s_number_of_text) F_number_of_text
  have B_number_of_text := F_number_of_text.binds (ps := ["text"]) fun _ _ _ _ _ _ us hl => match us, hl with | [_], _ => rfl
  have M_number_of_text := He.glo_ok X G (c.fact 8 (f := .glo "number_of_text") rfl)
  obtain ⟨fd_move_of_line, F_move_of_line⟩ := c.def_ 19 rfl
  have FD_move_of_line := F_move_of_line
  have F_move_of_line := funD_fun (st := s_move_of_line) F_move_of_line
  have B_move_of_line := F_move_of_line.binds (ps := ["line"]) fun _ _ _ _ _ _ us hl => match us, hl with | [_], _ => rfl
  have M_move_of_line := He.glo_ok X G (c.fact 19 (f := .glo "move_of_line") rfl)
  obtain ⟨fd_fraction_of_text, F_fraction_of_text⟩ := c.def_ 12 rfl
  have FD_fraction_of_text := F_fraction_of_text
  have F_fraction_of_text := funD_fun (st := s_fraction_of_text) F_fraction_of_text
  have B_fraction_of_text := F_fraction_of_text.binds (ps := ["text"]) fun _ _ _ _ _ _ us hl => match us, hl with | [_], _ => rfl
  have M_fraction_of_text := He.glo_ok X G (c.fact 12 (f := .glo "fraction_of_text") rfl)
  obtain ⟨fd_numbers_of_text, F_numbers_of_text⟩ := c.def_ 10 rfl
  have FD_numbers_of_text := F_numbers_of_text
  have F_numbers_of_text := funD_fun (st := s_numbers_of_text) F_numbers_of_text
  have B_numbers_of_text := F_numbers_of_text.binds (ps := ["text"]) fun _ _ _ _ _ _ us hl => match us, hl with | [_], _ => rfl
  have M_numbers_of_text := He.glo_ok X G (c.fact 10 (f := .glo "numbers_of_text") rfl)
  obtain ⟨fd__law_bent, F__law_bent⟩ := c.def_ 40 rfl
  have FD__law_bent := F__law_bent
  have F__law_bent := funD_fun (st := s_law_bent) F__law_bent
  have B__law_bent := F__law_bent.binds (ps := ["_law_hand_here", "_law_text_here", "_law_odd"]) fun _ _ _ _ _ _ us hl => match us, hl with | [_, _, _], _ => rfl
  have M__law_bent := He.glo_ok X G (c.fact 40 (f := .glo "_law_bent") rfl)
  obtain ⟨fd__law_due, F__law_due⟩ := c.def_ 38 rfl
  have FD__law_due := F__law_due
  have F__law_due := funD_fun (st := s_law_due) F__law_due
  have B__law_due := F__law_due.binds (ps := ["_law_text_here"]) fun _ _ _ _ _ _ us hl => match us, hl with | [_], _ => rfl
  have M__law_due := He.glo_ok X G (c.fact 38 (f := .glo "_law_due") rfl)
  obtain ⟨fd__law_head, F__law_head⟩ := c.def_ 34 rfl
  have FD__law_head := F__law_head
  have F__law_head := funD_fun (st := s_law_head) F__law_head
  have B__law_head := F__law_head.binds (ps := ["_law_line_here"]) fun _ _ _ _ _ _ us hl => match us, hl with | [_], _ => rfl
  have M__law_head := He.glo_ok X G (c.fact 34 (f := .glo "_law_head") rfl)
  obtain ⟨fd__law_number, F__law_number⟩ := c.def_ 33 rfl
  have FD__law_number := F__law_number
  have F__law_number := funD_fun (st := s_law_number) F__law_number
  have B__law_number := F__law_number.binds (ps := ["_law_word"]) fun _ _ _ _ _ _ us hl => match us, hl with | [_], _ => rfl
  have M__law_number := He.glo_ok X G (c.fact 33 (f := .glo "_law_number") rfl)
  obtain ⟨fd__law_line, F__law_line⟩ := c.def_ 36 rfl
  have FD__law_line := F__law_line
  have F__law_line := funD_fun (st := s_law_line) F__law_line
  have B__law_line := F__law_line.binds (ps := ["_law_line_here"]) fun _ _ _ _ _ _ us hl => match us, hl with | [_], _ => rfl
  have M__law_line := He.glo_ok X G (c.fact 36 (f := .glo "_law_line") rfl)
  obtain ⟨fd__law_share, F__law_share⟩ := c.def_ 35 rfl
  have FD__law_share := F__law_share
  have F__law_share := funD_fun (st := s_law_share) F__law_share
  have B__law_share := F__law_share.binds (ps := ["_law_word"]) fun _ _ _ _ _ _ us hl => match us, hl with | [_], _ => rfl
  have M__law_share := He.glo_ok X G (c.fact 35 (f := .glo "_law_share") rfl)
  obtain ⟨fd__law_wrong, F__law_wrong⟩ := c.def_ 37 rfl
  have FD__law_wrong := F__law_wrong
  have F__law_wrong := funD_fun (st := s_law_wrong) F__law_wrong
  have B__law_wrong := F__law_wrong.binds (ps := ["_law_many", "_law_moves_here"]) fun _ _ _ _ _ _ us hl => match us, hl with | [_, _], _ => rfl
  have M__law_wrong := He.glo_ok X G (c.fact 37 (f := .glo "_law_wrong") rfl)
  obtain ⟨fd__law_sum, F__law_sum⟩ := c.def_ 26 rfl
  have FD__law_sum := F__law_sum
  have F__law_sum := funD_fun (st := s_law_sum) F__law_sum
  have B__law_sum := F__law_sum.binds (ps := ["_law_some"]) fun _ _ _ _ _ _ us hl => match us, hl with | [_], _ => rfl
  have M__law_sum := He.glo_ok X G (c.fact 26 (f := .glo "_law_sum") rfl)
  obtain ⟨fd__law_plus, F__law_plus⟩ := c.def_ 25 rfl
  have FD__law_plus := F__law_plus
  have F__law_plus := funD_fun (st := s_law_plus) F__law_plus
  have B__law_plus := F__law_plus.binds (ps := ["_law_one", "_law_other"]) fun _ _ _ _ _ _ us hl => match us, hl with | [_, _], _ => rfl
  have M__law_plus := He.glo_ok X G (c.fact 25 (f := .glo "_law_plus") rfl)
  obtain ⟨fd__law_deep, F__law_deep⟩ := c.def_ 31 rfl
  have FD__law_deep := F__law_deep
  have F__law_deep := funD_fun (st := s_law_deep) F__law_deep
  have B__law_deep := F__law_deep.binds (ps := ["_law_hand_here"]) fun _ _ _ _ _ _ us hl => match us, hl with | [_], _ => rfl
  have M__law_deep := He.glo_ok X G (c.fact 31 (f := .glo "_law_deep") rfl)
  obtain ⟨fd_System___eq__, F_System___eq__⟩ := c.def_ 16 rfl
  have FD_System___eq__ := F_System___eq__
  have F_System___eq__ := funD_fun (st := s_System_eq) F_System___eq__
  have B_System___eq__ := F_System___eq__.binds (ps := ["self", "other"]) fun _ _ _ _ _ _ us hl => match us, hl with | [_, _], _ => rfl
  have MK := He.mkr_ok (c.fact 60 (f := .mkr "System") rfl)
  have LG : Lg P K := ⟨e6, tr⟩
  have hGD := He.glo_ok X G (c.fact 13 (f := .glo "DrawError") rfl)
  have z1 := He.exm_ok (c.fact 64 (f := .exm "BadLine" "BadLine" true) rfl)
  have z2 := He.exm_ok (c.fact 65 (f := .exm "BadSystem" "BadLine" false) rfl)
  have z3 := He.exm_ok (c.fact 66 (f := .exm "BadSystem" "BadSystem" true) rfl)
  have k1 : PySem.W.kitOne K (.ref (He.ga K "BadLine")) (.ref (He.ga K "DrawError")) = some true := of_decide_eq_true w1
  have k2 : PySem.W.kitOne K (.ref (He.ga K "BadLine")) (.ref (He.ga K "BadSystem")) = some false := of_decide_eq_true w2
  have k3 : PySem.W.kitOne K (.ref (He.ga K "BadSystem")) (.ref (He.ga K "DrawError")) = some true := of_decide_eq_true w3
  have kS : PySem.W.kitOne K (.ref (He.ga K "System")) (.type "str") = some false := of_decide_eq_true w4
  have ME := He.meth_ok (c.fact 61 (f := .meth "System" "__eq__") rfl)
  obtain ⟨fd_bs, F_bs⟩ := c.def_ 13 rfl
  have F_bs := funD_fun (st := s_BadSystem_init) F_bs
  obtain ⟨fd_bl, F_bl⟩ := c.def_ 14 rfl
  have F_bl := funD_fun (st := s_BadLine_init) F_bl
  have bla := FunD.bindsA (ps := ["_law_script"]) FD_law fun _ _ _ _ _ _ us hl => match us, hl with | [_], _ => rfl
  refine ⟨fd_law, fun s v => bla s [v] rfl, fun base KB GB => ?_⟩
  have noS : PySem.W.findIn K (.ref (He.ga K "BadSystem")) "part" = some none := He.noat_ok (c.fact 62 (f := .noat "BadSystem" "part") rfl)
  have noL : PySem.W.findIn K (.ref (He.ga K "BadLine")) "number" = some none := He.noat_ok (c.fact 63 (f := .noat "BadLine" "number") rfl)
  have EBS : Er1 P w K mg base "BadSystem" (He.ga K "BadSystem") "part" := ⟨exvB_ok v1, He.glo_ok X G (c.fact 14 (f := .glo "BadSystem") rfl), noS, _, fd_bs, _, He.eqO_ok ia1, of_decide_eq_true ia2, ok_E1 (P := P) (w := w) (mg := mg) (base := base) F_bs (exvB_ok v1).ox noS, F_bs.binds fun _ _ _ _ _ _ us hl => match us, hl with | [_, _], _ => rfl⟩
  have EBL : Er1 P w K mg base "BadLine" (He.ga K "BadLine") "number" := ⟨exvB_ok v2, He.glo_ok X G (c.fact 15 (f := .glo "BadLine") rfl), noL, _, fd_bl, _, He.eqO_ok ib1, of_decide_eq_true ib2, ok_E2 (P := P) (w := w) (mg := mg) (base := base) F_bl (exvB_ok v2).ox noL, F_bl.binds fun _ _ _ _ _ _ us hl => match us, hl with | [_, _], _ => rfl⟩
  have k_hand : Cl P w K mg base CX0 1 "_law_hand" _ fd__law_hand ["_law_script"] (spHand K) := ⟨ok_hand F__law_hand T, B__law_hand, M__law_hand, F__law_hand.kp⟩
  have k_draw : Cl P w K mg base CX0 1 "_law_draw" _ fd__law_draw ["_law_hand_here", "_law_many"] spDraw := ⟨ok_draw F__law_draw T, B__law_draw, M__law_draw, F__law_draw.kp⟩
  have k_any : Cl P w K mg base CX0 2 "_law_any" _ fd__law_any ["_law_hand_here", "_law_things"] (spAny K) := ⟨ok_any F__law_any T k_draw, B__law_any, M__law_any, F__law_any.kp⟩
  have k_size : Cl P w K mg base CX0 3 "_law_size" _ fd__law_size ["_law_hand_here"] spSize := ⟨ok_size F__law_size k_draw k_any, B__law_size, M__law_size, F__law_size.kp⟩
  have k_low : Cl P w K mg base CX0 34 "_law_low" _ fd__law_low ["_law_top", "_law_bottom"] spLow := ⟨ok_low F__law_low T LG, B__law_low, M__law_low, F__law_low.kp⟩
  have k_shares : Cl P w K mg base CX0 35 "_law_shares" _ fd__law_shares ["_law_hand_here", "_law_many"] (spShares K) := ⟨ok_shares F__law_shares T k_draw k_any k_low, B__law_shares, M__law_shares, F__law_shares.kp⟩
  have k_leads : Cl P w K mg base CX0 3 "_law_leads" _ fd__law_leads ["_law_hand_here", "_law_many"] (spLeads K) := ⟨ok_leads F__law_leads T k_draw k_any, B__law_leads, M__law_leads, F__law_leads.kp⟩
  have k_moves : Cl P w K mg base CX0 36 "_law_moves" _ fd__law_moves ["_law_hand_here", "_law_many", "_law_most"] (spMovesN K) := ⟨ok_moves F__law_moves T k_draw k_shares k_leads, B__law_moves, M__law_moves, F__law_moves.kp⟩
  have k_text : Cl P w K mg base CX0 1 "_law_text" _ fd__law_text ["_law_many", "_law_moves_here"] (spLText K) := ⟨ok_text F__law_text T, B__law_text, M__law_text, F__law_text.kp⟩
  have k_isint : Cl P w K mg base CX0 1 "is_integer" _ fd_is_integer ["thing"] (spIsInt K) := ⟨ok_isint F_is_integer T, B_is_integer, M_is_integer, F_is_integer.kp⟩
  have k_within : Cl P w K mg base CX0 2 "is_within" _ fd_is_within ["low", "high", "thing"] (spWithin K) := ⟨ok_within F_is_within k_isint, B_is_within, M_is_within, F_is_within.kp⟩
  have k_frac : Cl P w K mg base CX0 2 "is_fraction" _ fd_is_fraction ["thing"] (spFrac K) := ⟨ok_frac F_is_fraction T k_isint, B_is_fraction, M_is_fraction, F_is_fraction.kp⟩
  have k_rowb : Cl P w K mg base CX0 3 "is_row_below" _ fd_is_row_below ["bound", "thing"] (spRowB K) := ⟨ok_rowb F_is_row_below T k_within, B_is_row_below, M_is_row_below, F_is_row_below.kp⟩
  have k_move : Cl P w K mg base CX0 4 "is_move" _ fd_is_move ["many", "thing"] (spMove K) := ⟨ok_move F_is_move T k_frac k_rowb, B_is_move, M_is_move, F_is_move.kp⟩
  have k_comb : Cl P w K mg base CX0 1 "common_bottom" _ fd_common_bottom ["fractions"] (spComB K) := ⟨ok_comb F_common_bottom T, B_common_bottom, M_common_bottom, F_common_bottom.kp⟩
  have k_tops : Cl P w K mg base CX0 1 "tops_over" _ fd_tops_over ["fractions", "bottom"] (spTops K) := ⟨ok_tops F_tops_over, B_tops_over, M_tops_over, F_tops_over.kp⟩
  have k_one : Cl P w K mg base CX0 2 "are_one_together" _ fd_are_one_together ["fractions"] (spOne K) := ⟨ok_one F_are_one_together T k_comb k_tops, B_are_one_together, M_are_one_together, F_are_one_together.kp⟩
  have g_sinit := ok_sinit (P := P) (w := w) (base := base) F_System___init__ T Y k_within k_move k_one
  have k_number_text : Cl P w K mg base CX0 1 "number_text" _ fd_number_text ["number"] spNumT := ⟨ok_number_text F_number_text T, B_number_text, M_number_text, F_number_text.kp⟩
  have k_fraction_text : Cl P w K mg base CX0 2 "fraction_text" _ fd_fraction_text ["share"] (spFracT K) := ⟨ok_fraction_text F_fraction_text T k_number_text, B_fraction_text, M_fraction_text, F_fraction_text.kp⟩
  have k_system_text : Cl P w K mg base CX0 3 "system_text" _ fd_system_text ["system"] (spSysText K (He.ga K "System")) := ⟨ok_system_text F_system_text T k_fraction_text Y, B_system_text, M_system_text, F_system_text.kp⟩
  have k_number_of_text : Cl P w K mg base CX0 1 "number_of_text" _ fd_number_of_text ["text"] spNum := ⟨ok_number_of_text F_number_of_text T, B_number_of_text, M_number_of_text, F_number_of_text.kp⟩
  have k_number_behind : Cl P w K mg base CX0 2 "number_behind" _ fd_number_behind ["word", "line"] spHeadB := ⟨ok_number_behind F_number_behind T k_number_of_text, B_number_behind, M_number_behind, F_number_behind.kp⟩
  have k_fracG : Cl P w K mg base CX0 2 "is_fraction" _ fd_is_fraction ["thing"] (spFracG K) := ⟨ok_fracG F_is_fraction T k_isint, B_is_fraction, M_is_fraction, F_is_fraction.kp⟩
  have k_fraction_of_text : Cl P w K mg base CX0 3 "fraction_of_text" _ fd_fraction_of_text ["text"] (spFracO K) := ⟨ok_fraction_of_text F_fraction_of_text T k_number_of_text k_fracG, B_fraction_of_text, M_fraction_of_text, F_fraction_of_text.kp⟩
  have k_numbers_of_text : Cl P w K mg base CX0 2 "numbers_of_text" _ fd_numbers_of_text ["text"] (spNums K) := ⟨ok_numbers_of_text F_numbers_of_text T k_number_of_text, B_numbers_of_text, M_numbers_of_text, F_numbers_of_text.kp⟩
  have k_move_of_line : Cl P w K mg base CX0 4 "move_of_line" _ fd_move_of_line ["line"] (spMoveL K) := ⟨ok_move_of_line F_move_of_line T k_fraction_of_text k_numbers_of_text, B_move_of_line, M_move_of_line, F_move_of_line.kp⟩
  have k_rowI : Cl P w K mg base CX0 3 "is_row_below" _ fd_is_row_below ["bound", "thing"] (spRowI K) := ⟨ok_rowI F_is_row_below T k_within, B_is_row_below, M_is_row_below, F_is_row_below.kp⟩
  have k_moveG : Cl P w K mg base CX0 4 "is_move" _ fd_is_move ["many", "thing"] (spMoveG K) := ⟨ok_moveG F_is_move T k_rowI k_frac, B_is_move, M_is_move, F_is_move.kp⟩
  have g_sinitX := ok_sinitX (P := P) (w := w) (base := base) F_System___init__ T k_within k_moveG k_one Y EBS
  have k_read_system : ClX P w K mg base 7 "read_system" _ fd_read_system ["text"] (spReadS K (He.ga K "System") (He.ga K "BadSystem") (He.ga K "BadLine")) := ⟨ok_read_system F_read_system T k_number_behind k_move_of_line Y EBL MK g_sinitX B_System___init__, B_read_system, M_read_system, F_read_system.kp⟩
  have k_told : Cl P w K mg base CX0 8 "_law_told" _ fd__law_told ["_law_text_here"] (spTold K) := ⟨ok_told F__law_told T Y k_read_system EBS EBL hGD z1 z2 z3 k1 k2 k3, B__law_told, M__law_told, F__law_told.kp⟩
  have k_bent : Cl P w K mg base CX0 3 "_law_bent" _ fd__law_bent ["_law_hand_here", "_law_text_here", "_law_odd"] (spBent K) := ⟨ok_bent F__law_bent T k_draw k_any, B__law_bent, M__law_bent, F__law_bent.kp⟩
  have k_number : Cl P w K mg base CX0 1 "_law_number" _ fd__law_number ["_law_word"] spNumL := ⟨ok_number F__law_number T, B__law_number, M__law_number, F__law_number.kp⟩
  have k_head : Cl P w K mg base CX0 2 "_law_head" _ fd__law_head ["_law_line_here"] spHeadL := ⟨ok_head F__law_head T k_number, B__law_head, M__law_head, F__law_head.kp⟩
  have k_share : Cl P w K mg base CX0 35 "_law_share" _ fd__law_share ["_law_word"] (spShareL K) := ⟨ok_share F__law_share T k_number k_low, B__law_share, M__law_share, F__law_share.kp⟩
  have k_line : Cl P w K mg base CX0 36 "_law_line" _ fd__law_line ["_law_line_here"] (spLineL K) := ⟨ok_line F__law_line T k_share k_number, B__law_line, M__law_line, F__law_line.kp⟩
  have k_plus : Cl P w K mg base CX0 35 "_law_plus" _ fd__law_plus ["_law_one", "_law_other"] (spPlus K) := ⟨ok_plus F__law_plus T k_low, B__law_plus, M__law_plus, F__law_plus.kp⟩
  have k_sumL : Cl P w K mg base CX0 36 "_law_sum" _ fd__law_sum ["_law_some"] (spSumL K) := ⟨ok_sumL F__law_sum T k_plus, B__law_sum, M__law_sum, F__law_sum.kp⟩
  have k_wrong : Cl P w K mg base CX0 37 "_law_wrong" _ fd__law_wrong ["_law_many", "_law_moves_here"] (spWrong K) := ⟨ok_wrong F__law_wrong T k_sumL, B__law_wrong, M__law_wrong, F__law_wrong.kp⟩
  have k_due : Cl P w K mg base CX0 38 "_law_due" _ fd__law_due ["_law_text_here"] (spDue K) := ⟨ok_due F__law_due T k_head k_line k_wrong, B__law_due, M__law_due, F__law_due.kp⟩
  have k_deep : Cl P w K mg base CX0 2 "_law_deep" _ fd__law_deep ["_law_hand_here"] (spNS K) := ⟨ok_deep F__law_deep T k_draw, B__law_deep, M__law_deep, F__law_deep.kp⟩
  have g_seq := ok_seq (P := P) (w := w) (base := base) F_System___eq__ T Y
  exact ok_law F_law T k_hand k_size k_moves k_draw k_text MK g_sinit B_System___init__ Y k_system_text k_told k_bent k_any k_due k_deep k_read_system g_seq ME.at_ ME.fn B_System___eq__ kS
end
end Law
open PySem PySem.W PySem.Calls PyProof.Rows
theorem PySem.Challenge.cw_asifforever_k03_whole_system_texts_holds : PySem.Challenge.rw_asifforever_k03_whole_system_texts.Holds := by
  w_on; o_law
  refine HandSHeadRun.head_imp (r := OpenLaw.row PySem.Challenge.rw_asifforever_k03_whole_system_texts) (q := view (OpenLaw.row PySem.Challenge.rw_asifforever_k03_whole_system_texts).prog [0, 46]) (H := Law.hk) (ob := Law.ob) (M := 13000) (loose := Law.names) (d := HandSHeadRun.topDef (OpenLaw.row PySem.Challenge.rw_asifforever_k03_whole_system_texts).prog 46) (kwd := []) Law.ob_eq
    Law.run (by kernel_rfl) (by kernel_rfl) (by kernel_rfl) (by rfl) (by first | assumption | decide +kernel) (by decide +kernel) ⟨rfl, rfl, rfl, rfl, rfl, by decide +kernel⟩ ?hw ?hc
  case hw => w_witness2
  case hc =>
    refine L2.walk_ofE (l := PySem.Challenge.rw_asifforever_k03_whole_system_texts) (n := 63) (k := 39) (x := "_law_script") (CX := L2.CX0) rfl (by decide) (by kernel_rfl) ⟨rfl, by decide, by decide⟩ ?F (fun _ _ _ _ z => z)
    intro w mg fa h Y G hmg0
    obtain ⟨K, KX, c, e⟩ := Y
    have hmg : mg ("law" : PySem.Str) = some (.ref fa) := by
      have e : (HandSHeadRun.topDef (OpenLaw.row PySem.Challenge.rw_asifforever_k03_whole_system_texts).prog 46).name = ("law" : PySem.Str) := by kernel_rfl
      rw [← e]
      exact hmg0
    obtain ⟨fd, hb, hF⟩ := Law.facts (P := (PySem.Challenge.rw_asifforever_k03_whole_system_texts).prog) (w := w) (by rfl) KX G hmg c e
    exact ⟨K, fd, Law.spLaw K, KX, hb, fun H a ns hl _ hS => ⟨a, ns, rfl, hS, hl, fun _ => rfl⟩, hF⟩

