import PyProof.Rows.All
import Wide.All
import OpenK.AllK
import Wide.FinOn
import KE.KExcIs
import HandS.ForMost
import HandS.Evl
import HandS.IsInst
import HandS.ExcInit
import HandS.ExcIs
import HandS.DeepEq
import HandS.OwnEq
import HandS.SetFor
import KE.GoesMore
import PyProof.Draws
import HandS.Walk
import HandS.Wide
import HandS.Gcd
import KE.KStateDown
import HandS.Defaults
import HandS.Head0
import HandS.Head1
import HandS.Head2
import HandS.Head3
import HandS.HeadEnd
import HandS.HeadHook1
import HandS.HeadHook2
import PyProof.NoPylong
import HandS.Conv
import HandS.TupMul
import HandS.TupAny
import HandS.Strs
import HandS.List
import PySem.Challenge.RW_asifforever_k01_whole_rows_led
set_option Elab.async false
set_option linter.all false
set_option maxRecDepth 100000
set_option maxHeartbeats 4000000
set_option exponentiation.threshold 200000
namespace Law
open PySem L2
def top (i : Nat) : Stmt := PySem.Challenge.pw_asifforever_k01_whole_rows_led.main.body.getD i (.Pass ⟨0, 0, 0, 0⟩)
abbrev s_is_integer : Stmt := top 2
abbrev s_is_within : Stmt := top 3
abbrev s_is_row_below : Stmt := top 4
abbrev s_is_fraction : Stmt := top 5
abbrev s_fraction : Stmt := top 6
abbrev s_common_bottom : Stmt := top 7
abbrev s_tops_over : Stmt := top 8
abbrev s_are_one_together : Stmt := top 9
abbrev s_BadSystem_init : Stmt := inClass (top 12) 0
abbrev s_NoRow_init : Stmt := inClass (top 13) 0
abbrev s_NoState_init : Stmt := inClass (top 14) 0
abbrev s_System_init : Stmt := inClass (top 16) 0
abbrev s_System_eq : Stmt := inClass (top 16) 1
abbrev s_is_move : Stmt := top 17
abbrev s_is_row : Stmt := top 18
abbrev s_led : Stmt := top 19
abbrev s_led_all : Stmt := top 20
abbrev s_lot_behind : Stmt := top 21
abbrev s_share_of : Stmt := top 22
abbrev s_law_hand : Stmt := top 24
abbrev s_law_draw : Stmt := top 25
abbrev s_law_any : Stmt := top 26
abbrev s_law_low : Stmt := top 27
abbrev s_law_times : Stmt := top 28
abbrev s_law_shares : Stmt := top 29
abbrev s_law_leads : Stmt := top 30
abbrev s_law_moves : Stmt := top 31
abbrev s_law_size : Stmt := top 32
abbrev s_law_gone : Stmt := top 33
abbrev s_law_row : Stmt := top 34
abbrev s_law_share : Stmt := top 35
abbrev s_law_is_right : Stmt := top 36
abbrev s_law : Stmt := top 37
end Law
namespace L2
open PySem PySem.Spec PyProof.Rows
/-! ### // where a quotient of great ints may go by the long way -/
def CPos (_ j : Int) : Prop := 0 < j
/-- from a fragment's facts -/
def strD : DictEntry → Bool := fun e => match e.key with
  | .str _ _ => true
  | _ => false
def nsB (K : PySem.W.Frag) (a : Addr) (no : List Str) : Bool := match K.lookup a with
  | some ⟨_, _, .dict es _, _⟩ => es.toList.all strD && no.all fun x => (nsFind es x).isNone
  | _ => false
theorem ns_of {K : PySem.W.Frag} {h : Heap} {a : Addr} {no : List Str} (x : K.In h) (e : nsB K a no = true) : ∃ m, h.Ns a m ∧ ∀ y ∈ no, m y = none := by
  unfold nsB at e
  split at e
  · rename_i c d es n sl ho
    obtain ⟨e1, e2⟩ := Bool.and_eq_true_iff.mp e
    refine ⟨fun y => nsFind es y, ⟨_, es, n, x _ _ ho, rfl, fun z hz => ?_, fun _ => rfl⟩, fun y hy => ?_⟩
    · have q := List.all_eq_true.mp e1 z (Array.mem_toList_iff.mpr hz)
      unfold strD at q
      split at q
      · rename_i n t hk
        exact ⟨n, t, hk⟩
      · cases q
    · exact Option.isNone_iff_eq_none.mp (List.all_eq_true.mp e2 y hy)
  · cases e
def bmOf (K : PySem.W.Frag) : Addr := match PySem.W.nsIn K mainGlobals "__builtins__" with
  | some (some (.ref b)) => b
  | _ => 0
def modB (K : PySem.W.Frag) : Bool := match K.lookup mainGlobals with
  | some ⟨_, _, .dict es _, _⟩ => es.toList.all strD && (match nsFind es "__builtins__" with
    | some (.ref b) => (match K.lookup b with
      | some o => decide (o.cls = .type "module") && decide (o.dict = some builtinsNs)
      | _ => false)
    | _ => false)
  | _ => false
def seerB (K : PySem.W.Frag) : Bool := nsB K cStatics ["sys.audit-hooks", "sys.dict"] && (nsB K sysModules ["_pylong"] && modB K)
theorem seer_of {K : PySem.W.Frag} {mg : Str → Option Value} {base : Heap} (M : Mod K mg base) (e : seerB K = true) : base.NoSeer := by
  obtain ⟨e1, e2⟩ := Bool.and_eq_true_iff.mp e
  obtain ⟨e2, e3⟩ := Bool.and_eq_true_iff.mp e2
  obtain ⟨m1, n1, h1⟩ := ns_of M.kin e1
  obtain ⟨m2, n2, h2⟩ := ns_of M.kin e2
  refine ⟨⟨m1, n1, h1 _ List.mem_cons_self, h1 _ (List.mem_cons_of_mem _ List.mem_cons_self)⟩, ⟨m2, n2, h2 _ List.mem_cons_self⟩, M.blt, ?_⟩
  unfold modB at e3
  split at e3
  · rename_i c d es n sl ho
    obtain ⟨e4, e5⟩ := Bool.and_eq_true_iff.mp e3
    split at e5
    · rename_i b hb
      split at e5
      · rename_i o hbo
        obtain ⟨e6, e7⟩ := Bool.and_eq_true_iff.mp e5
        refine ⟨fun y => nsFind es y, b, o, ⟨_, es, n, M.kin _ _ ho, rfl, fun z hz => ?_, fun _ => rfl⟩, hb, M.kin _ _ hbo, of_decide_eq_true e6, of_decide_eq_true e7⟩
        have q := List.all_eq_true.mp e4 z (Array.mem_toList_iff.mpr hz)
        unfold strD at q
        split at q
        · rename_i n t hk
          exact ⟨n, t, hk⟩
        · cases q
      · cases e5
    · cases e5
  · cases e3
/-- a context whose frame is uppermost, with room -/
structure Hi (X : Cx) : Prop where
  seer : seerB X.K = true
  tree : X.prog.given.tree = none
  dp : X.A.depth + Builtin.pylongFrames < recursionLimit
  st : X.stack = X.env :: X.outer
  gen : X.env.scope.isGenerator = false
  co : X.env.scope.isCoroutine = false
theorem op_fdivB {X : Cx} (h : Hi X) : OpR X (binaryOp .FloorDiv) (rI CPos fun i j => .int (i / j)) := by
  intro pins s σ H x y v u Q I rx ry hh
  obtain ⟨i, j, rfl, rfl, hc, q⟩ := hh
  obtain ⟨t, rfl⟩ := rx
  obtain ⟨t', rfl⟩ := ry
  have h1 : (0 : Int) < j := hc
  have hN : s.heap.NoSeer := (seer_of I.ok.mod h.seer).keeps I.bk
  have hfr : X.A.frames = some (X.env :: X.outer) := by rw [I.ok.frames, h.st]
  have hS : PySem.SeerAt (model X.prog X.w) X.A s.heap := PySem.SeerAt.of hN h.tree hfr h.gen h.co I.ok.blt I.ok.glob
  exact floordiv_int (by omega) (by rw [Int.fdiv_eq_ediv_of_nonneg i (by omega)]; exact ⟨.int (i / j), H, I.tok _, ⟨_, rfl⟩, q⟩) (.inr (PySem.PylongRoom.of I.nolimit h.dp hS))
end L2
namespace Law
open PySem PySem.Spec PyProof.Rows L2
/-! ### the head's Hook: facts of K by names, and one more Bool -/
/-- the addresses that are looked at: the module, what it leads to, and the three that a division may ask for -/
def asE (g : Addr → Option Obj) (n : Nat) : List Addr := sysModules :: cStatics :: bmOf (He.frG g [mainGlobals]) :: He.asD g n
abbrev AlM : Type := He.AlD × Bool
def obsM (n : Nat) (fa : List He.Fa) (fn : List He.DefD) (ex : PySem.W.Frag → Bool) (g : Addr → Option Obj) : AlM := (He.obsD fa fn (He.frG g (asE g n)), ex (He.frG g (asE g n)))
def hookM (n : Nat) (fa : List He.Fa) (fn : List He.DefD) (ex : PySem.W.Frag → Bool) : PySem.W.Hook where
  α := AlM
  obs := fun s => obsM n fa fn ex s.heap.get?
  val := fun _ => (He.valD fn, true)
  says := fun _ h => ∃ K : PySem.W.Frag, K.In h ∧ He.SaysD fa fn K ∧ ex K = true
  of := fun _ _ e => ⟨_, He.frG_in, congrArg (fun z : AlM => z.1) e, congrArg (fun z : AlM => z.2) e⟩
  keeps := fun _ _ _ ⟨K, hK, c⟩ k => ⟨K, PySem.W.Frag.In.keeps hK k, c⟩
theorem obsM_eq {n : Nat} {fa : List He.Fa} {fn : List He.DefD} {ex : PySem.W.Frag → Bool} {g : Addr → Option Obj} {s : Shared} (h : ∀ a, g a = s.heap.get? a) : obsM n fa fn ex g = (hookM n fa fn ex).obs s := by
  have e : g = s.heap.get? := funext h
  rw [e] <;> rfl
theorem funD_fun {K : PySem.W.Frag} {x qual : Str} {st : Stmt} {f : Addr} {fd : FuncData} (F : FunD K x qual (defArgs st) (defBody st) (defScope st) [] [] f fd) : Fun K x qual st f fd := by
  obtain ⟨⟨oc, od, dV, kV, doc, pm, an, cdv, ct, osl, h1, h2, h3, h4, _⟩, kp⟩ := F
  rcases h4 with ⟨_, rfl⟩ | ⟨h, _⟩
  · exact ⟨⟨oc, od, kV, doc, pm, an, cdv, ct, osl, h1, h2, h3⟩, kp⟩
  · exact absurd rfl h
end Law
namespace Law
open PySem PySem.Spec PyProof.Rows L2
def optT (o : Option Bool) : Bool := match o with
  | some b => b
  | none => false
/-- an own plain class's instances are asked for their class as usual -/
def insB (K : PySem.W.Frag) (C : Addr) : Bool := He.eqO (PySem.W.findIn K (.ref C) "__class__") (some (some (.builtin "object.__class__"))) && (He.eqO (PySem.W.specialIn K (.builtin "object.__class__") "__get__") (some (some (.builtin "getset_descriptor.__get__"))) && (optT (PySem.W.takesIn K (.builtin "object.__class__")) && optT (PySem.W.mroIn K C (.type "object"))))
def gclB (K : PySem.W.Frag) : Bool := He.eqO (PySem.W.nsIn K mainGlobals "gcd") (some (some (.builtin "math.gcd"))) && He.eqO (PySem.W.nsIn K mainGlobals "lcm") (some (some (.builtin "math.lcm")))
def exK (K : PySem.W.Frag) : Bool := gclB K && (insB K (He.ga K "System") && (seerB K && (decide (PySem.W.kitOne K (.type "tuple") (.ref (He.ga K "System")) = some false) && PySem.W.notFirst K (He.ga K "System") (.type "tuple"))))
end Law
set_option maxHeartbeats 0
namespace Law
open PySem PySem.Spec PyProof.Rows L2
def fns : List He.DefD := [
  ⟨("is_integer", none), "is_integer", "is_integer", defArgs s_is_integer, defBody s_is_integer, defScope s_is_integer, [], []⟩,
  ⟨("is_within", none), "is_within", "is_within", defArgs s_is_within, defBody s_is_within, defScope s_is_within, [], []⟩,
  ⟨("is_row_below", none), "is_row_below", "is_row_below", defArgs s_is_row_below, defBody s_is_row_below, defScope s_is_row_below, [], []⟩,
  ⟨("is_fraction", none), "is_fraction", "is_fraction", defArgs s_is_fraction, defBody s_is_fraction, defScope s_is_fraction, [], []⟩,
  ⟨("fraction", none), "fraction", "fraction", defArgs s_fraction, defBody s_fraction, defScope s_fraction, [], []⟩,
  ⟨("common_bottom", none), "common_bottom", "common_bottom", defArgs s_common_bottom, defBody s_common_bottom, defScope s_common_bottom, [], []⟩,
  ⟨("tops_over", none), "tops_over", "tops_over", defArgs s_tops_over, defBody s_tops_over, defScope s_tops_over, [], []⟩,
  ⟨("are_one_together", none), "are_one_together", "are_one_together", defArgs s_are_one_together, defBody s_are_one_together, defScope s_are_one_together, [], []⟩,
  ⟨("BadSystem", some "__init__"), "__init__", "BadSystem.__init__", defArgs s_BadSystem_init, defBody s_BadSystem_init, defScope s_BadSystem_init, [], []⟩,
  ⟨("NoRow", some "__init__"), "__init__", "NoRow.__init__", defArgs s_NoRow_init, defBody s_NoRow_init, defScope s_NoRow_init, [], []⟩,
  ⟨("NoState", some "__init__"), "__init__", "NoState.__init__", defArgs s_NoState_init, defBody s_NoState_init, defScope s_NoState_init, [], []⟩,
  ⟨("System", some "__init__"), "__init__", "System.__init__", defArgs s_System_init, defBody s_System_init, defScope s_System_init, [], []⟩,
  ⟨("System", some "__eq__"), "__eq__", "System.__eq__", defArgs s_System_eq, defBody s_System_eq, defScope s_System_eq, [], []⟩,
  ⟨("is_move", none), "is_move", "is_move", defArgs s_is_move, defBody s_is_move, defScope s_is_move, [], []⟩,
  ⟨("is_row", none), "is_row", "is_row", defArgs s_is_row, defBody s_is_row, defScope s_is_row, [], []⟩,
  ⟨("led", none), "led", "led", defArgs s_led, defBody s_led, defScope s_led, [], []⟩,
  ⟨("led_all", none), "led_all", "led_all", defArgs s_led_all, defBody s_led_all, defScope s_led_all, [], []⟩,
  ⟨("lot_behind", none), "lot_behind", "lot_behind", defArgs s_lot_behind, defBody s_lot_behind, defScope s_lot_behind, [], []⟩,
  ⟨("share_of", none), "share_of", "share_of", defArgs s_share_of, defBody s_share_of, defScope s_share_of, [], []⟩,
  ⟨("_law_hand", none), "_law_hand", "_law_hand", defArgs s_law_hand, defBody s_law_hand, defScope s_law_hand, [], []⟩,
  ⟨("_law_draw", none), "_law_draw", "_law_draw", defArgs s_law_draw, defBody s_law_draw, defScope s_law_draw, [], []⟩,
  ⟨("_law_any", none), "_law_any", "_law_any", defArgs s_law_any, defBody s_law_any, defScope s_law_any, [], []⟩,
  ⟨("_law_low", none), "_law_low", "_law_low", defArgs s_law_low, defBody s_law_low, defScope s_law_low, [], []⟩,
  ⟨("_law_times", none), "_law_times", "_law_times", defArgs s_law_times, defBody s_law_times, defScope s_law_times, [], []⟩,
  ⟨("_law_shares", none), "_law_shares", "_law_shares", defArgs s_law_shares, defBody s_law_shares, defScope s_law_shares, [], []⟩,
  ⟨("_law_leads", none), "_law_leads", "_law_leads", defArgs s_law_leads, defBody s_law_leads, defScope s_law_leads, [], []⟩,
  ⟨("_law_moves", none), "_law_moves", "_law_moves", defArgs s_law_moves, defBody s_law_moves, defScope s_law_moves, [], []⟩,
  ⟨("_law_size", none), "_law_size", "_law_size", defArgs s_law_size, defBody s_law_size, defScope s_law_size, [], []⟩,
  ⟨("_law_gone", none), "_law_gone", "_law_gone", defArgs s_law_gone, defBody s_law_gone, defScope s_law_gone, [], []⟩,
  ⟨("_law_row", none), "_law_row", "_law_row", defArgs s_law_row, defBody s_law_row, defScope s_law_row, [], []⟩,
  ⟨("_law_share", none), "_law_share", "_law_share", defArgs s_law_share, defBody s_law_share, defScope s_law_share, [], []⟩,
  ⟨("_law_is_right", none), "_law_is_right", "_law_is_right", defArgs s_law_is_right, defBody s_law_is_right, defScope s_law_is_right, [], []⟩,
  ⟨("law", none), "law", "law", defArgs s_law, defBody s_law, defScope s_law, [], []⟩]
def fas : List He.Fa := [
  .glo "is_integer", .glo "is_within", .glo "is_row_below", .glo "is_fraction", .glo "fraction", .glo "common_bottom", .glo "tops_over", .glo "are_one_together", .glo "DrawError", .glo "BadSystem", .glo "NoRow", .glo "NoState", .glo "System", .glo "is_move", .glo "is_row", .glo "led", .glo "led_all", .glo "lot_behind", .glo "share_of", .glo "_law_hand", .glo "_law_draw", .glo "_law_any", .glo "_law_low", .glo "_law_times", .glo "_law_shares", .glo "_law_leads", .glo "_law_moves", .glo "_law_size", .glo "_law_gone", .glo "_law_row", .glo "_law_share", .glo "_law_is_right", .glo "law", .free "ValueError", .free "abs", .free "all", .free "any", .free "bool", .free "enumerate", .free "int", .free "isinstance", .free "len", .free "list", .free "range", .free "set", .free "sorted", .free "sum", .free "tuple", .cls "System", .noat "System" "many", .noat "System" "moves", .mkr "System", .meth "System" "__eq__"]
-- defs: 0 is_integer, 1 is_within, 2 is_row_below, 3 is_fraction, 4 fraction, 5 common_bottom, 6 tops_over, 7 are_one_together, 8 BadSystem.__init__, 9 NoRow.__init__, 10 NoState.__init__, 11 System.__init__, 12 System.__eq__, 13 is_move, 14 is_row, 15 led, 16 led_all, 17 lot_behind, 18 share_of, 19 _law_hand, 20 _law_draw, 21 _law_any, 22 _law_low, 23 _law_times, 24 _law_shares, 25 _law_leads, 26 _law_moves, 27 _law_size, 28 _law_gone, 29 _law_row, 30 _law_share, 31 _law_is_right, 32 law
-- facts: 0 .glo "is_integer", 1 .glo "is_within", 2 .glo "is_row_below", 3 .glo "is_fraction", 4 .glo "fraction", 5 .glo "common_bottom", 6 .glo "tops_over", 7 .glo "are_one_together", 8 .glo "DrawError", 9 .glo "BadSystem", 10 .glo "NoRow", 11 .glo "NoState", 12 .glo "System", 13 .glo "is_move", 14 .glo "is_row", 15 .glo "led", 16 .glo "led_all", 17 .glo "lot_behind", 18 .glo "share_of", 19 .glo "_law_hand", 20 .glo "_law_draw", 21 .glo "_law_any", 22 .glo "_law_low", 23 .glo "_law_times", 24 .glo "_law_shares", 25 .glo "_law_leads", 26 .glo "_law_moves", 27 .glo "_law_size", 28 .glo "_law_gone", 29 .glo "_law_row", 30 .glo "_law_share", 31 .glo "_law_is_right", 32 .glo "law", 33 .free "ValueError", 34 .free "abs", 35 .free "all", 36 .free "any", 37 .free "bool", 38 .free "enumerate", 39 .free "int", 40 .free "isinstance", 41 .free "len", 42 .free "list", 43 .free "range", 44 .free "set", 45 .free "sorted", 46 .free "sum", 47 .free "tuple", 48 .cls "System", 49 .noat "System" "many", 50 .noat "System" "moves", 51 .mkr "System", 52 .meth "System" "__eq__"
def names0 : List PySem.Str := ["is_integer", "is_within", "is_row_below", "is_fraction", "fraction", "common_bottom", "tops_over", "are_one_together", "DrawError", "BadSystem", "NoRow", "NoState"]
def names1 : List PySem.Str := ["System", "is_move", "is_row", "led", "led_all", "lot_behind", "share_of", "_law_hand", "_law_draw", "_law_any", "_law_low", "_law_times"]
def names2 : List PySem.Str := ["_law_shares", "_law_leads", "_law_moves", "_law_size", "_law_gone", "_law_row", "_law_share", "_law_is_right"]
def names : List PySem.Str := names0 ++ names1 ++ names2
abbrev R : PySem.W.OpenRow := PySem.W.OpenLaw.row PySem.Challenge.rw_asifforever_k01_whole_rows_led
abbrev hk : PySem.W.Hook := hookM 4 fas fns exK
def ob (s : PySem.W.SharedT) : AlM := obsM 4 fas fns exK (HandSHeadRun.getT s)
theorem ob_eq (s : PySem.W.SharedT) : ob s = hk.obs s.abs := obsM_eq (HandSHeadRun.getT_eq s)
theorem run (w : World) : HandSHeadRun.RunEqI R (PySem.W.view R.prog [0, 37]) hk ob 13000 names w := by
  unfold HandSHeadRun.RunEqI
  kernel_rfl
end Law
set_option maxHeartbeats 4000000
namespace Law
open PySem L2
theorem sne {x y : Str} (h : ¬ x = y) : ¬ ((Sum.inr x : Key) = Sum.inr y) := fun z => h (Sum.inr.inj z)
theorem n01 : ¬ ((Sum.inr ("cells" : Str) : Key) = Sum.inr ("at" : Str)) := sne (by decide +kernel)
theorem n02 : ¬ ((Sum.inr ("cells" : Str) : Key) = Sum.inr ("great" : Str)) := sne (by decide +kernel)
theorem n03 : ¬ ((Sum.inr ("cells" : Str) : Key) = Sum.inr ("seed" : Str)) := sne (by decide +kernel)
theorem n04 : ¬ ((Sum.inr ("cells" : Str) : Key) = Sum.inr ("turn" : Str)) := sne (by decide +kernel)
theorem n12 : ¬ ((Sum.inr ("at" : Str) : Key) = Sum.inr ("great" : Str)) := sne (by decide +kernel)
theorem n13 : ¬ ((Sum.inr ("at" : Str) : Key) = Sum.inr ("seed" : Str)) := sne (by decide +kernel)
theorem n14 : ¬ ((Sum.inr ("at" : Str) : Key) = Sum.inr ("turn" : Str)) := sne (by decide +kernel)
theorem n23 : ¬ ((Sum.inr ("great" : Str) : Key) = Sum.inr ("seed" : Str)) := sne (by decide +kernel)
theorem n24 : ¬ ((Sum.inr ("great" : Str) : Key) = Sum.inr ("turn" : Str)) := sne (by decide +kernel)
theorem n34 : ¬ ((Sum.inr ("seed" : Str) : Key) = Sum.inr ("turn" : Str)) := sne (by decide +kernel)
/-- the hand's dict: its cells' list, and its four ints -/
def hdK (ca : Addr) (a g s t : Int) : List (Key × V) :=
  [(Sum.inr ("cells" : Str), .ref ca), (Sum.inr ("at" : Str), .int a), (Sum.inr ("great" : Str), .int g), (Sum.inr ("seed" : Str), .int s), (Sum.inr ("turn" : Str), .int t)]
section
variable (ca : Addr) (a g s t x : Int)
theorem get_cells : valV (hdK ca a g s t) (Sum.inr ("cells" : Str)) = some (.ref ca) := valV_pos rfl
theorem get_at : valV (hdK ca a g s t) (Sum.inr ("at" : Str)) = some (.int a) := (valV_neg n01).trans (valV_pos rfl)
theorem get_great : valV (hdK ca a g s t) (Sum.inr ("great" : Str)) = some (.int g) := (valV_neg n02).trans ((valV_neg n12).trans (valV_pos rfl))
theorem get_seed : valV (hdK ca a g s t) (Sum.inr ("seed" : Str)) = some (.int s) := (valV_neg n03).trans ((valV_neg n13).trans ((valV_neg n23).trans (valV_pos rfl)))
theorem get_turn : valV (hdK ca a g s t) (Sum.inr ("turn" : Str)) = some (.int t) := (valV_neg n04).trans ((valV_neg n14).trans ((valV_neg n24).trans ((valV_neg n34).trans (valV_pos rfl))))
theorem put_of {kvs : List (Key × V)} {k : Key} {v w : V} (h : valV kvs k = some w) : putK kvs k v = kvs.map (fun kv => if kv.1 = k then (kv.1, v) else kv) := by
  unfold putK
  rw [if_pos (by rw [valV_any, h]; rfl)]
theorem put_at : putK (hdK ca a g s t) (Sum.inr ("at" : Str)) (.int x) = hdK ca x g s t := by
  rw [put_of (get_at ca a g s t)]
  simp only [hdK, List.map_cons, List.map_nil, n01, if_neg, if_false, if_true, n12, n13, n14, Ne.symm n12, Ne.symm n13, Ne.symm n14, not_false_eq_true]
theorem put_great : putK (hdK ca a g s t) (Sum.inr ("great" : Str)) (.int x) = hdK ca a x s t := by
  rw [put_of (get_great ca a g s t)]
  simp only [hdK, List.map_cons, List.map_nil, if_neg, if_false, if_true, n02, n12, Ne.symm n23, Ne.symm n24, not_false_eq_true]
theorem put_seed : putK (hdK ca a g s t) (Sum.inr ("seed" : Str)) (.int x) = hdK ca a g x t := by
  rw [put_of (get_seed ca a g s t)]
  simp only [hdK, List.map_cons, List.map_nil, if_neg, if_false, if_true, n03, n13, n23, Ne.symm n34, not_false_eq_true]
theorem put_turn : putK (hdK ca a g s t) (Sum.inr ("turn" : Str)) (.int x) = hdK ca a g s x := by
  rw [put_of (get_turn ca a g s t)]
  simp only [hdK, List.map_cons, List.map_nil, if_neg, if_false, if_true, n04, n14, n24, n34, not_false_eq_true]
end
section
variable {H : Hp} {p ca : Addr} {a g s t : Int} (h : H p = some (.dK (hdK ca a g s t)))
include h
theorem gt_cells : DGet H p (.str "cells") (some (.ref ca)) := by
  have q := DGet.k (k := Sum.inr ("cells" : Str)) h
  rw [get_cells] at q
  exact q
theorem gt_at : DGet H p (.str "at") (some (.int a)) := by
  have q := DGet.k (k := Sum.inr ("at" : Str)) h
  rw [get_at] at q
  exact q
theorem gt_great : DGet H p (.str "great") (some (.int g)) := by
  have q := DGet.k (k := Sum.inr ("great" : Str)) h
  rw [get_great] at q
  exact q
theorem gt_seed : DGet H p (.str "seed") (some (.int s)) := by
  have q := DGet.k (k := Sum.inr ("seed" : Str)) h
  rw [get_seed] at q
  exact q
theorem gt_turn : DGet H p (.str "turn") (some (.int t)) := by
  have q := DGet.k (k := Sum.inr ("turn" : Str)) h
  rw [get_turn] at q
  exact q
theorem pt_at (x : Int) : DPut H p (.str "at") (.int x) (upd H p (.dK (hdK ca x g s t))) := by
  have q := DPut.k (k := Sum.inr ("at" : Str)) (v := .int x) h (show 5 < sizeLine by decide)
  rw [put_at] at q
  exact q
theorem pt_great (x : Int) : DPut H p (.str "great") (.int x) (upd H p (.dK (hdK ca a x s t))) := by
  have q := DPut.k (k := Sum.inr ("great" : Str)) (v := .int x) h (show 5 < sizeLine by decide)
  rw [put_great] at q
  exact q
theorem pt_seed (x : Int) : DPut H p (.str "seed") (.int x) (upd H p (.dK (hdK ca a g x t))) := by
  have q := DPut.k (k := Sum.inr ("seed" : Str)) (v := .int x) h (show 5 < sizeLine by decide)
  rw [put_seed] at q
  exact q
theorem pt_turn (x : Int) : DPut H p (.str "turn") (.int x) (upd H p (.dK (hdK ca a g s x))) := by
  have q := DPut.k (k := Sum.inr ("turn" : Str)) (v := .int x) h (show 5 < sizeLine by decide)
  rw [put_turn] at q
  exact q
end
/-- a hand stands at p -/
def HandAt (H : Hp) (p : Addr) : Prop := ∃ (ca : Addr) (cells : List Int) (a : Nat) (g s t : Int), H p = some (.dK (hdK ca a g s t)) ∧ H ca = some (.lst (cells.map V.int)) ∧ cells.length ≤ 63 ∧ a ≤ cells.length ∧ (∀ c ∈ cells, 0 ≤ c) ∧ 0 ≤ g ∧ 0 ≤ s ∧ 0 ≤ t
/-- its cells stand at c -/
def CellOf (H : Hp) (p c : Addr) : Prop := ∃ a g s t, H p = some (.dK (hdK c a g s t))
/-- what a draw may do: the hand stands again, nothing else has changed -/
structure Stp (p : Addr) (H H' : Hp) : Prop where
  keep : ∀ b o, b ≠ p → H b = some o → H' b = some o
  cell : ∀ c, CellOf H p c → CellOf H' p c
  hand : HandAt H' p
theorem Stp.refl {p : Addr} {H : Hp} (h : HandAt H p) : Stp p H H := ⟨fun _ _ _ e => e, fun _ e => e, h⟩
theorem Stp.trans {p : Addr} {H H1 H2 : Hp} (a : Stp p H H1) (b : Stp p H1 H2) : Stp p H H2 := ⟨fun c o n e => b.keep c o n (a.keep c o n e), fun c e => b.cell c (a.cell c e), b.hand⟩
theorem hdK_inj {ca cb : Addr} {a g s t a' g' s' t' : Int} (h : hdK ca a g s t = hdK cb a' g' s' t') : ca = cb := by
  unfold hdK at h
  injection h with h1 _
  injection h1 with _ h2
  injection h2
theorem cell_eq {H : Hp} {p ca c : Addr} {a g s t : Int} (hp : H p = some (.dK (hdK ca a g s t))) (h : CellOf H p c) : c = ca := by
  obtain ⟨a', g', s', t', h⟩ := h
  rw [hp] at h
  have h1 := Option.some.inj h
  injection h1 with h2
  exact (hdK_inj h2).symm
theorem cell_to {H H' : Hp} {p ca : Addr} {a g s t a' g' s' t' : Int} (hp : H p = some (.dK (hdK ca a g s t))) (hp' : H' p = some (.dK (hdK ca a' g' s' t'))) : ∀ c, CellOf H p c → CellOf H' p c := fun c hc => by
  rw [cell_eq hp hc]
  exact ⟨a', g', s', t', hp'⟩
/-- an object that stood not there at the start may change, whatever has been drawn since -/
theorem Stp.mut {p D : Addr} {H H' : Hp} {o : HO} (h : HandAt H p) (S : Stp p H H') (hD : H D = none) : Stp p H (upd H' D o) := by
  obtain ⟨ca, cells, a, g, s, t, hp, hc, _⟩ := h
  obtain ⟨cb, cells', a', g', s', t', hp', hc', r⟩ := S.hand
  have e : ca = cb := cell_eq hp' (S.cell ca ⟨a, g, s, t, hp⟩)
  have n1 : p ≠ D := ne_of_none hp hD
  have n2 : cb ≠ D := e ▸ ne_of_none hc hD
  exact ⟨fun b o n e => by rw [upd_ne (ne_of_none e hD)]; exact S.keep b o n e, fun c hc => by
    obtain ⟨x1, x2, x3, x4, x5⟩ := S.cell c hc
    exact ⟨x1, x2, x3, x4, by rw [upd_ne n1]; exact x5⟩, cb, cells', a', g', s', t', by rw [upd_ne n1]; exact hp', by rw [upd_ne n2]; exact hc', r⟩
def spDraw : Sp := fun vs H Q _ => ∃ (p : Addr) (m : Int), vs = [.ref p, .int m] ∧ 0 < m ∧ m < 1073741824 ∧ HandAt H p ∧ ∀ (d : Int) (H' : Hp), 0 ≤ d → d < m → Stp p H H' → Q (.int d) H'
/-- what is asked of the module's names -/
structure Nm (mg : Str → Option Value) : Prop where
  len : mg "len" = none
  int : mg "int" = none
  abs : mg "abs" = none
theorem map_at {cells : List Int} {a : Nat} (h : a < cells.length) : ∃ c, cells[a]? = some c ∧ c ∈ cells ∧ atI (cells.map V.int) (a : Int) = some (V.int c) := by
  refine ⟨cells[a], List.getElem?_eq_getElem h, List.getElem_mem h, ?_⟩
  unfold atI
  rw [Evl.ixN_nat (by rw [List.length_map]; exact h)]
  show (cells.map V.int)[a]? = _
  rw [List.getElem?_map, List.getElem?_eq_getElem h] <;> rfl
section
variable {P : Program} {w : World} {K : PySem.W.Frag} {mg : Str → Option Value} {base : Heap}
theorem scDraw : FnScope ["_law_hand_here", "_law_many", "_law_cell", "_law_digit", "_law_number"] ["_law_hand_here", "_law_many"] (defScope s_law_draw) := ⟨rfl, rfl, rfl, by decide +kernel, rfl, by decide +kernel, by decide +kernel⟩
theorem ok_draw {f : Addr} {fd : FuncData} (F : Fun K "_law_draw" "_law_draw" s_law_draw f fd) (T : Nm mg) : FnOk P w K mg base CX0 1 f fd ["_law_hand_here", "_law_many"] spDraw := by
  refine F.ok scDraw (fun vs H Q E h => ?_) (fun cdv A outer s H vs Q E hr h => ?_)
  · obtain ⟨p, m, rfl, _⟩ := h
    rfl
  · obtain ⟨p, m, rfl, hm0, hm1, hH, k⟩ := h
    have hu := hu_of hr
    refine ⟨_, Evl.pss_cut (ps_if (PW.pt (pw_and (pt_cmpR op_eq (pe_dget hu (pv 0) pe_str (fun _ _ => rfl)) pe_int (nomark _)) (pw_and1 (pt_cmpR op_lt (pe_dget hu (pv 0) pe_str (fun _ _ => rfl)) (pe_callB call_len_seq (by rfl) T.len PySem.boot_len (pa_cons (pe_dget hu (pv 0) pe_str (fun _ _ => rfl)) pa_nil)) (nomark _)))))
        (pss_cons (ps_set (i := 2) scDraw.nd rfl (Or.inl rfl) (pe_ix ix_list (pe_dget hu (pv 0) pe_str (fun _ _ => rfl)) (pe_dget hu (pv 0) pe_str (fun _ _ => rfl)) (fun _ _ => rfl)))
        (pss_cons (ps_dput hu (pv 0) pe_str (pe_op op_add (pe_dget hu (pv 0) pe_str (fun _ _ => rfl)) pe_int) rfl)
        (pss_cons (ps_dput hu (pv 0) pe_str (pe_op op_mod (pe_callTy call_int1 (by rfl) T.int (by decide +kernel) (pa_cons (pe_op op_add (pe_op op_add (pe_op op_mul (pe_dget hu (pv 0) pe_str (fun _ _ => rfl)) pe_int) (pv 2)) pe_int) pa_nil)) pe_int) rfl)
        (pss_one (ps_if (pt_cmpR op_ge (pv 2) (pe_op op_pow pe_int pe_int) (nomark _)) (pss_one (ps_dput hu (pv 0) pe_str (pv 2) rfl)) pss_nil))))) pss_nil)
      (pss_cons (ps_if (pt_cmpR op_gt (pe_dget hu (pv 0) pe_str (fun _ _ => rfl)) pe_int (nomark _))
        (pss_cons (ps_set (i := 3) scDraw.nd rfl (Or.inl rfl) (pe_op op_mod (pe_callTy call_int1 (by rfl) T.int (by decide +kernel) (pa_cons (pe_dget hu (pv 0) pe_str (fun _ _ => rfl)) pa_nil)) (pv 1)))
        (pss_cons (ps_dput hu (pv 0) pe_str (pe_op op_fdiv (pe_dget hu (pv 0) pe_str (fun _ _ => rfl)) (pv 1)) rfl)
        (pss_one (ps_ret (pv 3))))) pss_nil)
      (pss_cons (ps_dput hu (pv 0) pe_str (pe_op op_add (pe_dget hu (pv 0) pe_str (fun _ _ => rfl)) pe_int) rfl)
      (pss_cons (ps_set (i := 4) scDraw.nd rfl (Or.inl rfl) (pe_op op_mod (pe_callTy call_int1 (by rfl) T.int (by decide +kernel) (pa_cons (pe_op op_mul (pe_callTy call_int1 (by rfl) T.int (by decide +kernel) (pa_cons (pe_op op_add (pe_op op_add (pe_dget hu (pv 0) pe_str (fun _ _ => rfl)) pe_int) (pe_op op_mul pe_int (pe_dget hu (pv 0) pe_str (fun _ _ => rfl)))) pa_nil)) pe_int) pa_nil)) pe_int))
      (pss_cons (ps_set (i := 4) scDraw.nd rfl (Or.inl rfl) (pe_op op_mod (pe_callTy call_int1 (by rfl) T.int (by decide +kernel) (pa_cons (pe_op op_mul (pv 4) (pe_op op_add (pe_op op_fdiv (pv 4) pe_int) pe_int)) pa_nil)) pe_int))
      (pss_cons (ps_set (i := 4) scDraw.nd rfl (Or.inl rfl) (pe_op op_mod (pe_callTy call_int1 (by rfl) T.int (by decide +kernel) (pa_cons (pe_op op_mul (pv 4) (pe_op op_add (pe_op op_fdiv (pv 4) pe_int) pe_int)) pa_nil)) pe_int))
      (pss_one (ps_ret (pe_op op_mod (pe_callTy call_int1 (by rfl) T.int (by decide +kernel) (pa_cons (pe_op op_fdiv (pv 4) pe_int) pa_nil)) (pv 1)))))))))
      , ?_⟩
    refine ⟨fun σ' H' => ∃ cv : Option V, σ' = [some (.ref p), some (.int m), cv, none, none] ∧ Stp p H H', ?_, ?_⟩
    · obtain ⟨ca, cells, a, g, s0, t, hp, hca, h63, ha, hc, hg, hs, ht⟩ := id hH
      have npc : ca ≠ p := ne_of hca hp (by intro z; cases z)
      have stop : ∃ cv : Option V, start ["_law_hand_here", "_law_many", "_law_cell", "_law_digit", "_law_number"] [.ref p, .int m] = [some (.ref p), some (.int m), cv, none, none] ∧ Stp p H H := ⟨none, rfl, Stp.refl hH⟩
      refine ⟨_, rfl, p, _, rfl, gt_great hp, rfl, _, rfl, ite2 (fun hg0 => ?_) (fun _ => stop)⟩
      refine ⟨_, rfl, p, _, rfl, gt_at hp, _, rfl, p, _, rfl, gt_cells hp, ca, _, rfl, .inl (SqL.of hca), _, _, rfl, rfl, _, rfl, ite2 (fun hlt => ?_) (fun _ => stop)⟩
      have hlt' : a < cells.length := by
        have z := of_decide_eq_true hlt
        rw [List.length_map] at z
        omega
      obtain ⟨c, hc1, hc2, hc3⟩ := map_at hlt'
      have c0 := hc c hc2
      -- cell = cells[at]
      refine ⟨_, rfl, p, _, rfl, gt_cells hp, _, rfl, p, _, rfl, gt_at hp, ca, _, _, _, rfl, rfl, SqL.of hca, hc3, ?_⟩
      -- at
      refine ⟨_, rfl, p, _, rfl, gt_at hp, _, _, rfl, rfl, _, rfl, p, _, rfl, pt_at hp _, ?_⟩
      -- seed
      refine ⟨_, rfl, p, _, rfl, gt_seed upd_same, _, _, rfl, rfl, .inr ⟨by decide, by decide⟩, _, rfl, _, _, rfl, rfl, _, _, rfl, rfl, .inl ⟨_, rfl, _, _, rfl, rfl, (by show (0 : Int) < 2147483629; decide), _, rfl, p, _, rfl, pt_seed upd_same _, ?_⟩⟩
      rw [upd_upd]
      -- if cell >= 10 ** 18
      refine ⟨_, rfl, _, _, rfl, rfl, ⟨by decide, by decide, by decide⟩, _, _, rfl, rfl, _, rfl, ite2 (fun _ => ?_) (fun _ => ?_)⟩
      · refine ⟨_, rfl, _, rfl, p, _, rfl, pt_great upd_same _, ?_⟩
        rw [upd_upd]
        exact ⟨_, rfl, fun b o n e => by rw [upd_ne n]; exact e, cell_to hp upd_same, ca, cells, a + 1, _, _, _, upd_same, by rw [upd_ne npc]; exact hca, h63, hlt', hc, c0, Int.emod_nonneg _ (by decide), ht⟩
      · exact ⟨_, rfl, fun b o n e => by rw [upd_ne n]; exact e, cell_to hp upd_same, ca, cells, a + 1, _, _, _, upd_same, by rw [upd_ne npc]; exact hca, h63, hlt', hc, hg, Int.emod_nonneg _ (by decide), ht⟩
    · rintro σ' H' ⟨cv, rfl, S1⟩
      obtain ⟨ca, cells, a, g, s0, t, hp, hca, h63, ha, hc, hg, hs, ht⟩ := S1.hand
      have npc : ca ≠ p := ne_of hca hp (by intro z; cases z)
      refine ⟨_, rfl, p, _, rfl, gt_great hp, _, _, rfl, rfl, _, rfl, ite2 (fun hg0 => ?_) (fun _ => ?_)⟩
      · refine ⟨_, rfl, p, _, rfl, gt_great hp, .inl ⟨_, rfl, _, rfl, _, _, rfl, rfl, hm0, ?_⟩⟩
        refine ⟨_, rfl, p, _, rfl, gt_great hp, _, rfl, _, _, rfl, rfl, ⟨hm0, hm1⟩, _, rfl, p, _, rfl, pt_great hp _, _, rfl, ?_⟩
        exact k _ _ (Int.emod_nonneg _ (by omega)) (Int.emod_lt_of_pos _ hm0) ⟨fun b o n e => by rw [upd_ne n]; exact S1.keep b o n e, fun c hc => cell_to hp upd_same c (S1.cell c hc), ca, cells, a, _, _, _, upd_same, by rw [upd_ne npc]; exact hca, h63, ha, hc, Int.ediv_nonneg hg (by omega), hs, ht⟩
      · refine ⟨_, rfl, p, _, rfl, gt_turn hp, _, _, rfl, rfl, _, rfl, p, _, rfl, pt_turn hp _, ?_⟩
        refine ⟨_, rfl, p, _, rfl, gt_seed upd_same, _, _, rfl, rfl, _, rfl, p, _, rfl, gt_turn upd_same, _, _, rfl, rfl, .inl ⟨by decide, by decide⟩, _, _, rfl, rfl, .inl ⟨_, rfl, _, _, rfl, rfl, .inr ⟨by decide, by decide⟩, .inl ⟨_, rfl, _, _, rfl, rfl, (by show (0 : Int) < 2147483647; decide), ?_⟩⟩⟩
        generalize hx : ((s0 + 1 + 7919 * (t + 1)) * 69621) % 2147483647 = x
        have x0 : 0 ≤ x := by rw [← hx]; exact Int.emod_nonneg _ (by decide)
        have x1 : x < 2147483647 := by rw [← hx]; exact Int.emod_lt_of_pos _ (by decide)
        refine ⟨_, rfl, _, rfl, _, _, rfl, rfl, ⟨by decide, by decide⟩, _, _, rfl, rfl, _, _, rfl, rfl, .inl ⟨by omega, by omega⟩, .inl ⟨_, rfl, _, _, rfl, rfl, (by show (0 : Int) < 2147483647; decide), ?_⟩⟩
        generalize hy : (x * (x / 1009 + 48271)) % 2147483647 = y
        have y0 : 0 ≤ y := by rw [← hy]; exact Int.emod_nonneg _ (by decide)
        have y1 : y < 2147483647 := by rw [← hy]; exact Int.emod_lt_of_pos _ (by decide)
        refine ⟨_, rfl, _, rfl, _, _, rfl, rfl, ⟨by decide, by decide⟩, _, _, rfl, rfl, _, _, rfl, rfl, .inl ⟨by omega, by omega⟩, .inl ⟨_, rfl, _, _, rfl, rfl, (by show (0 : Int) < 2147483399; decide), ?_⟩⟩
        refine ⟨_, rfl, _, _, rfl, rfl, ⟨by decide, by decide⟩, .inl ⟨_, rfl, _, rfl, _, _, rfl, rfl, hm0, ?_⟩⟩
        exact k _ _ (Int.emod_nonneg _ (by omega)) (Int.emod_lt_of_pos _ hm0) ⟨fun b o n e => by rw [upd_ne n]; exact S1.keep b o n e, fun c hc => cell_to hp upd_same c (S1.cell c hc), ca, cells, a, _, _, _, upd_same, by rw [upd_ne npc]; exact hca, h63, ha, hc, hg, hs, by omega⟩
theorem cut63 {xs : List V} (h : xs.length ≤ 63) : cutV xs none (some 63) = xs := by
  unfold cutV
  show (xs.drop 0).take (HT.sIx xs.length xs.length (some ((63 : Nat) : Int)) - 0) = xs
  rw [HT.sIx_nat, Nat.min_eq_right (by omega), Nat.sub_zero, List.drop_zero, List.take_length]
theorem merge_app : ∀ (more acc : List (Key × V)), ((acc ++ more).map (·.1)).Nodup → mergeK acc more = acc ++ more
  | [], acc, _ => (List.append_nil acc).symm
  | p :: r, acc, h => by
    have hn : valV acc p.1 = none := by
      unfold valV
      rw [List.find?_eq_none.mpr]
      · rfl
      · intro kv hkv e
        rw [List.map_append, List.nodup_append] at h
        exact h.2.2 kv.1 (List.mem_map_of_mem hkv) p.1 (List.mem_map_of_mem List.mem_cons_self) (of_decide_eq_true e)
    have e : putK acc p.1 p.2 = acc ++ [p] := putK_new _ hn
    show mergeK (putK acc p.1 p.2) r = acc ++ p :: r
    rw [e, merge_app r (acc ++ [p]) (by rw [List.append_assoc]; exact h), List.append_assoc] <;> rfl
theorem hd_keys : ([Sum.inr ("cells" : Str), Sum.inr ("at" : Str), Sum.inr ("great" : Str), Sum.inr ("seed" : Str), Sum.inr ("turn" : Str)] : List Key).Nodup := by decide +kernel
theorem merge_hd (ca : Addr) (a g s t : Int) : mergeK [] (hdK ca a g s t) = hdK ca a g s t := merge_app _ [] hd_keys
def spHand (K : PySem.W.Frag) : Sp := fun vs H Q _ => ∃ (a : Addr) (ns : List Int), vs = [.ref a] ∧ SqL K H a (ns.map V.int) ∧ ns.length ≤ 63 ∧ ∀ (p : Addr) (H' : Hp), H p = none → Same H H' → HandAt H' p → Q (.ref p) H'
theorem scHand : FnScope ["_law_script", "_law_cells", "_law_cell"] ["_law_script"] (defScope s_law_hand) := ⟨rfl, rfl, rfl, by decide +kernel, rfl, by decide +kernel, by decide +kernel⟩
def absI (n : Int) : Int := if n < 0 then -n else n
theorem absI_nn (n : Int) : 0 ≤ absI n := by
  unfold absI
  split <;> omega
theorem ok_hand {f : Addr} {fd : FuncData} (F : Fun K "_law_hand" "_law_hand" s_law_hand f fd) (T : Nm mg) : FnOk P w K mg base CX0 1 f fd ["_law_script"] (spHand K) := by
  refine F.ok scHand (fun vs H Q E h => ?_) (fun cdv A outer s H vs Q E hr h => ?_)
  · obtain ⟨a, ns, rfl, _⟩ := h
    rfl
  · obtain ⟨a, ns, rfl, hS, h63, k⟩ := h
    have hu := hu_of hr
    refine ⟨_, pss_cons (ps_setLc (i := 1) (own := [("_law_cell", 2)]) (g := gName 2) (tt := tYes) rfl scHand.nd rfl rfl (sw_true rfl rfl rfl (by decide +kernel)) (pi_list (pe_slice sl_list (pv 0) po_none (po_some pe_int)))
        (blkOk_by (own := [("_law_cell", 2)]) (N := ["_law_script", "_law_cells", "_law_cell"]) (sc := defScope s_law_hand) (by decide +kernel)) (fun _ _ _ _ _ => pg_name (i := 2) scHand.nd rfl (Or.inl rfl)) (fun _ _ _ _ _ => pts_nil)
        (fun _ _ _ _ _ => pe_callB call_abs (by rfl) T.abs (by decide +kernel) (pa_cons (pe_callTy call_int1 (by rfl) T.int (by decide +kernel) (pa_cons (pv 2) pa_nil)) pa_nil)))
      (pss_one (ps_ret (pe_disp (pps_cons pe_str (pv 1) (pps_cons pe_str pe_int (pps_cons pe_str pe_int (pps_cons pe_str (pe_op op_add pe_int (pe_callB call_len_seq (by rfl) T.len PySem.boot_len (pa_cons (pv 1) pa_nil))) (pps_cons pe_str pe_int pps_nil))))) (by rfl) (by rfl) (fun z => by cases z) (by decide)))), ?_⟩
    refine ⟨_, rfl, 63, rfl, a, _, rfl, hS, fun sp nsp => ?_⟩
    have h63' : (ns.map V.int).length ≤ 63 := by rw [List.length_map]; exact h63
    rw [cut63 h63']
    refine ⟨sp, rfl, ⟨_, SqL.of upd_same⟩, fun D hD => ?_⟩
    have sD : Same H (upd (upd H sp (.lst (ns.map V.int))) D (.lst [])) := fun b o e => by
      have z : upd H sp (.lst (ns.map V.int)) b = some o := by
        rw [upd_ne (ne_of_none e nsp)]
        exact e
      rw [upd_ne (ne_of_none z hD)]
      exact z
    have nDs : sp ≠ D := ne_of_none upd_same hD
    have hD0 : H D = none := by
      rw [upd_ne nDs.symm] at hD
      exact hD
    refine lc_list (K := K) (a := sp) (xs := ns.map V.int) (fun i H' => Same H H' ∧ H' sp = some (.lst (ns.map V.int)) ∧ H' D = some (.lst (((ns.take i).map absI).map V.int))) ⟨sD, by rw [upd_ne nDs, upd_same], upd_same⟩ (fun i H' _ h => SqL.of h.2.1) ?_ ?_
    · rintro i x H' hi ⟨s1, h1, h2⟩
      obtain ⟨z, hz, rfl⟩ : ∃ z, ns[i]? = some z ∧ x = V.int z := by
        rw [List.getElem?_map] at hi
        cases e : ns[i]? with
        | none => rw [e] at hi; cases hi
        | some z => rw [e] at hi; exact ⟨z, rfl, (Option.some.inj hi).symm⟩
      have hil : i < ns.length := (List.getElem?_eq_some_iff.mp hz).1
      refine ⟨rfl, _, rfl, .inl ⟨_, rfl, _, rfl, _, h2, ?_, ?_⟩⟩
      · rw [List.length_map, List.length_map, List.length_take]
        exact small1000 (by omega)
      · refine ⟨fun b o e => ?_, ?_, ?_⟩
        · have hb : b ≠ D := ne_of_none e hD0
          rw [upd_ne hb]
          exact s1 b o e
        · rw [upd_ne nDs]
          exact h1
        · rw [upd_same, List.take_add_one, hz, List.map_append, List.map_append] <;> rfl
    · rintro H' ⟨s1, h1, h2⟩
      rw [List.length_map, List.take_length] at h2
      intro p np
      have npD : D ≠ p := ne_of_none h2 np
      have s2 : Same H (upd H' p (.dK [])) := fun b o e => by
        rw [upd_ne (ne_of_none (s1 b o e) np)]
        exact s1 b o e
      refine ⟨_, rfl, _, rfl, D, _, rfl, .inl (SqL.of (by rw [upd_ne npD]; exact h2)), _, _, rfl, rfl, upd_same, hdK D 0 0 (977 + ((ns.map absI).map V.int).length) 0, rfl, (show 5 ≤ 15 by decide), ?_⟩
      rw [merge_hd, upd_upd]
      refine k p _ (s1.free np) (fun b o e => by rw [upd_ne (ne_of_none (s1 b o e) np)]; exact s1 b o e) ⟨D, ns.map absI, 0, 0, _, 0, upd_same, by rw [upd_ne npD]; exact h2, by rw [List.length_map]; exact h63, Nat.zero_le _, ?_, by decide, by omega, by decide⟩
      intro c hc
      obtain ⟨z, _, rfl⟩ := List.mem_map.mp hc
      exact absI_nn z
theorem Stp.sqL {p l : Addr} {H H' : Hp} {xs : List V} (S : Stp p H H') (hp : HandAt H p) (h : SqL K H l xs) : SqL K H' l xs := by
  obtain ⟨ca, cells, a, g, s0, t, hp, _⟩ := hp
  rcases h with (h | ⟨o, h⟩) | h
  · exact .inl (.inl (S.keep _ _ (ne_of h hp (by intro z; cases z)) h))
  · exact .inl (.inr ⟨o, S.keep _ _ (ne_of h hp (by intro z; cases z)) h⟩)
  · exact .inr h
theorem Stp.sqT {p l : Addr} {H H' : Hp} {xs : List V} (S : Stp p H H') (hp : HandAt H p) (h : SqT K H l xs) : SqT K H' l xs := by
  obtain ⟨ca, cells, a, g, s0, t, hp, _⟩ := hp
  rcases h with (h | ⟨o, h⟩) | h
  · exact .inl (.inl (S.keep _ _ (ne_of h hp (by intro z; cases z)) h))
  · exact .inl (.inr ⟨o, S.keep _ _ (ne_of h hp (by intro z; cases z)) h⟩)
  · exact .inr h
/-- a def of the module that may be called by its name -/
structure Cl (P : Program) (w : World) (K : PySem.W.Frag) (mg : Str → Option Value) (base : Heap) (CX : CXT) (k : Nat) (x : Str) (f : Addr) (fd : FuncData) (ps : List Str) (sp : Sp) : Prop where
  ok : FnOk P w K mg base CX k f fd ps sp
  b : Binds K fd ps []
  m : mg x = some (.ref f)
  kp : PySem.W.keepIn K (.ref f) = true
theorem Cl.call {X : Cx} {k : Nat} {x : Str} {f : Addr} {fd : FuncData} {ps : List Str} {sp : Sp} {p pos : Pos} {e : Expr} {es : List Expr} {t : TA} (c : Cl X.prog X.w X.K X.mg X.base CX0 k x f fd ps sp) (hr : Room k X.A) (ha : PA X (e :: es) t) (hg : Gl X x := by rfl) (hdb : (x == ("__debug__" : Str)) = false := by decide)
    (he : starEach (e :: es) X.env = (false, eval e X.env) :: starEach es X.env := by rfl) (hpl : (backTo pos (starEach es X.env)).any (·.1) = false := by rfl) :
    PE X (.Call (.Name x p) (e :: es) [] pos) (tCall sp [] E0 t) := pe_call c.ok hr hg c.m c.kp c.b .nil pass0 ha hdb he hpl
def spAny (K : PySem.W.Frag) : Sp := fun vs H Q _ => ∃ (p l : Addr) (xs : List V), vs = [.ref p, .ref l] ∧ (SqL K H l xs ∨ SqT K H l xs) ∧ 0 < xs.length ∧ xs.length < 1073741824 ∧ HandAt H p ∧ ∀ (i : Nat) (x : V) (H' : Hp), xs[i]? = some x → Stp p H H' → Q x H'
theorem scAny : FnScope ["_law_hand_here", "_law_things"] ["_law_hand_here", "_law_things"] (defScope s_law_any) := ⟨rfl, rfl, rfl, by decide +kernel, rfl, by decide +kernel, by decide +kernel⟩
theorem ok_any {f fD : Addr} {fd fdD : FuncData} (F : Fun K "_law_any" "_law_any" s_law_any f fd) (T : Nm mg) (D : Cl P w K mg base CX0 1 "_law_draw" fD fdD ["_law_hand_here", "_law_many"] spDraw) : FnOk P w K mg base CX0 2 f fd ["_law_hand_here", "_law_things"] (spAny K) := by
  refine F.ok scAny (fun vs H Q E h => ?_) (fun cdv A outer s H vs Q E hr h => ?_)
  · obtain ⟨p, l, xs, rfl, _⟩ := h
    rfl
  · obtain ⟨p, l, xs, rfl, hS, h0, h1, hH, k⟩ := h
    refine ⟨_, pss_one (ps_ret (pe_ix ix_seq (pv 1) (D.call hr (pa_cons (pv 0) (pa_cons (pe_callB call_len_seq (by rfl) T.len PySem.boot_len (pa_cons (pv 1) pa_nil)) pa_nil))) (fun _ _ => rfl))), ?_⟩
    refine ⟨_, rfl, _, rfl, _, rfl, l, xs, rfl, hS, p, _, rfl, by omega, by omega, hH, fun d H' d0 d1 S => ?_⟩
    obtain ⟨j, rfl⟩ := Int.eq_ofNat_of_zero_le d0
    have hj : j < xs.length := by omega
    have ha : atI xs ((j : Nat) : Int) = some xs[j] := by
      unfold atI
      rw [Evl.ixN_nat hj]
      exact List.getElem?_eq_getElem hj
    rcases hS with hS | hS
    · exact .inl ⟨l, xs, _, _, rfl, rfl, S.sqL hH hS, ha, k j _ H' (List.getElem?_eq_getElem hj) S⟩
    · exact .inr (.inl ⟨l, xs, _, _, rfl, rfl, S.sqT hH hS, ha, k j _ H' (List.getElem?_eq_getElem hj) S⟩)
end
end Law
namespace Law
open PySem L2
/-! ### the program's own: integers, fractions -/
structure Nm2 (mg : Str → Option Value) : Prop where
  isi : mg "isinstance" = none
  int : mg "int" = none
  bool : mg "bool" = none
  tuple : mg "tuple" = none
  len : mg "len" = none
  all : mg "all" = none
  sum : mg "sum" = none
  enum : mg "enumerate" = none
  gcd : mg "gcd" = some (.builtin "math.gcd")
  lcm : mg "lcm" = some (.builtin "math.lcm")
def Ty3 (K : PySem.W.Frag) (H : Hp) (x : V) (bi bb : Bool) : Prop := ∃ t, TyX K H x t ∧ PySem.W.kitOne K t (.type "int") = some bi ∧ PySem.W.kitOne K t (.type "bool") = some bb
theorem ty3_int {K : PySem.W.Frag} {H : Hp} (i : Int) : Ty3 K H (.int i) true false := ⟨_, .base (.int i), kit_ty (by decide +kernel), kit_ty (by decide +kernel)⟩
theorem tyx_tup {K : PySem.W.Frag} {H : Hp} {a : Addr} {xs : List V} (h : SqT K H a xs) : TyX K H (.ref a) (.type "tuple") := by
  rcases h with (h | ⟨o, h⟩) | ⟨o, its, n, hk, hc, _⟩
  · exact .base (.tup h)
  · exact .fTuple h
  · exact .kTuple hk hc
theorem kit_tt {K : PySem.W.Frag} : PySem.W.kitOne K (.type "tuple") (.type "tuple") = some true := kit_ty (by decide +kernel)
end Law
namespace L2
open PySem
theorem Same.sqT {K : PySem.W.Frag} {H H' : Hp} {a : Addr} {xs : List V} (e : Same H H') (h : SqT K H a xs) : SqT K H' a xs := by
  rcases h with (h | ⟨o, h⟩) | h
  · exact .inl (.inl (e _ _ h))
  · exact .inl (.inr ⟨o, e _ _ h⟩)
  · exact .inr h
theorem Same.new {H : Hp} {p : Addr} {o : HO} (h : H p = none) : Same H (upd H p o) := fun b u e => by
  rw [upd_ne (ne_of_none e h)]
  exact e
theorem Same.mut {H H' : Hp} {p : Addr} {o : HO} (e : Same H H') (h : H p = none) : Same H (upd H' p o) := fun b u hb => by
  rw [upd_ne (ne_of_none hb h)]
  exact e b u hb
end L2
namespace Law
open PySem L2
section
variable {P : Program} {w : World} {K : PySem.W.Frag} {mg : Str → Option Value} {base : Heap}
def spIsInt (K : PySem.W.Frag) : Sp := fun vs H Q _ => ∃ x bi bb, vs = [x] ∧ Ty3 K H x bi bb ∧ Q (.bl (bi && !bb)) H
theorem scIsInt : FnScope ["thing"] ["thing"] (defScope s_is_integer) := ⟨rfl, rfl, rfl, by decide +kernel, rfl, by decide +kernel, by decide +kernel⟩
theorem ok_isint {f : Addr} {fd : FuncData} (F : Fun K "is_integer" "is_integer" s_is_integer f fd) (T : Nm2 mg) : FnOk P w K mg base CX0 1 f fd ["thing"] (spIsInt K) := by
  refine F.ok scIsInt (fun vs H Q E h => ?_) (fun cdv A outer s H vs Q E hr h => ?_)
  · obtain ⟨x, bi, bb, rfl, _⟩ := h
    rfl
  · obtain ⟨x, bi, bb, rfl, ⟨t, ty, h1, h2⟩, k⟩ := h
    refine ⟨_, pss_one (ps_ret (pe_and (pe_callB call_isi (by rfl) T.isi (by decide +kernel) (pa_cons (pv 0) (pa_cons (pe_bltn (v := .ty "int") (u := .type "int") (by rfl) T.int (by decide +kernel) rfl) pa_nil)))
      (pe_one (pe_not (pe_callB call_isi (by rfl) T.isi (by decide +kernel) (pa_cons (pv 0) (pa_cons (pe_bltn (v := .ty "bool") (u := .type "bool") (by rfl) T.bool (by decide +kernel) rfl) pa_nil))))))), ?_⟩
    refine ⟨_, rfl, _, _, _, _, _, rfl, .ty "int", ty, h1, _, rfl, ?_⟩
    cases bi with
    | true => exact iteT ⟨_, rfl, _, _, _, _, _, rfl, .ty "bool", ty, h2, _, rfl, k⟩
    | false => exact iteF k
def spWithin (K : PySem.W.Frag) : Sp := fun vs H Q _ => ∃ (lo hi : Int) (x : V), vs = [.int lo, .int hi, x] ∧ ((∃ i, x = .int i ∧ Q (.bl (decide (lo ≤ i) && decide (i ≤ hi))) H) ∨ ∃ bi bb, Ty3 K H x bi bb ∧ (bi && !bb) = false ∧ Q (.bl false) H)
theorem scWithin : FnScope ["low", "high", "thing"] ["low", "high", "thing"] (defScope s_is_within) := ⟨rfl, rfl, rfl, by decide +kernel, rfl, by decide +kernel, by decide +kernel⟩
theorem ok_within {f fI : Addr} {fd fdI : FuncData} (F : Fun K "is_within" "is_within" s_is_within f fd) (I : Cl P w K mg base CX0 1 "is_integer" fI fdI ["thing"] (spIsInt K)) : FnOk P w K mg base CX0 2 f fd ["low", "high", "thing"] (spWithin K) := by
  refine F.ok scWithin (fun vs H Q E h => ?_) (fun cdv A outer s H vs Q E hr h => ?_)
  · obtain ⟨lo, hi, x, rfl, _⟩ := h
    rfl
  · obtain ⟨lo, hi, x, rfl, h⟩ := h
    refine ⟨_, pss_one (ps_ret (pe_and (I.call hr (pa_cons (pv 2) pa_nil)) (pe_one (pe_chain op_le op_le (pv 0) (pv 2) (pv 1))))), ?_⟩
    rcases h with ⟨i, rfl, k⟩ | ⟨bi, bb, ty, hb, k⟩
    · refine ⟨_, rfl, _, true, false, rfl, ty3_int i, true, rfl, iteT ?_⟩
      refine ⟨_, rfl, _, rfl, _, _, rfl, rfl, _, rfl, ?_⟩
      refine ite2 (fun h1 => ?_) (fun h1 => ?_)
      · refine ⟨_, rfl, _, _, rfl, rfl, ?_⟩
        rw [h1, Bool.true_and] at k
        exact k
      · rw [Bool.not_eq_true] at h1
        rw [h1, Bool.false_and] at k
        exact k
    · refine ⟨_, rfl, x, bi, bb, rfl, ty, _, rfl, ?_⟩
      rw [hb]
      exact iteF k
def isW (lo hi : Int) : V → Bool
  | .int i => decide (lo ≤ i) && decide (i ≤ hi)
  | _ => false
def Known (K : PySem.W.Frag) (H : Hp) (x : V) : Prop := (∃ i, x = .int i) ∨ ∃ bi bb, Ty3 K H x bi bb ∧ (bi && !bb) = false ∧ ∀ lo hi, isW lo hi x = false
def spRowB (K : PySem.W.Frag) : Sp := fun vs H Q _ => ∃ (b : Int) (a : Addr) (xs : List V), vs = [.int b, .ref a] ∧ SqT K H a xs ∧ xs.length ≤ 1000 ∧ (∀ x ∈ xs, ∃ i, x = .int i) ∧ ∀ H', Same H H' → Q (.bl (xs.all (isW 0 (b - 1)))) H'
theorem scRowB : FnScope ["bound", "thing", "part"] ["bound", "thing"] (defScope s_is_row_below) := ⟨rfl, rfl, rfl, by decide +kernel, rfl, by decide +kernel, by decide +kernel⟩
theorem all_take {α : Type} (f : α → Bool) : ∀ xs : List α, (xs.map f).all id = xs.all f
  | [] => rfl
  | x :: xs => by rw [List.map_cons, List.all_cons, List.all_cons, all_take f xs] <;> rfl
theorem ok_rowb {f fW : Addr} {fd fdW : FuncData} (F : Fun K "is_row_below" "is_row_below" s_is_row_below f fd) (T : Nm2 mg) (W : Cl P w K mg base CX0 2 "is_within" fW fdW ["low", "high", "thing"] (spWithin K)) : FnOk P w K mg base CX0 3 f fd ["bound", "thing"] (spRowB K) := by
  refine F.ok scRowB (fun vs H Q E h => ?_) (fun cdv A outer s H vs Q E hr h => ?_)
  · obtain ⟨b, a, xs, rfl, _⟩ := h
    rfl
  · obtain ⟨b, a, xs, rfl, hS, hz, hx, k⟩ := h
    refine ⟨_, pss_one (ps_ret (pe_and (pe_callB call_isi (by rfl) T.isi (by decide +kernel) (pa_cons (pv 1) (pa_cons (pe_bltn (v := .ty "tuple") (u := .type "tuple") (by rfl) T.tuple (by decide +kernel) rfl) pa_nil)))
      (pe_one (pe_callB (cr_all rfl) (by rfl) T.all (by decide +kernel) (pa_cons (pe_lc (own := [("part", 2)]) (g := gName 2) (tt := tYes) rfl scRowB.nd (pi_tup (pv 1))
        (blkOk_by (own := [("part", 2)]) (N := ["bound", "thing", "part"]) (sc := defScope s_is_row_below) (by decide +kernel)) (fun _ _ _ _ _ => pg_name (i := 2) scRowB.nd rfl (Or.inl rfl)) (fun _ _ _ _ _ => pts_nil)
        (fun _ _ _ _ _ => W.call hr (pa_cons pe_int (pa_cons (pe_op op_sub (pv 0) pe_int) (pa_cons (pv 2) pa_nil))))) pa_nil))))), ?_⟩
    refine ⟨_, rfl, _, _, _, _, _, rfl, .ty "tuple", tyx_tup hS, kit_tt, _, rfl, iteT ?_⟩
    refine ⟨_, rfl, a, rfl, ⟨_, hS⟩, fun D hD => ?_⟩
    refine lc_tup (K := K) (a := a) (xs := xs) (fun i H' => Same H H' ∧ H' D = some (.lst (((xs.take i).map (isW 0 (b - 1))).map V.bl))) ⟨Same.new hD, upd_same⟩ (fun i H' _ h => h.1.sqT hS) ?_ ?_
    · rintro i x H' hi ⟨s1, h1⟩
      obtain ⟨z, rfl⟩ := hx x (List.mem_of_getElem? hi)
      refine ⟨rfl, _, rfl, _, _, rfl, rfl, _, rfl, _, _, _, rfl, .inl ⟨z, rfl, _, h1, ?_, s1.mut hD, ?_⟩⟩
      · rw [List.length_map, List.length_map, List.length_take]
        exact small1000 (by omega)
      · rw [upd_same, List.take_add_one, hi, List.map_append, List.map_append] <;> rfl
    · rintro H' ⟨s1, h1⟩
      rw [List.take_length] at h1
      refine ⟨D, _, rfl, SqL.of h1, ?_⟩
      rw [all_take]
      exact k H' s1
theorem dec_one (n : Nat) : decide (V.int (n : Int) = V.int 1) = (n == 1) := by
  rw [dec_int]
  by_cases e : n = 1
  · subst e
    rfl
  · rw [beq_eq_false_iff_ne.mpr e, beq_eq_false_iff_ne.mpr (by omega)]
def spFrac (K : PySem.W.Frag) : Sp := fun vs H Q _ => ∃ (a : Addr) (t b : Int), vs = [.ref a] ∧ SqT K H a [.int t, .int b] ∧ Q (.bl (decide (0 < b) && (Nat.gcd t.natAbs b.natAbs == 1))) H
theorem scFrac : FnScope ["thing", "top", "bottom"] ["thing"] (defScope s_is_fraction) := ⟨rfl, rfl, rfl, by decide +kernel, rfl, by decide +kernel, by decide +kernel⟩
theorem ok_frac {f fI : Addr} {fd fdI : FuncData} (F : Fun K "is_fraction" "is_fraction" s_is_fraction f fd) (T : Nm2 mg) (I : Cl P w K mg base CX0 1 "is_integer" fI fdI ["thing"] (spIsInt K)) : FnOk P w K mg base CX0 2 f fd ["thing"] (spFrac K) := by
  refine F.ok scFrac (fun vs H Q E h => ?_) (fun cdv A outer s H vs Q E hr h => ?_)
  · obtain ⟨a, t, b, rfl, _⟩ := h
    rfl
  · obtain ⟨a, t, b, rfl, hS, k⟩ := h
    refine ⟨_, pss_cons (ps_if (PW.pt (pw_or (pt_not (pt_val (pe_callB call_isi (by rfl) T.isi (by decide +kernel) (pa_cons (pv 0) (pa_cons (pe_bltn (v := .ty "tuple") (u := .type "tuple") (by rfl) T.tuple (by decide +kernel) rfl) pa_nil)))))
        (pw_or1 (pt_cmpR op_ne (pe_callB call_len_seq (by rfl) T.len PySem.boot_len (pa_cons (pv 0) pa_nil)) pe_int (nomark _))))) (pss_one (ps_ret pe_bl)) pss_nil)
      (pss_cons (ps_asg (pv 0) (pg_tup (by rfl) (pgs_cons (pg_name (i := 1) scFrac.nd rfl (Or.inl rfl)) (pgs_cons (pg_name (i := 2) scFrac.nd rfl (Or.inl rfl)) pgs_nil))))
      (pss_one (ps_ret (pe_and (I.call hr (pa_cons (pv 1) pa_nil)) (pe_and (I.call hr (pa_cons (pv 2) pa_nil)) (pe_and (pe_cmpR op_gt (pv 2) pe_int (nomark _)) (pe_one (pe_cmpR op_eq (pe_callBfun cr_gcd (by rfl) T.gcd (pa_cons (pv 1) (pa_cons (pv 2) pa_nil))) pe_int (nomark _))))))))), ?_⟩
    refine ⟨_, rfl, _, _, _, _, _, rfl, .ty "tuple", tyx_tup hS, kit_tt, _, rfl, ?_⟩
    refine iteF ⟨_, rfl, a, _, rfl, .inr hS, rfl, _, rfl, iteF ?_⟩
    refine ⟨_, rfl, a, _, rfl, hS, rfl, _, _, rfl, _, _, rfl, rfl, ?_⟩
    refine ⟨_, rfl, _, true, false, rfl, ty3_int t, _, rfl, iteT ⟨_, rfl, _, true, false, rfl, ty3_int b, _, rfl, iteT ⟨_, rfl, _, _, rfl, rfl, _, rfl, ?_⟩⟩⟩
    refine ite2 (fun h1 => ?_) (fun h1 => ?_)
    · refine ⟨_, rfl, _, rfl, t, b, rfl, rfl, ?_⟩
      rw [dec_one]
      rw [h1, Bool.true_and] at k
      exact k
    · rw [Bool.not_eq_true] at h1
      rw [h1, Bool.false_and] at k
      exact k
end
end Law
namespace L2
open PySem PySem.Spec PyProof.Rows
/-! ### math.lcm of great ints -/
theorem lcm_le (a b : Nat) (hb : 0 < b) (ha : 0 < a) : Nat.lcm a b ≤ a * b := Nat.le_of_dvd (Nat.mul_pos ha hb) (Nat.lcm_dvd_mul a b)
theorem lcm_lt {a b : Nat} (ha : a < 2 ^ 9000) (hb : b < 2 ^ 9000) : Nat.lcm a b < 2 ^ 18000 := by
  by_cases h0 : a = 0
  · subst h0
    rw [Nat.lcm_zero_left]
    exact Nat.two_pow_pos _
  by_cases h1 : b = 0
  · subst h1
    rw [Nat.lcm_zero_right]
    exact Nat.two_pow_pos _
  have h := lcm_le a b (Nat.pos_of_ne_zero h1) (Nat.pos_of_ne_zero h0)
  have h2 : a * b < 2 ^ 9000 * 2 ^ 9000 := Nat.mul_lt_mul_of_lt_of_lt ha hb
  rw [← Nat.pow_add] at h2
  exact Nat.lt_of_le_of_lt h h2
def rLcm : List V → Hp → VK → Prop := fun vs H Q => ∃ a b : Int, vs = [.int a, .int b] ∧ a.natAbs < 2 ^ 9000 ∧ b.natAbs < 2 ^ 9000 ∧ Q (.int ((Nat.lcm a.natAbs b.natAbs : Nat) : Int)) H
theorem cr_lcm {X : Cx} : CallR X (.builtin "math.lcm") rLcm := by
  intro pins s σ H vs us Q I r h
  obtain ⟨a, b, rfl, ha, hb, q⟩ := h
  obtain ⟨t, u, rfl⟩ := Vals.int2 r
  have l1 : ∀ {n : Nat}, n < 2 ^ 9000 → n.log2 < 9000 := fun h => PySem.Flt.log2_lt_of (by decide) h
  have m1 : max 1 a.natAbs < 2 ^ 9000 := by
    rw [Nat.max_def]
    split
    · exact ha
    · exact Nat.one_lt_two_pow (by decide)
  have m2 : max a.natAbs b.natAbs < 2 ^ 9000 := by
    rw [Nat.max_def]
    split
    · exact hb
    · exact ha
  have e : ((Nat.lcm 1 a.natAbs).lcm b.natAbs : Nat) = Nat.lcm a.natAbs b.natAbs := by rw [Nat.lcm_one_left]
  have hz : ((((Nat.lcm 1 a.natAbs).lcm b.natAbs : Nat) : Int)).natAbs.log2 < bitsLine := by
    rw [e, Int.natAbs_natCast]
    exact Nat.lt_of_lt_of_le (PySem.Flt.log2_lt_of (by decide) (lcm_lt ha hb)) (by decide)
  have c1 := l1 m1
  have c2 := l1 m2
  refine PySem.call_function_meets PySem.W.MGF.kind_lcm PySem.W.MGF.plain_lcm PySem.W.MGF.entry_lcm (PySem.W.MGF.args_lcm _ _) (PySem.W.mg_run_lcm a t b u (by omega) (by omega) hz).meets ?_
  exact ⟨.int _, H, I.tok _, ⟨_, rfl⟩, by rw [e]; exact q⟩
end L2
namespace Law
open PySem L2
/-! ### lists of fractions -/
abbrev Fr := Int × Int
def FrAt (K : PySem.W.Frag) (H : Hp) (v : V) (f : Fr) : Prop := ∃ s, v = .ref s ∧ SqT K H s [.int f.1, .int f.2]
def FrsIn (K : PySem.W.Frag) (H : Hp) (vs : List V) (fs : List Fr) : Prop := vs.length = fs.length ∧ ∀ (i : Nat) (v : V), vs[i]? = some v → ∃ f, fs[i]? = some f ∧ FrAt K H v f
def FrsAt (K : PySem.W.Frag) (H : Hp) (a : Addr) (fs : List Fr) : Prop := ∃ vs, SqL K H a vs ∧ FrsIn K H vs fs
/-- of moderate size -/
def FrOk (f : Fr) : Prop := 0 < f.2 ∧ f.2.natAbs < 2 ^ 62 ∧ f.1.natAbs < 2 ^ 62
theorem FrAt.same {K : PySem.W.Frag} {H H' : Hp} {v : V} {f : Fr} (e : Same H H') (h : FrAt K H v f) : FrAt K H' v f := by
  obtain ⟨s, h1, h2⟩ := h
  exact ⟨s, h1, e.sqT h2⟩
theorem FrsIn.same {K : PySem.W.Frag} {H H' : Hp} {vs : List V} {fs : List Fr} (e : Same H H') (h : FrsIn K H vs fs) : FrsIn K H' vs fs := ⟨h.1, fun i v hv => by
  obtain ⟨f, h1, h2⟩ := h.2 i v hv
  exact ⟨f, h1, h2.same e⟩⟩
theorem FrsAt.same {K : PySem.W.Frag} {H H' : Hp} {a : Addr} {fs : List Fr} (e : Same H H') (h : FrsAt K H a fs) : FrsAt K H' a fs := by
  obtain ⟨vs, h1, h2⟩ := h
  exact ⟨vs, e.seq h1, h2.same e⟩
def lcmAll (fs : List Fr) : Nat := fs.foldl (fun m f => Nat.lcm m f.2.natAbs) 1
theorem lcmAll_snoc (fs : List Fr) (f : Fr) : lcmAll (fs ++ [f]) = Nat.lcm (lcmAll fs) f.2.natAbs := by
  unfold lcmAll
  rw [List.foldl_append] <;> rfl
theorem lcm_fold : ∀ (fs : List Fr) (m : Nat), 0 < m → (∀ f ∈ fs, FrOk f) → 0 < fs.foldl (fun m f => Nat.lcm m f.2.natAbs) m ∧ fs.foldl (fun m f => Nat.lcm m f.2.natAbs) m ≤ m * 2 ^ (62 * fs.length)
  | [], m, hm, _ => ⟨hm, by simp⟩
  | f :: fs, m, hm, h => by
    obtain ⟨h1, h2, _⟩ := h f List.mem_cons_self
    have p : 0 < f.2.natAbs := by omega
    have q : 0 < Nat.lcm m f.2.natAbs := Nat.lcm_pos hm p
    obtain ⟨i1, i2⟩ := lcm_fold fs (Nat.lcm m f.2.natAbs) q fun g hg => h g (List.mem_cons_of_mem _ hg)
    refine ⟨i1, Nat.le_trans i2 ?_⟩
    have e1 : Nat.lcm m f.2.natAbs ≤ m * 2 ^ 62 := Nat.le_trans (lcm_le _ _ p hm) (Nat.mul_le_mul_left _ (Nat.le_of_lt h2))
    have e2 : m * 2 ^ (62 * (f :: fs).length) = m * 2 ^ 62 * 2 ^ (62 * fs.length) := by
      rw [List.length_cons, Nat.mul_add, Nat.mul_one, Nat.add_comm, Nat.pow_add, Nat.mul_assoc]
    rw [e2]
    exact Nat.mul_le_mul_right _ e1
theorem lcmAll_pos {fs : List Fr} (h : ∀ f ∈ fs, FrOk f) : 0 < lcmAll fs := (lcm_fold fs 1 (by decide) h).1
theorem lcmAll_lt {fs : List Fr} (h : ∀ f ∈ fs, FrOk f) (hl : fs.length ≤ 24) : lcmAll fs < 2 ^ 1489 := by
  have z := (lcm_fold fs 1 (by decide) h).2
  rw [Nat.one_mul] at z
  refine Nat.lt_of_le_of_lt z (Nat.pow_lt_pow_right (by decide) (by omega))
theorem pow_mono {n a b : Nat} (h : n < 2 ^ a) (hab : a ≤ b) : n < 2 ^ b := Nat.lt_of_lt_of_le h (Nat.pow_le_pow_right (by decide) hab)
section
variable {P : Program} {w : World} {K : PySem.W.Frag} {mg : Str → Option Value} {base : Heap}
def spComB (K : PySem.W.Frag) : Sp := fun vs H Q _ => ∃ (a : Addr) (fs : List Fr), vs = [.ref a] ∧ FrsAt K H a fs ∧ fs.length ≤ 24 ∧ (∀ f ∈ fs, FrOk f) ∧ Q (.int (lcmAll fs : Nat)) H
theorem scComB : FnScope ["fractions", "found", "_", "bottom"] ["fractions"] (defScope s_common_bottom) := ⟨rfl, rfl, rfl, by decide +kernel, rfl, by decide +kernel, by decide +kernel⟩
theorem ok_comb {f : Addr} {fd : FuncData} (F : Fun K "common_bottom" "common_bottom" s_common_bottom f fd) (T : Nm2 mg) : FnOk P w K mg base CX0 1 f fd ["fractions"] (spComB K) := by
  refine F.ok scComB (fun vs H Q E h => ?_) (fun cdv A outer s H vs Q E hr h => ?_)
  · obtain ⟨a, fs, rfl, _⟩ := h
    rfl
  · obtain ⟨a, fs, rfl, ⟨vs, hS, hF⟩, hl, ho, k⟩ := h
    refine ⟨_, pss_cons (ps_set (i := 1) scComB.nd rfl (Or.inl rfl) pe_int)
      (pss_cons (ps_for PassesOwn.never rfl (pi_list (pv 0)) (pg_tup (by rfl) (pgs_cons (pg_name (i := 2) scComB.nd rfl (Or.inl rfl)) (pgs_cons (pg_name (i := 3) scComB.nd rfl (Or.inl rfl)) pgs_nil)))
        (pss_one (ps_set (i := 1) scComB.nd rfl (Or.inl rfl) (pe_callBfun cr_lcm (by rfl) T.lcm (pa_cons (pv 1) (pa_cons (pv 3) pa_nil))))))
      (pss_one (ps_ret (pv 1)))), ?_⟩
    refine ⟨_, rfl, a, rfl, ⟨_, hS⟩, for_list (K := K) (a := a) (xs := vs) (fun i σ H' => H' = H ∧ ∃ u v : Option V, σ = [some (.ref a), some (.int (lcmAll (fs.take i) : Nat)), u, v]) ⟨rfl, none, none, rfl⟩ (fun i σ H' _ h => by rw [h.1]; exact hS) ?_ ?_⟩
    · rintro i x σ H' hi ⟨rfl, u, v, rfl⟩
      obtain ⟨g, hg, t, rfl, hT⟩ := hF.2 i x hi
      have gm : g ∈ fs := List.mem_of_getElem? hg
      obtain ⟨g1, g2, g3⟩ := ho g gm
      have hsub : ∀ f ∈ fs.take i, FrOk f := fun f hf => ho f (List.mem_of_mem_take hf)
      have hlt := lcmAll_lt hsub (by rw [List.length_take]; omega)
      refine ⟨t, _, rfl, hT, rfl, _, _, rfl, _, _, rfl, rfl, ?_⟩
      refine ⟨_, rfl, _, rfl, _, _, rfl, pow_mono (a := 1489) (by rw [Int.natAbs_natCast]; exact hlt) (by decide), pow_mono g2 (by decide), ?_⟩
      refine ⟨rfl, some (.int g.1), some (.int g.2), ?_⟩
      rw [List.take_add_one, hg]
      show _ = [some (V.ref a), some (V.int ((lcmAll (fs.take i ++ [g]) : Nat) : Int)), some (V.int g.1), some (V.int g.2)]
      rw [lcmAll_snoc]
      rfl
    · rintro σ H' ⟨rfl, u, v, rfl⟩
      refine ⟨_, rfl, ?_⟩
      rw [hF.1, List.take_length]
      exact k
def topsOf (fs : List Fr) (b : Int) : List Int := fs.map fun f => f.1 * (b / f.2)
def spTops (K : PySem.W.Frag) : Sp := fun vs H Q _ => ∃ (a : Addr) (fs : List Fr) (b : Int), vs = [.ref a, .int b] ∧ FrsAt K H a fs ∧ fs.length ≤ 24 ∧ (∀ f ∈ fs, FrOk f) ∧ ∀ p H', H p = none → Same H H' → H' p = some (.lst ((topsOf fs b).map V.int)) → Q (.ref p) H'
theorem scTops : FnScope ["fractions", "bottom", "top", "part"] ["fractions", "bottom"] (defScope s_tops_over) := ⟨rfl, rfl, rfl, by decide +kernel, rfl, by decide +kernel, by decide +kernel⟩
theorem ok_tops {f : Addr} {fd : FuncData} (F : Fun K "tops_over" "tops_over" s_tops_over f fd) : FnOk P w K mg base CX0 1 f fd ["fractions", "bottom"] (spTops K) := by
  refine F.ok scTops (fun vs H Q E h => ?_) (fun cdv A outer s H vs Q E hr h => ?_)
  · obtain ⟨a, fs, b, rfl, _⟩ := h
    rfl
  · obtain ⟨a, fs, b, rfl, ⟨vs, hS, hF⟩, hl, ho, k⟩ := h
    refine ⟨_, pss_one (ps_ret (pe_lc (own := [("top", 2), ("part", 3)]) (g := gTup K 2 (gCons (gName 2) (gCons (gName 3) gNil))) (tt := tYes) rfl scTops.nd (pi_list (pv 0))
        (blkOk_by (own := [("top", 2), ("part", 3)]) (N := ["fractions", "bottom", "top", "part"]) (sc := defScope s_tops_over) (by decide +kernel))
        (fun _ _ _ _ _ => pg_tup (by rfl) (pgs_cons (pg_name (i := 2) scTops.nd rfl (Or.inl rfl)) (pgs_cons (pg_name (i := 3) scTops.nd rfl (Or.inl rfl)) pgs_nil))) (fun _ _ _ _ _ => pts_nil)
        (fun _ _ _ _ _ => pe_op op_mul (pv 2) (pe_op op_fdivW (pv 1) (pv 3))))), ?_⟩
    refine ⟨_, rfl, a, rfl, ⟨_, hS⟩, fun D hD => ?_⟩
    refine lc_list (K := K) (a := a) (xs := vs) (fun i H' => Same H H' ∧ H' D = some (.lst ((topsOf (fs.take i) b).map V.int))) ⟨Same.new hD, upd_same⟩ (fun i H' _ h => h.1.seq hS) ?_ ?_
    · rintro i x H' hi ⟨s1, h1⟩
      obtain ⟨g, hg, t, rfl, hT⟩ := hF.2 i x hi
      obtain ⟨g1, g2, g3⟩ := ho g (List.mem_of_getElem? hg)
      have hil : i < fs.length := (List.getElem?_eq_some_iff.mp hg).1
      refine ⟨t, _, rfl, s1.sqT hT, rfl, _, _, rfl, _, _, rfl, rfl, ?_⟩
      refine ⟨rfl, _, rfl, _, rfl, _, rfl, _, _, rfl, rfl, wide_div g1 g2 (by decide) (by decide), _, _, rfl, rfl, .inl ⟨by omega, by omega⟩, _, h1, ?_, s1.mut hD, ?_⟩
      · unfold topsOf
        rw [List.length_map, List.length_map, List.length_take]
        exact small1000 (by omega)
      · unfold topsOf
        rw [upd_same, List.take_add_one, hg, List.map_append, List.map_append] <;> rfl
    · rintro H' ⟨s1, h1⟩
      rw [hF.1, List.take_length] at h1
      exact k D H' hD s1 h1
def spOne (K : PySem.W.Frag) : Sp := fun vs H Q _ => ∃ (a : Addr) (fs : List Fr), vs = [.ref a] ∧ FrsAt K H a fs ∧ fs.length ≤ 24 ∧ (∀ f ∈ fs, FrOk f) ∧ ∀ H', Same H H' → Q (.bl (decide ((topsOf fs (lcmAll fs : Nat)).sum = ((lcmAll fs : Nat) : Int)))) H'
theorem scOne : FnScope ["fractions", "bottom"] ["fractions"] (defScope s_are_one_together) := ⟨rfl, rfl, rfl, by decide +kernel, rfl, by decide +kernel, by decide +kernel⟩
theorem ok_one {f fC fT : Addr} {fd fdC fdT : FuncData} (F : Fun K "are_one_together" "are_one_together" s_are_one_together f fd) (T : Nm2 mg) (C : Cl P w K mg base CX0 1 "common_bottom" fC fdC ["fractions"] (spComB K))
    (U : Cl P w K mg base CX0 1 "tops_over" fT fdT ["fractions", "bottom"] (spTops K)) : FnOk P w K mg base CX0 2 f fd ["fractions"] (spOne K) := by
  refine F.ok scOne (fun vs H Q E h => ?_) (fun cdv A outer s H vs Q E hr h => ?_)
  · obtain ⟨a, fs, rfl, _⟩ := h
    rfl
  · obtain ⟨a, fs, rfl, hA, hl, ho, k⟩ := h
    refine ⟨_, pss_cons (ps_set (i := 1) scOne.nd rfl (Or.inl rfl) (C.call hr (pa_cons (pv 0) pa_nil)))
      (pss_one (ps_ret (pe_cmpR op_eq (pe_callB (cr_sum rfl) (by rfl) T.sum (by decide +kernel) (pa_cons (U.call hr (pa_cons (pv 0) (pa_cons (pv 1) pa_nil))) pa_nil)) (pv 1) (nomark _)))), ?_⟩
    refine ⟨_, rfl, a, fs, rfl, hA, hl, ho, ?_⟩
    refine ⟨_, rfl, _, rfl, a, fs, _, rfl, hA, hl, ho, fun p H' hp s1 h1 => ⟨p, _, rfl, SqL.of h1, _, rfl, rfl, ?_⟩⟩
    rw [dec_int]
    have z := k H' s1
    rw [show (((topsOf fs (lcmAll fs : Nat)).sum == ((lcmAll fs : Nat) : Int)) = decide ((topsOf fs (lcmAll fs : Nat)).sum = ((lcmAll fs : Nat) : Int))) from rfl]
    exact z
end
end Law
namespace PySem
namespace LawEnum
open AutoSeq1 (wpAny_loadPart')
theorem meets_enumerate_newT (l : Addr) (items : Array Value) (n : Nat) (dct : Option Addr) (sl : Array (Option Value)) :
    Meets (Builtin.«enumerate.__new__» ⟨[.type "enumerate", .ref l], []⟩) (fun _ R s => s.heap.get? l = some { cls := .type "tuple", dict := dct, data := .seq items n, slots := sl } ∧
      R (.ok (.ret (.ref (s.heap.push { cls := .type "tuple_iterator", data := .fields #[.ref l, .int 0 0] }).objs.size)))
        { s with heap := (s.heap.push { cls := .type "tuple_iterator", data := .fields #[.ref l, .int 0 0] }).push { cls := .type "enumerate", data := .fields #[.none, .bool false, .ref s.heap.objs.size, rawInt 0, .none, .none] } }) :=
  .of_wp fun prog w A R s h => by
    obtain ⟨hp, g, d, tk, os⟩ := s; obtain ⟨hl, h⟩ := h
    have hsub := sub_enumerate
    have hL : Heap.IsTuple (Shared.heap ⟨hp, g, d, tk, os⟩) l items := ⟨_, hl, rfl, n, rfl⟩
    wp_walk using wpAny_loadPart' hl
    refine wpAny_stack_any fun st => wpAny_pure ?_
    split
    · rename_i c _ _ _ _ _
      cases (c == Value.type "enumerate")
      · wp_walk using wpAny_loadPart' hl, wpAny_pyIter_tuple hL
        exact ⟨_, rfl, h⟩
      · wp_walk using wpAny_loadPart' hl, wpAny_pyIter_tuple hL
        exact ⟨_, rfl, h⟩
    · wp_walk using wpAny_loadPart' hl, wpAny_pyIter_tuple hL
      exact ⟨_, rfl, h⟩
section
variable {prog : Program} {w : World} {A : Around} {E : Value → Shared → Prop} {s : Shared}
theorem call_enumerate_tuple {l : Addr} {items : Array Value} {Q : Value → Shared → Prop} (hL : s.heap.IsTuple l items)
    (h : ∀ h', IsEnum h' (s.heap.objs.size + 1) s.heap.objs.size 0 .none → h'.IsTupleIter s.heap.objs.size l 0 → h'.objs.size = s.heap.objs.size + 2 →
      (∀ b o, s.heap.get? b = some o → h'.get? b = some o) → Q (.ref (s.heap.objs.size + 1)) { s with heap := h' }) :
    wpAny (model prog w) A (call (.type "enumerate") [.ref l]) Q E s := by
  obtain ⟨⟨c, dct, dt, sl⟩, hl, hc, n, hd⟩ := hL
  replace hc : c = .type "tuple" := hc
  replace hd : dt = .seq items n := hd
  subst hc hd
  refine callType_new F.called_enumerate (by decide) (F.typeCall_enumerate_1 _) (F.newCall_enumerate_1 _) (fun obj => F.args_object_init_2 obj _) F.entry_enumerate_new
    (meets_enumerate_newT l items n dct sl) ⟨hl, ?_⟩
  have hz : (s.heap.push { cls := .type "tuple_iterator", data := .fields #[.ref l, .int 0 0] }).objs.size = s.heap.objs.size + 1 := Heap.size_push ..
  show _ ∧ _
  rw [hz]
  have he : IsEnum ((s.heap.push { cls := .type "tuple_iterator", data := .fields #[.ref l, .int 0 0] }).push
      { cls := .type "enumerate", data := .fields #[.none, .bool false, .ref s.heap.objs.size, rawInt 0, .none, .none] }) (s.heap.objs.size + 1) s.heap.objs.size 0 .none := by
    have := Heap.get?_push_size (s.heap.push { cls := .type "tuple_iterator", data := .fields #[.ref l, .int 0 0] })
      (o := { cls := .type "enumerate", data := .fields #[.none, .bool false, .ref s.heap.objs.size, rawInt 0, .none, .none] }) rfl
    rw [hz] at this; exact this
  refine ⟨⟨_, he, rfl⟩, h _ he ⟨_, Heap.get?_push_of_some _ (Heap.get?_push_size _ rfl), rfl, rfl⟩ (by rw [Heap.size_push, hz]) fun b o x => Heap.get?_push_of_some _ (Heap.get?_push_of_some _ x)⟩
end
theorem draws_end {prog : Program} {w : World} {A : Around} (hh : A.handled = none) (it t : Addr) (items : Array Value) (i : Nat) (hx : items[i]? = none) :
    Draws prog w A it [it, t] 0 (fun _ _ => True) (fun _ h => h.IsTupleIter it t i ∧ h.IsTuple t items) where
  live := fun _ _ st => let ⟨o, ho, _⟩ := st.1; ⟨o, ho⟩
  frame := fun _ _ _ st hk => ⟨st.1.at fun o e => hk it (by simp) o e, st.2.at fun o e => hk t (by simp) o e⟩
  item := fun i s Q E hi st hQ => absurd hi (Nat.not_lt_zero i)
  done := fun s Q E st hE => wpAny_nextOf_tuple_end hh st.1 st.2 hx hE
end LawEnum
end PySem
namespace L2
open PySem PySem.Spec PyProof.Rows
/-- the tuple at a, item by item, each in a new pair with its number -/
def IteT (K : PySem.W.Frag) (a : Addr) : It :=
  ⟨fun i H => ∃ (xs : List V) (x : V), SqT K H a xs ∧ xs[i]? = some x, fun i H v H' => ∃ T x, v = .ref T ∧ H T = none ∧ H' = upd H T (.tup [.int (i : Nat), x]) ∧ ∀ xs, SqT K H a xs → xs[i]? = some x, fun i H => ∃ xs : List V, SqT K H a xs ∧ xs.length ≤ i⟩
theorem turn_enumT {P : Program} {w : World} {K : PySem.W.Frag} {elts : List Expr} {kk : Nat} {tpos : Pos} (a e it : Addr) :
    Turn P w K (.Tuple elts kk tpos) (IteT K a) [e, it] e (fun i h => (∃ old, IsEnum h e it ((i : Nat) : Int) old) ∧ h.IsTupleIter it a i ∧ e ≠ it ∧ a ≠ it ∧ e ≠ a) where
  mem := by simp
  obj := fun i h st b hb => by
    obtain ⟨⟨old, he⟩, ⟨o, ho, hc, hd⟩, _⟩ := st
    have e' : b = e ∨ b = it := by simpa using hb
    rcases e' with z | z
    · rw [z]; exact ⟨_, he, fun v q => nomatch q⟩
    · rw [z]; exact ⟨o, ho, fun v q => by rw [hd] at q; cases q⟩
  keep := fun i h h' st k => let ⟨⟨old, he⟩, hi, hne, h1, h2⟩ := st; ⟨⟨old, k e (by simp) _ he⟩, hi.at fun o q => k it (by simp) o q, hne, h1, h2⟩
  item := by
    intro X hP hw hK hc i pins s σ H E I hf st hg
    subst hP hw hK
    obtain ⟨⟨old, he⟩, hit, hne, hai, hea⟩ := st
    obtain ⟨xs, x, hq, hx⟩ := hg
    obtain ⟨its, rv, p, hz⟩ := I.tuple hq
    obtain ⟨u, hu, ru⟩ := rv.get hx
    have hel : e < s.heap.objs.size := Heap.lt_size he
    have hil : it < s.heap.objs.size := by obtain ⟨_, q, _⟩ := hit; exact Heap.lt_size q
    have hlt : i < its.toArray.size := by
      have z := (List.getElem?_eq_some_iff.mp hu).1
      simpa using z
    have D := Draws.tuple (prog := X.prog) (w := X.w) (A := X.A.in1) (I.ok.hd hc) it a hai its.toArray
    refine wpAny_pyNext_enum_itemD D he ⟨hit, p⟩ hlt hne (by simp [hne, hea]) fun x' h' tk hPx ho hit' hT hsz hk => ?_
    have ex : x' = u := by
      have z : its.toArray[i]? = some x' := hPx
      have z2 : its.toArray[i]? = some u := by simpa using hu
      rw [z2] at z
      exact (Option.some.inj z).symm
    subst ex
    refine ⟨_, rfl, wpAny_letOwnedTupleGo_enum (s := { s with heap := h', toks := tk + 1 }) ho fun h'' he' sb => ?_⟩
    have hT2 : h''.get? s.heap.objs.size = some { cls := .type "tuple", data := .seq #[.int i tk, x'] } := (sb.2 _ (Nat.ne_of_gt hel)).trans hT
    have new : ObjOk X.prog X.w (upd H s.heap.objs.size (.tup [.int (i : Nat), x])) h'' s.heap.objs.size (.tup [.int (i : Nat), x]) :=
      ⟨by show 2 ≤ sizeLine; decide, [.int i tk, x'], .cons ⟨_, rfl⟩ (.cons ru .nil), ⟨_, hT2, rfl, _, rfl⟩⟩
    have I1 : Inv X pins σ (upd H s.heap.objs.size (.tup [.int (i : Nat), x])) { s with heap := h'', toks := tk + 1 } :=
      I.turnedNew (ch := [e, it]) (fun b ob hb q => (sb.2 b (fun z => hb (by simp [z]))).trans (hk b ob (fun z => hb (by simp [z])) (fun z => hb (by simp [z])) q)) hf (Nat.le_refl _) new
    refine ⟨.ref s.heap.objs.size, _, I1, rfl, ⟨_, x, rfl, I.hok.fresh (Nat.le_refl _), rfl, fun ys hy => by rw [I.tuple_inj hy hq]; exact hx⟩, ⟨⟨x', ?_⟩, hit'.1.at fun o q => (sb.2 it (Ne.symm hne)).trans q, hne, hai, hea⟩, fun b hb => ?_⟩
    · have e1 : ((i + 1 : Nat) : Int) = (i : Int) + 1 := by omega
      rw [e1]; exact he'
    · have hb' : b < s.heap.objs.size := by
        have e' : b = e ∨ b = it := by simpa using hb
        rcases e' with z | z
        · rw [z]; exact hel
        · rw [z]; exact hil
      rw [upd_ne (Nat.ne_of_lt hb')]
      exact (hf b hb).1
  done := by
    intro X hP hw hK hc i pins s σ H E I hf st hg
    subst hP hw hK
    obtain ⟨⟨old, he⟩, hit, hne, hai, hea⟩ := st
    obtain ⟨xs, hq, hx⟩ := hg
    obtain ⟨its, rv, p, hz⟩ := I.tuple hq
    obtain ⟨f0, f1, f2, f3, f4, f5⟩ := hf it (by simp)
    have hl := rv.length
    have D := LawEnum.draws_end (prog := X.prog) (w := X.w) (A := X.A.in1) (I.ok.hd hc) it a its.toArray i (by simp; omega)
    exact wpAny_pyNext_enum_endD D he ⟨hit, p⟩ fun h' eb => ⟨rfl, I.turned (t' := s.toks) (fun b o hb q => eb b o hb q) f0 f1 f3 f4 f5⟩
  self := fun A i s Q E st h => let ⟨⟨_, he⟩, _⟩ := st; wpAny_pyIter_enum he h
def iEnumT (K : PySem.W.Frag) (ta : TA) : TI := fun σ H R => ta σ H fun vs H1 => ∃ a xs, vs = [.ref a] ∧ SqT K H1 a xs ∧ R (IteT K a) H1
theorem pi_enumT {X : Cx} {e : Expr} {ta : TA} {p pos tpos : Pos} {elts : List Expr} {kk : Nat} (hg : Gl X "enumerate") (hm : X.mg "enumerate" = none) (ha : PA X [e] ta) (hs : starEach [e] X.env = [(false, eval e X.env)] := by rfl) :
    PI X (.Tuple elts kk tpos) (.Call (.Name "enumerate" p) [e] [] pos) (iEnumT X.K ta) := by
  refine ⟨fun pins s σ H R I h => ?_⟩
  refine Call_ (ld_blt I hg hm boot_enumerate (PyProof.Rows.callWith_type1 (thn (ha.run pos pins s σ H _ I h) fun us s1 ⟨vs, H1, I1, r1, q1⟩ => ?_) hs rfl))
  obtain ⟨a, xs, ex, hq, q⟩ := q1
  subst ex
  cases r1 with
  | cons r rr =>
    cases rr
    cases r
    obtain ⟨its, rv, p', hz⟩ := I1.tuple hq
    have hal : a < s1.heap.objs.size := by obtain ⟨o, ho, _⟩ := p'; exact Heap.lt_size ho
    refine LawEnum.call_enumerate_tuple p' fun h' he hit hsz hk => wpAny_pyIter_enum he ?_
    have I2 : Inv X pins σ H1 { s1 with heap := h' } := I1.kept (t' := s1.toks) hk
    refine ⟨s1.heap.objs.size + 1, [s1.heap.objs.size + 1, s1.heap.objs.size], _, _, H1, rfl, I2, turn_enumT a (s1.heap.objs.size + 1) s1.heap.objs.size, ⟨⟨.none, he⟩, hit, Nat.succ_ne_self _, Nat.ne_of_lt hal, Nat.ne_of_gt (Nat.lt_succ_of_lt hal)⟩, fun b hb => ?_, q⟩
    have e' : b = s1.heap.objs.size + 1 ∨ b = s1.heap.objs.size := by simpa using hb
    have hle : s1.heap.objs.size ≤ b := by
      rcases e' with z | z
      · rw [z]; exact Nat.le_add_right _ _
      · rw [z]; exact Nat.le_refl _
    exact I1.fpOk hle (I1.hok.fresh hle)
theorem walk_enumT {K : PySem.W.Frag} {a : Addr} {xs : List V} : Walk (IteT K a) xs.length (fun H => SqT K H a xs) (fun i H v H' => ∃ T x, v = .ref T ∧ H T = none ∧ H' = upd H T (.tup [.int (i : Nat), x]) ∧ xs[i]? = some x) where
  goes := fun i H hi h => ⟨xs, xs[i], h, List.getElem?_eq_getElem hi⟩
  stops := fun H h => ⟨xs, h, Nat.le_refl _⟩
  yields := fun i H x H' hi h ⟨T, y, h1, h2, h3, h4⟩ => ⟨T, y, h1, h2, h3, h4 xs h⟩
end L2
namespace Law
open PySem L2
/-! ### data: ints, tuples of ints, moves -/
def tupD (l : List Int) : PyData := .tuple (l.map .int)
def frD (f : Fr) : PyData := .tuple [.int f.1, .int f.2]
abbrev Mv := Fr × List Int
def mvD (m : Mv) : PyData := .tuple [frD m.1, tupD m.2]
def mvsD (ms : List Mv) : PyData := .tuple (ms.map mvD)
theorem eqvAll_map {α : Type} [DecidableEq α] (g : α → PyData) (hg : ∀ a b, PyData.eqv (g a) (g b) = decide (a = b)) : ∀ xs ys : List α, PyData.eqvAll (xs.map g) (ys.map g) = decide (xs = ys)
  | [], [] => by simp [PyData.eqvAll]
  | [], _ :: _ => by simp [PyData.eqvAll]
  | _ :: _, [] => by simp [PyData.eqvAll]
  | x :: xs, y :: ys => by
    rw [List.map_cons, List.map_cons, PyData.eqvAll, hg, eqvAll_map g hg xs ys]
    by_cases h1 : x = y <;> by_cases h2 : xs = ys <;> simp [h1, h2]
theorem eqv_int (a b : Int) : PyData.eqv (.int a) (.int b) = decide (a = b) := by
  rw [PyData.eqv]
  rfl
theorem eqv_tupD (a b : List Int) : PyData.eqv (tupD a) (tupD b) = decide (a = b) := by
  unfold tupD
  rw [PyData.eqv]
  exact eqvAll_map PyData.int eqv_int a b
theorem eqv_frD (a b : Fr) : PyData.eqv (frD a) (frD b) = decide (a = b) := by
  obtain ⟨a1, a2⟩ := a
  obtain ⟨b1, b2⟩ := b
  unfold frD
  rw [PyData.eqv, PyData.eqvAll, PyData.eqvAll, PyData.eqvAll, eqv_int, eqv_int]
  by_cases h1 : a1 = b1 <;> by_cases h2 : a2 = b2 <;> simp [h1, h2]
theorem eqv_mvD (a b : Mv) : PyData.eqv (mvD a) (mvD b) = decide (a = b) := by
  obtain ⟨a1, a2⟩ := a
  obtain ⟨b1, b2⟩ := b
  unfold mvD
  rw [PyData.eqv, PyData.eqvAll, PyData.eqvAll, PyData.eqvAll, eqv_frD, eqv_tupD]
  by_cases h1 : a1 = b1 <;> by_cases h2 : a2 = b2 <;> simp [h1, h2]
theorem eqv_mvsD (a b : List Mv) : PyData.eqv (mvsD a) (mvsD b) = decide (a = b) := by
  unfold mvsD
  rw [PyData.eqv]
  exact eqvAll_map mvD eqv_mvD a b
theorem lay_all {α : Type} (g : α → PyData) (n : Nat) (hg : ∀ a, (g a).canLay0 = true ∧ (g a).depth ≤ n) : ∀ xs : List α, PyData.canLayAll0 (xs.map g) = true ∧ PyData.depthAll (xs.map g) ≤ n
  | [] => by simp [PyData.canLayAll0, PyData.depthAll]
  | x :: xs => by
    obtain ⟨h1, h2⟩ := hg x
    obtain ⟨h3, h4⟩ := lay_all g n hg xs
    rw [List.map_cons, PyData.canLayAll0, PyData.depthAll, h1, h3]
    exact ⟨rfl, Nat.max_le.mpr ⟨h2, h4⟩⟩
theorem lay_int (a : Int) : (PyData.int a).canLay0 = true ∧ (PyData.int a).depth ≤ 0 := by simp [PyData.canLay0, PyData.depth]
theorem lay_tupD (a : List Int) : (tupD a).canLay0 = true ∧ (tupD a).depth ≤ 1 := by
  have h := lay_all PyData.int 0 lay_int a
  unfold tupD
  rw [PyData.canLay0, PyData.depth]
  exact ⟨h.1, by omega⟩
theorem lay_frD (a : Fr) : (frD a).canLay0 = true ∧ (frD a).depth ≤ 1 := by simp [frD, PyData.canLay0, PyData.canLayAll0, PyData.depth, PyData.depthAll]
theorem lay_mvD (a : Mv) : (mvD a).canLay0 = true ∧ (mvD a).depth ≤ 2 := by
  have h1 := lay_frD a.1
  have h2 := lay_tupD a.2
  unfold mvD
  rw [PyData.canLay0, PyData.canLayAll0, PyData.canLayAll0, PyData.canLayAll0, PyData.depth, PyData.depthAll, PyData.depthAll, PyData.depthAll, h1.1, h2.1]
  exact ⟨rfl, by omega⟩
theorem lay_mvsD (a : List Mv) : (mvsD a).canLay0 = true ∧ (mvsD a).depth ≤ 3 := by
  have h := lay_all mvD 2 lay_mvD a
  unfold mvsD
  rw [PyData.canLay0, PyData.depth]
  exact ⟨h.1, by omega⟩
theorem shaped_of {d : PyData} {n : Nat} (h : d.canLay0 = true ∧ d.depth ≤ n) (hn : n ≤ 64) : SeqAt.shaped d = true := by
  unfold SeqAt.shaped
  rw [h.1, Bool.true_and, decide_eq_true (Nat.le_trans h.2 hn)]
theorem dp_ints {K : PySem.W.Frag} {H : Hp} : ∀ l : List Int, DpAll K H (l.map V.int) (l.map PyData.int)
  | [] => .nil
  | x :: l => .cons (.int x) (dp_ints l)
/-! ### moves and systems -/
def MvAt (K : PySem.W.Frag) (H : Hp) (v : V) (m : Mv) : Prop := ∃ a s l, v = .ref a ∧ SqT K H a [.ref s, .ref l] ∧ SqT K H s [.int m.1.1, .int m.1.2] ∧ SqT K H l (m.2.map V.int)
def MvsIn (K : PySem.W.Frag) (H : Hp) (vs : List V) (ms : List Mv) : Prop := vs.length = ms.length ∧ ∀ (i : Nat) (v : V), vs[i]? = some v → ∃ m, ms[i]? = some m ∧ MvAt K H v m
def MvsAt (K : PySem.W.Frag) (H : Hp) (a : Addr) (ms : List Mv) : Prop := ∃ vs, SqT K H a vs ∧ MvsIn K H vs ms
theorem MvAt.same {K : PySem.W.Frag} {H H' : Hp} {v : V} {m : Mv} (e : Same H H') (h : MvAt K H v m) : MvAt K H' v m := by
  obtain ⟨a, s, l, h1, h2, h3, h4⟩ := h
  exact ⟨a, s, l, h1, e.sqT h2, e.sqT h3, e.sqT h4⟩
theorem MvsIn.same {K : PySem.W.Frag} {H H' : Hp} {vs : List V} {ms : List Mv} (e : Same H H') (h : MvsIn K H vs ms) : MvsIn K H' vs ms := ⟨h.1, fun i v hv => by
  obtain ⟨m, h1, h2⟩ := h.2 i v hv
  exact ⟨m, h1, h2.same e⟩⟩
theorem MvsAt.same {K : PySem.W.Frag} {H H' : Hp} {a : Addr} {ms : List Mv} (e : Same H H') (h : MvsAt K H a ms) : MvsAt K H' a ms := by
  obtain ⟨vs, h1, h2⟩ := h
  exact ⟨vs, e.sqT h1, h2.same e⟩
theorem dp_mv {K : PySem.W.Frag} {H : Hp} {v : V} {m : Mv} (h : MvAt K H v m) : Dp K H v (mvD m) := by
  obtain ⟨a, s, l, rfl, h2, h3, h4⟩ := h
  exact .tup h2 (.cons (.tup h3 (.cons (.int _) (.cons (.int _) .nil))) (.cons (.tup h4 (dp_ints _)) .nil))
theorem dp_mvs {K : PySem.W.Frag} {H : Hp} : ∀ {vs : List V} {ms : List Mv}, MvsIn K H vs ms → DpAll K H vs (ms.map mvD)
  | [], [], _ => .nil
  | [], _ :: _, h => absurd h.1 (by simp)
  | _ :: _, [], h => absurd h.1 (by simp)
  | v :: vs, m :: ms, h => by
    obtain ⟨m', e, hm⟩ := h.2 0 v rfl
    cases e
    exact .cons (dp_mv hm) (dp_mvs ⟨by simpa using h.1, fun i x hx => h.2 (i + 1) x (by simpa using hx)⟩)
theorem dp_mvsAt {K : PySem.W.Frag} {H : Hp} {a : Addr} {ms : List Mv} (h : MvsAt K H a ms) : Dp K H (.ref a) (mvsD ms) := by
  obtain ⟨vs, h1, h2⟩ := h
  exact .tup h1 (dp_mvs h2)
def MvOk (many : Nat) (m : Mv) : Prop := FrOk m.1 ∧ 0 < m.1.1 ∧ Nat.gcd m.1.1.natAbs m.1.2.natAbs = 1 ∧ m.2.length = many ∧ ∀ x ∈ m.2, 0 ≤ x ∧ x < (many : Int)
abbrev OneOk (fs : List Fr) : Prop := (topsOf fs (lcmAll fs : Nat)).sum = ((lcmAll fs : Nat) : Int)
structure SysOk (many : Nat) (ms : List Mv) : Prop where
  m1 : 1 ≤ many
  m2 : many ≤ 12
  l1 : 1 ≤ ms.length
  l2 : ms.length ≤ 24
  mv : ∀ m ∈ ms, MvOk many m
  one : OneOk (ms.map (·.1))
theorem nMM : ¬ (("many" : Str) = "moves") := by decide +kernel
def sysF (many : Nat) (mv : Addr) : List (Str × V) := putF "moves" (.ref mv) (putF "many" (.int (many : Int)) [])
theorem sysF_eq (many : Nat) (mv : Addr) : sysF many mv = ([("many", V.int (many : Int)), ("moves", V.ref mv)] : List (Str × V)) := by
  show (if ("many" : Str) = "moves" then [(("many" : Str), V.ref mv)] else (("many" : Str), V.int (many : Int)) :: putF "moves" (V.ref mv) []) = _
  rw [if_neg nMM] <;> rfl
theorem sysF_many (many : Nat) (mv : Addr) : (sysF many mv).lookup ("many" : Str) = some (.int (many : Int)) := by
  unfold sysF
  rw [lookup_putF, if_neg nMM, lookup_putF, if_pos rfl]
theorem sysF_moves (many : Nat) (mv : Addr) : (sysF many mv).lookup ("moves" : Str) = some (.ref mv) := by
  unfold sysF
  rw [lookup_putF, if_pos rfl]
/-- a System stands at p -/
def SysAt (K : PySem.W.Frag) (C : Addr) (H : Hp) (p : Addr) (many : Nat) (ms : List Mv) : Prop := ∃ dx mv, H p = some (.ins C dx (sysF many mv)) ∧ MvsAt K H mv ms
theorem SysAt.same {K : PySem.W.Frag} {C : Addr} {H H' : Hp} {p : Addr} {many : Nat} {ms : List Mv} (e : Same H H') (h : SysAt K C H p many ms) : SysAt K C H' p many ms := by
  obtain ⟨dx, mv, h1, h2⟩ := h
  exact ⟨dx, mv, e _ _ h1, h2.same e⟩
/-- the class System, as the top has made it -/
structure SysT (K : PySem.W.Frag) (mg : Str → Option Value) (C : Addr) : Prop where
  cl : Cls K C
  nK : NoAttr K C "many"
  nM : NoAttr K C "moves"
  mgC : mg "System" = some (.ref C)
  ha : PySem.W.findIn K (.ref C) "__class__" = some (some (.builtin "object.__class__"))
  hn : PySem.W.specialIn K (.builtin "object.__class__") "__get__" = some (some (.builtin "getset_descriptor.__get__"))
  ht : PySem.W.takesIn K (.builtin "object.__class__") = some true
  hm : PySem.W.mroIn K C (.type "object") = some true
theorem SysAt.ty {K : PySem.W.Frag} {mg : Str → Option Value} {C : Addr} {H : Hp} {p : Addr} {many : Nat} {ms : List Mv} (T : SysT K mg C) (h : SysAt K C H p many ms) : TyX K H (.ref p) (.ref C) := by
  obtain ⟨dx, mv, h1, _⟩ := h
  exact .base (.ins h1 T.cl T.ha T.hn T.ht T.hm)
theorem kit_self {K : PySem.W.Frag} {v : Value} (h : (v == v) = true) : PySem.W.kitOne K v v = some true := by
  unfold PySem.W.kitOne
  rw [if_pos h]
theorem at0 (x y : V) : atI [x, y] (0 : Int) = some x := by
  unfold atI
  rw [show ixN [x, y].length (0 : Int) = some 0 from Evl.ixN_nat (n := 2) (j := 0) (by decide)]
  rfl
section
variable {P : Program} {w : World} {K : PySem.W.Frag} {mg : Str → Option Value} {base : Heap}
def spMove (K : PySem.W.Frag) : Sp := fun vs H Q _ => ∃ (many : Nat) (v : V) (m : Mv), vs = [.int (many : Int), v] ∧ many ≤ 12 ∧ MvAt K H v m ∧ MvOk many m ∧ ∀ H', Same H H' → Q (.bl true) H'
theorem scMove : FnScope ["many", "thing", "share", "leads"] ["many", "thing"] (defScope s_is_move) := ⟨rfl, rfl, rfl, by decide +kernel, rfl, by decide +kernel, by decide +kernel⟩
theorem ok_move {f fF fR : Addr} {fd fdF fdR : FuncData} (F : Fun K "is_move" "is_move" s_is_move f fd) (T : Nm2 mg) (G : Cl P w K mg base CX0 2 "is_fraction" fF fdF ["thing"] (spFrac K))
    (R : Cl P w K mg base CX0 3 "is_row_below" fR fdR ["bound", "thing"] (spRowB K)) : FnOk P w K mg base CX0 4 f fd ["many", "thing"] (spMove K) := by
  refine F.ok scMove (fun vs H Q E h => ?_) (fun cdv A outer s H vs Q E hr h => ?_)
  · obtain ⟨many, v, m, rfl, _⟩ := h
    rfl
  · obtain ⟨many, v, m, rfl, h12, ⟨a, t, l, rfl, hA, hT, hL⟩, ⟨⟨f1, f2, f3⟩, f4, f5, f6, f7⟩, k⟩ := h
    refine ⟨_, pss_cons (ps_if (PW.pt (pw_or (pt_not (pt_val (pe_callB call_isi (by rfl) T.isi (by decide +kernel) (pa_cons (pv 1) (pa_cons (pe_bltn (v := .ty "tuple") (u := .type "tuple") (by rfl) T.tuple (by decide +kernel) rfl) pa_nil)))))
        (pw_or1 (pt_cmpR op_ne (pe_callB call_len_seq (by rfl) T.len PySem.boot_len (pa_cons (pv 1) pa_nil)) pe_int (nomark _))))) (pss_one (ps_ret pe_bl)) pss_nil)
      (pss_cons (ps_asg (pv 1) (pg_tup (by rfl) (pgs_cons (pg_name (i := 2) scMove.nd rfl (Or.inl rfl)) (pgs_cons (pg_name (i := 3) scMove.nd rfl (Or.inl rfl)) pgs_nil))))
      (pss_one (ps_ret (pe_and (G.call (hr.mono (by decide)) (pa_cons (pv 2) pa_nil)) (pe_and (pe_cmpR op_gt (pe_ix ix_tup (pv 2) pe_int (fun _ _ => rfl)) pe_int (nomark _)) (pe_and (R.call hr (pa_cons (pv 0) (pa_cons (pv 3) pa_nil)))
        (pe_one (pe_cmpR op_eq (pe_callB call_len_seq (by rfl) T.len PySem.boot_len (pa_cons (pv 3) pa_nil)) (pv 0) (nomark _))))))))), ?_⟩
    refine ⟨_, rfl, _, _, _, _, _, rfl, .ty "tuple", tyx_tup hA, kit_tt, _, rfl, ?_⟩
    refine iteF ⟨_, rfl, a, _, rfl, .inr hA, rfl, _, rfl, iteF ?_⟩
    refine ⟨_, rfl, a, _, rfl, hA, rfl, _, _, rfl, _, _, rfl, rfl, ?_⟩
    refine ⟨_, rfl, t, _, _, rfl, hT, _, rfl, ?_⟩
    rw [decide_eq_true f1, f5]
    refine iteT ⟨_, rfl, t, _, _, _, rfl, rfl, hT, at0 _ _, _, _, rfl, rfl, _, rfl, ?_⟩
    rw [decide_eq_true f4]
    refine iteT ⟨_, rfl, _, rfl, _, l, _, rfl, hL, ?_, ?_, fun H' s1 => ⟨_, rfl, ?_⟩⟩
    · rw [List.length_map]
      omega
    · intro x hx
      obtain ⟨i, _, rfl⟩ := List.mem_map.mp hx
      exact ⟨i, rfl⟩
    · have hall : (m.2.map V.int).all (isW 0 ((many : Int) - 1)) = true := by
        rw [List.all_eq_true]
        intro x hx
        obtain ⟨i, hi, rfl⟩ := List.mem_map.mp hx
        obtain ⟨g1, g2⟩ := f7 i hi
        show (decide (0 ≤ i) && decide (i ≤ (many : Int) - 1)) = true
        rw [decide_eq_true g1, decide_eq_true (show i ≤ (many : Int) - 1 by omega)] <;> rfl
      rw [hall]
      refine iteT ⟨_, rfl, l, _, rfl, .inr (s1.sqT hL), _, rfl, rfl, ?_⟩
      rw [List.length_map, f6, decide_eq_true rfl]
      exact k H' s1
def spSInit (K : PySem.W.Frag) (C : Addr) : Sp := fun vs H Q _ => ∃ (p dx : Addr) (many : Nat) (mv : Addr) (ms : List Mv), vs = [.ref p, .int (many : Int), .ref mv] ∧ H p = some (.ins C dx []) ∧ MvsAt K H mv ms ∧ SysOk many ms ∧
  ∀ H', (∀ b o, b ≠ p → H b = some o → H' b = some o) → H' p = some (.ins C dx (sysF many mv)) → Q .non H'
theorem scSInit : FnScope ["self", "many", "moves", "number", "move", "share", "_"] ["self", "many", "moves"] (defScope s_System_init) := ⟨rfl, rfl, rfl, by decide +kernel, rfl, by decide +kernel, by decide +kernel⟩
theorem ok_sinit {f C fW fM fO : Addr} {fd fdW fdM fdO : FuncData} (F : Fun K "__init__" "System.__init__" s_System_init f fd) (T : Nm2 mg) (S : SysT K mg C) (W : Cl P w K mg base CX0 2 "is_within" fW fdW ["low", "high", "thing"] (spWithin K))
    (M : Cl P w K mg base CX0 4 "is_move" fM fdM ["many", "thing"] (spMove K)) (O : Cl P w K mg base CX0 2 "are_one_together" fO fdO ["fractions"] (spOne K)) : FnOk P w K mg base CX0 5 f fd ["self", "many", "moves"] (spSInit K C) := by
  refine F.ok scSInit (fun vs H Q E h => ?_) (fun cdv A outer s H vs Q E hr h => ?_)
  · obtain ⟨p, dx, many, mv, ms, rfl, _⟩ := h
    rfl
  · obtain ⟨p, dx, many, mv, ms, rfl, hp, ⟨vs, hV, hM⟩, ok, k⟩ := h
    have hvl : vs.length = ms.length := hM.1
    refine ⟨_, pss_cons (ps_if (pt_not (pt_val (W.call (hr.mono (by decide)) (pa_cons pe_int (pa_cons pe_int (pa_cons (pv 1) pa_nil)))))) pss_never pss_nil)
      (pss_cons (ps_if (PW.pt (pw_or (pt_not (pt_val (pe_callB call_isi (by rfl) T.isi (by decide +kernel) (pa_cons (pv 2) (pa_cons (pe_bltn (v := .ty "tuple") (u := .type "tuple") (by rfl) T.tuple (by decide +kernel) rfl) pa_nil)))))
        (pw_or1 (pt_not (pt_chain op_le op_le pe_int (pe_callB call_len_seq (by rfl) T.len PySem.boot_len (pa_cons (pv 2) pa_nil)) pe_int))))) pss_never pss_nil)
      (pss_cons (ps_for PassesOwn.never rfl (pi_enumT (by rfl) T.enum (pa_cons (pv 2) pa_nil)) (pg_tup (by rfl) (pgs_cons (pg_name (i := 3) scSInit.nd rfl (Or.inl rfl)) (pgs_cons (pg_name (i := 4) scSInit.nd rfl (Or.inl rfl)) pgs_nil)))
        (pss_one (ps_if (pt_not (pt_val (M.call hr (pa_cons (pv 1) (pa_cons (pv 4) pa_nil))))) pss_never pss_nil)))
      (pss_cons (ps_if (pt_not (pt_val (O.call (hr.mono (by decide)) (pa_cons (pe_lc (own := [("share", 5), ("_", 6)]) (g := gTup K 2 (gCons (gName 5) (gCons (gName 6) gNil))) (tt := tYes) rfl scSInit.nd (pi_tup (pv 2))
          (blkOk_by (own := [("share", 5), ("_", 6)]) (N := ["self", "many", "moves", "number", "move", "share", "_"]) (sc := defScope s_System_init) (by decide +kernel))
          (fun _ _ _ _ _ => pg_tup (by rfl) (pgs_cons (pg_name (i := 5) scSInit.nd rfl (Or.inl rfl)) (pgs_cons (pg_name (i := 6) scSInit.nd rfl (Or.inl rfl)) pgs_nil))) (fun _ _ _ _ _ => pts_nil) (fun _ _ _ _ _ => pv 5)) pa_nil)))) pss_never pss_nil)
      (pss_cons (ps_fld (pv 0) (pv 1) rfl) (pss_one (ps_fld (pv 0) (pv 2) rfl)))))), ?_⟩
    -- is_within(1, 12, many)
    refine ⟨_, rfl, 1, 12, _, rfl, .inl ⟨(many : Int), rfl, _, rfl, ?_⟩⟩
    rw [decide_eq_true (show (1 : Int) ≤ (many : Int) by have := ok.m1; omega), decide_eq_true (show (many : Int) ≤ 12 by have := ok.m2; omega)]
    -- isinstance(moves, tuple), 1 <= len(moves) <= 24
    refine iteF ⟨_, rfl, _, _, _, _, _, rfl, .ty "tuple", tyx_tup hV, kit_tt, _, rfl, iteF ⟨_, rfl, mv, _, rfl, .inr hV, _, _, rfl, rfl, _, rfl, ?_⟩⟩
    rw [decide_eq_true (show (1 : Int) ≤ ((vs.length : Nat) : Int) by have := ok.l1; omega)]
    refine iteT ⟨_, _, rfl, rfl, _, rfl, ?_⟩
    rw [decide_eq_true (show ((vs.length : Nat) : Int) ≤ 24 by have := ok.l2; omega)]
    refine iteF ?_
    -- for number, move in enumerate(moves)
    refine ⟨_, rfl, mv, vs, rfl, hV, for_it walk_enumT (fun i σ H' => Same H H' ∧ ∃ u v : Option V, σ = [some (.ref p), some (.int (many : Int)), some (.ref mv), u, v, none, none]) ⟨Same.refl H, none, none, rfl⟩ (fun i σ H' _ h => h.1.sqT hV) ?_ ?_⟩
    · rintro i x σ H1 H2 hi ⟨s1, u, v, rfl⟩ ⟨t, y, rfl, ht, rfl, hy⟩
      obtain ⟨m, hm, hA⟩ := hM.2 i y hy
      have s2 : Same H (upd H1 t (.tup [.int (i : Nat), y])) := fun b o e => Same.new ht b o (s1 b o e)
      refine ⟨t, _, rfl, SqT.of upd_same, rfl, _, _, rfl, _, _, rfl, rfl, ?_⟩
      refine ⟨_, rfl, _, rfl, many, _, m, rfl, ok.m2, hA.same s2, ok.mv m (List.mem_of_getElem? hm), fun H3 s3 => ⟨_, rfl, iteF ⟨s2.trans s3, _, _, rfl⟩⟩⟩
    · rintro σ H1 ⟨s1, u, v, rfl⟩
      -- the shares
      refine ⟨_, rfl, mv, rfl, ⟨_, s1.sqT hV⟩, fun D hD => ?_⟩
      refine lc_tup (K := K) (a := mv) (xs := vs) (fun i H' => Same H1 H' ∧ ∃ acc, H' D = some (.lst acc) ∧ FrsIn K H' acc ((ms.take i).map (·.1))) ⟨Same.new hD, [], upd_same, rfl, fun i v hv => by simp at hv⟩ (fun i H' _ h => (s1.trans h.1).sqT hV) ?_ ?_
      · rintro i x H2 hi ⟨s2, acc, h1, h2⟩
        obtain ⟨m, hm, a, t, l, rfl, hA, hT, hL⟩ := hM.2 i x hi
        have hil : i < ms.length := (List.getElem?_eq_some_iff.mp hm).1
        have s3 := s1.trans s2
        have hz : acc.length = i := by
          have z := h2.1
          rw [List.length_map, List.length_take] at z
          omega
        refine ⟨a, _, rfl, s3.sqT hA, rfl, _, _, rfl, _, _, rfl, rfl, ?_⟩
        have s4 : Same H1 (upd H2 D (.lst (acc ++ [.ref t]))) := s2.mut hD
        refine ⟨rfl, _, rfl, acc, h1, small1000 (by have := ok.l2; omega), s4, _, upd_same, ?_, fun j v hj => ?_⟩
        · rw [List.length_append, List.length_map, List.length_take]
          simp
          omega
        · by_cases hji : j < acc.length
          · rw [List.getElem?_append_left hji] at hj
            obtain ⟨f, g1, g2⟩ := h2.2 j v hj
            obtain ⟨q, g3, g4⟩ := g2
            refine ⟨f, ?_, q, g3, ?_⟩
            · rw [List.take_add_one, hm]
              simp only [Option.toList, List.map_append]
              rw [List.getElem?_append_left (by rw [List.length_map, List.length_take]; omega)]
              exact g1
            · rcases g4 with (z | ⟨o, z⟩) | z
              · refine .inl (.inl ?_)
                rw [upd_ne (ne_of z h1 (by intro y; cases y))]
                exact z
              · refine .inl (.inr ⟨o, ?_⟩)
                rw [upd_ne (ne_of z h1 (by intro y; cases y))]
                exact z
              · exact .inr z
          · have e : j = acc.length := by
              have z := (List.getElem?_eq_some_iff.mp hj).1
              rw [List.length_append] at z
              simp at z
              omega
            subst e
            rw [List.getElem?_append_right (Nat.le_refl _), Nat.sub_self] at hj
            have ev : V.ref t = v := Option.some.inj hj
            refine ⟨m.1, ?_, t, ev.symm, s4.sqT (s1.sqT hT)⟩
            rw [List.take_add_one, hm, hz]
            simp only [Option.toList, List.map_append]
            rw [List.getElem?_append_right (by rw [List.length_map, List.length_take]; omega), List.length_map, List.length_take, show i - min i ms.length = 0 by omega]
            rfl
      · rintro H2 ⟨s2, acc, h1, h2⟩
        rw [hvl, List.take_length] at h2
        refine ⟨D, ms.map (·.1), rfl, ⟨acc, SqL.of h1, h2⟩, by rw [List.length_map]; exact ok.l2, ?_, fun H3 s3 => ⟨_, rfl, ?_⟩⟩
        · intro f hf
          obtain ⟨m, hm, rfl⟩ := List.mem_map.mp hf
          exact (ok.mv m hm).1
        rw [decide_eq_true ok.one]
        have s4 := (s1.trans s2).trans s3
        refine iteF ⟨_, rfl, _, rfl, p, C, dx, [], rfl, s4 _ _ hp, S.cl, S.nK, (by show 0 < 1000; decide), _, rfl, _, rfl, p, C, dx, _, rfl, upd_same, S.cl, S.nM, (by show 1 < 1000; decide), ?_⟩
        rw [upd_upd]
        exact k _ (fun b o n e => by rw [upd_ne n]; exact s4 b o e) upd_same
def spSEq (K : PySem.W.Frag) (C : Addr) : Sp := fun vs H Q _ => ∃ (p q : Addr) (m1 m2 : Nat) (ms1 ms2 : List Mv), vs = [.ref p, .ref q] ∧ SysAt K C H p m1 ms1 ∧ SysAt K C H q m2 ms2 ∧ Q (.bl (decide (m1 = m2) && decide (ms1 = ms2))) H
theorem scSEq : FnScope ["self", "other"] ["self", "other"] (defScope s_System_eq) := ⟨rfl, rfl, rfl, by decide +kernel, rfl, by decide +kernel, by decide +kernel⟩
theorem ok_seq {f C : Addr} {fd : FuncData} (F : Fun K "__eq__" "System.__eq__" s_System_eq f fd) (T : Nm2 mg) (S : SysT K mg C) : FnOk P w K mg base CX0 1 f fd ["self", "other"] (spSEq K C) := by
  refine F.ok scSEq (fun vs H Q E h => ?_) (fun cdv A outer s H vs Q E hr h => ?_)
  · obtain ⟨p, q, m1, m2, ms1, ms2, rfl, _⟩ := h
    rfl
  · obtain ⟨p, q, m1, m2, ms1, ms2, rfl, h1, h2, k⟩ := h
    obtain ⟨d1, v1, a1, b1⟩ := id h1
    obtain ⟨d2, v2, a2, b2⟩ := id h2
    refine ⟨_, pss_one (ps_ret (pe_and (pe_callB call_isi (by rfl) T.isi (by decide +kernel) (pa_cons (pv 1) (pa_cons (pe_glob (v := .ref C) (u := .ref C) rfl S.mgC rfl) pa_nil)))
      (pe_and (pe_cmpR op_eq (pe_fld (pv 0) rfl) (pe_fld (pv 1) rfl) (nomark _)) (pe_one (pe_cmpR (op_eqD hr.units) (pe_fld (pv 0) rfl) (pe_fld (pv 1) rfl) (nomark _)))))), ?_⟩
    refine ⟨_, rfl, _, _, _, _, _, rfl, .own C, h2.ty S, kit_self (by simp), _, rfl, iteT ?_⟩
    refine ⟨_, rfl, p, C, d1, _, _, rfl, a1, S.cl, S.nK, sysF_many _ _, _, rfl, q, C, d2, _, _, rfl, a2, S.cl, S.nK, sysF_many _ _, rfl, _, rfl, ?_⟩
    have e1 : decide (V.int (m1 : Int) = V.int (m2 : Int)) = decide (m1 = m2) := by
      by_cases e : m1 = m2
      · subst e
        rw [decide_eq_true rfl, decide_eq_true rfl]
      · rw [decide_eq_false e, decide_eq_false (fun z => e (by have := V.int.inj z; omega))]
    rw [e1]
    refine ite2 (fun h => ?_) (fun h => ?_)
    · refine ⟨_, rfl, p, C, d1, _, _, rfl, a1, S.cl, S.nM, sysF_moves _ _, _, rfl, q, C, d2, _, _, rfl, a2, S.cl, S.nM, sysF_moves _ _, mvsD ms1, mvsD ms2, dp_mvsAt b1, dp_mvsAt b2, shaped_of (lay_mvsD _) (by decide), shaped_of (lay_mvsD _) (by decide), ?_⟩
      rw [eqv_mvsD]
      rw [h, Bool.true_and] at k
      exact k
    · rw [Bool.not_eq_true] at h
      rw [h, Bool.false_and] at k
      exact k
end
end Law
namespace Law
open PySem L2
/-! ### lowest terms -/
structure Lg (P : Program) (K : PySem.W.Frag) : Prop where
  seer : seerB K = true
  tree : P.given.tree = none
theorem hi_dp {k : Nat} {A : Around} (hr : Room k A) (h : 33 ≤ k) : A.depth + Builtin.pylongFrames < recursionLimit := by
  have z := hr.dp
  have e : Builtin.pylongFrames = 100 := rfl
  rw [e]
  omega
def gI (t b : Int) : Int := ((Nat.gcd t.natAbs b.natAbs : Nat) : Int)
theorem gI_pos {t b : Int} (h : 0 < b) : 0 < gI t b := by
  have z : 0 < Nat.gcd t.natAbs b.natAbs := Nat.gcd_pos_of_pos_right _ (by omega)
  unfold gI
  omega
def lowP (t b : Int) : Fr := (t / gI t b, b / gI t b)
section
variable {P : Program} {w : World} {K : PySem.W.Frag} {mg : Str → Option Value} {base : Heap}
def spLow : Sp := fun vs H Q _ => ∃ (t b : Int), vs = [.int t, .int b] ∧ 0 ≤ t ∧ 0 < b ∧ ∀ p, H p = none → Q (.ref p) (upd H p (.tup [.int (lowP t b).1, .int (lowP t b).2]))
theorem scFraction : FnScope ["top", "bottom", "part"] ["top", "bottom"] (defScope s_fraction) := ⟨rfl, rfl, rfl, by decide +kernel, rfl, by decide +kernel, by decide +kernel⟩
theorem ok_fraction {f : Addr} {fd : FuncData} (F : Fun K "fraction" "fraction" s_fraction f fd) (T : Nm2 mg) (G : Lg P K) : FnOk P w K mg base CX0 34 f fd ["top", "bottom"] spLow := by
  refine F.ok scFraction (fun vs H Q E h => ?_) (fun cdv A outer s H vs Q E hr h => ?_)
  · obtain ⟨t, b, rfl, _⟩ := h
    rfl
  · obtain ⟨t, b, rfl, ht, hb, k⟩ := h
    refine ⟨_, pss_cons (ps_set (i := 2) scFraction.nd rfl (Or.inl rfl) (pe_callBfun cr_gcd (by rfl) T.gcd (pa_cons (pv 0) (pa_cons (pv 1) pa_nil))))
      (pss_cons (ps_if (pt_cmpR op_lt (pv 1) pe_int (nomark _)) pss_never pss_nil)
      (pss_one (ps_ret (pe_tup (pa_cons (pe_op (op_fdivB ⟨G.seer, G.tree, hi_dp hr (by decide), rfl, rfl, rfl⟩) (pv 0) (pv 2)) (pa_cons (pe_op (op_fdivB ⟨G.seer, G.tree, hi_dp hr (by decide), rfl, rfl, rfl⟩) (pv 1) (pv 2)) pa_nil)))))), ?_⟩
    have gp : (0 : Int) < gI t b := gI_pos hb
    refine ⟨_, rfl, _, rfl, t, b, rfl, ?_⟩
    refine ⟨_, rfl, _, _, rfl, rfl, _, rfl, ?_⟩
    rw [decide_eq_false (show ¬ b < 0 by omega)]
    refine iteF ⟨_, rfl, _, rfl, _, _, rfl, rfl, gp, _, rfl, _, rfl, _, _, rfl, rfl, gp, ?_⟩
    exact ⟨(by show 2 ≤ sizeLine; decide), fun p hp => k p hp⟩
theorem scLow : FnScope ["_law_top", "_law_bottom", "_law_one", "_law_other"] ["_law_top", "_law_bottom"] (defScope s_law_low) := ⟨rfl, rfl, rfl, by decide +kernel, rfl, by decide +kernel, by decide +kernel⟩
theorem gI_step {x y : Int} (hx : 0 ≤ x) (hy : 0 < y) : gI y (x % y) = gI x y := by
  obtain ⟨a, rfl⟩ := Int.eq_ofNat_of_zero_le hx
  obtain ⟨c, rfl⟩ := Int.eq_ofNat_of_zero_le (Int.le_of_lt hy)
  unfold gI
  rw [← Int.natCast_emod, Int.natAbs_natCast, Int.natAbs_natCast, Int.natAbs_natCast, Nat.gcd_comm c, ← Nat.gcd_rec, Nat.gcd_comm]
theorem gI_zero {x : Int} (hx : 0 ≤ x) : gI x 0 = x := by
  unfold gI
  rw [show (0 : Int).natAbs = 0 from rfl, Nat.gcd_zero_right]
  omega
theorem ok_low {f : Addr} {fd : FuncData} (F : Fun K "_law_low" "_law_low" s_law_low f fd) (T : Nm mg) (G : Lg P K) : FnOk P w K mg base CX0 34 f fd ["_law_top", "_law_bottom"] spLow := by
  refine F.ok scLow (fun vs H Q E h => ?_) (fun cdv A outer s H vs Q E hr h => ?_)
  · obtain ⟨t, b, rfl, _⟩ := h
    rfl
  · obtain ⟨t, b, rfl, ht, hb, k⟩ := h
    refine ⟨_, pss_cons (ps_par (i := 2) (j := 3) (by rfl) scLow.nd rfl rfl (by decide) rfl rfl (pa_cons (pe_callB call_abs (by rfl) T.abs (by decide +kernel) (pa_cons (pv 0) pa_nil)) (pa_cons (pv 1) pa_nil)) (by rfl))
      (pss_cons (ps_while PassesOwn.never (pt_cmpR op_gt (pv 3) pe_int (nomark _)) (pss_one (ps_par (i := 2) (j := 3) (by rfl) scLow.nd rfl rfl (by decide) rfl rfl (pa_cons (pv 3) (pa_cons (pe_op op_mod (pe_callTy call_int1 (by rfl) T.int (by decide +kernel) (pa_cons (pv 2) pa_nil)) (pv 3)) pa_nil)) (by rfl))))
      (pss_one (ps_ret (pe_tup (pa_cons (pe_op (op_fdivB ⟨G.seer, G.tree, hi_dp hr (by decide), rfl, rfl, rfl⟩) (pv 0) (pv 2)) (pa_cons (pe_op (op_fdivB ⟨G.seer, G.tree, hi_dp hr (by decide), rfl, rfl, rfl⟩) (pv 1) (pv 2)) pa_nil)))))), ?_⟩
    have gp : (0 : Int) < gI t b := gI_pos hb
    refine ⟨_, rfl, t, rfl, _, rfl, _, _, rfl, ?_⟩
    rw [if_neg (show ¬ t < 0 by omega)]
    refine ⟨fun m σ H' => H' = H ∧ ∃ x y : Int, σ = [some (.int t), some (.int b), some (.int x), some (.int y)] ∧ 0 ≤ x ∧ 0 ≤ y ∧ gI x y = gI t b ∧ m = y.toNat, ⟨_, rfl, t, b, rfl, ht, by omega, rfl, rfl⟩, ?_⟩
    rintro m σ H' ⟨rfl, x, y, rfl, hx, hy, e, rfl⟩
    refine ⟨_, rfl, _, _, rfl, rfl, _, rfl, ite2 (fun h1 => ?_) (fun h1 => ?_)⟩
    · have y0 : 0 < y := of_decide_eq_true h1
      refine ⟨fun σ' H1 => H1 = H' ∧ ∃ x' y' : Int, σ' = [some (.int t), some (.int b), some (.int x'), some (.int y')] ∧ 0 ≤ x' ∧ 0 ≤ y' ∧ gI x' y' = gI t b ∧ y'.toNat < y.toNat, ?_, ?_⟩
      · rintro σ' H1 ⟨rfl, x', y', rfl, a1, a2, a3, a4⟩
        exact ⟨_, a4, rfl, x', y', rfl, a1, a2, a3, rfl⟩
      · refine ⟨_, rfl, _, rfl, .inl ⟨_, rfl, _, rfl, _, _, rfl, rfl, y0, _, _, rfl, ?_⟩⟩
        have r0 := Int.emod_nonneg x (show y ≠ 0 by omega)
        have r1 := Int.emod_lt_of_pos x y0
        exact ⟨rfl, y, x % y, rfl, by omega, r0, by rw [gI_step hx y0]; exact e, by omega⟩
    · have y0 : y = 0 := by
        have z : ¬ 0 < y := fun q => h1 (decide_eq_true q)
        omega
      subst y0
      rw [gI_zero hx] at e
      subst e
      refine ⟨_, rfl, _, rfl, _, _, rfl, rfl, gp, _, rfl, _, rfl, _, _, rfl, rfl, gp, ?_⟩
      exact ⟨(by show 2 ≤ sizeLine; decide), fun p hp => k p hp⟩
end
end Law
namespace Law
open PySem L2
/-! ### states with a hand -/
theorem keep_sqT {K : PySem.W.Frag} {H H' : Hp} {a p : Addr} {xs : List V} (k : ∀ b o, b ≠ p → H b = some o → H' b = some o) (hp : ∃ ks, H p = some (.dK ks)) (h : SqT K H a xs) : SqT K H' a xs := by
  obtain ⟨ks, hp⟩ := hp
  rcases h with (h | ⟨o, h⟩) | h
  · exact .inl (.inl (k _ _ (ne_of h hp (by intro z; cases z)) h))
  · exact .inl (.inr ⟨o, k _ _ (ne_of h hp (by intro z; cases z)) h⟩)
  · exact .inr h
theorem HandAt.dk {H : Hp} {p : Addr} (h : HandAt H p) : ∃ ks, H p = some (.dK ks) := by
  obtain ⟨ca, cells, a, g, s, t, hp, _⟩ := h
  exact ⟨_, hp⟩
theorem HandAt.same {H H' : Hp} {p : Addr} (s : Same H H') (h : HandAt H p) : HandAt H' p := by
  obtain ⟨ca, cells, a, g, s0, t, hp, hc, r⟩ := h
  exact ⟨ca, cells, a, g, s0, t, s _ _ hp, s _ _ hc, r⟩
theorem Stp.pre {p : Addr} {H H1 H2 : Hp} (s : Same H H1) (t : Stp p H1 H2) : Stp p H H2 := ⟨fun b o n e => t.keep b o n (s b o e), fun c ⟨a, g, s0, u, h⟩ => t.cell c ⟨a, g, s0, u, s _ _ h⟩, t.hand⟩
theorem Stp.post {p : Addr} {H H1 H2 : Hp} (t : Stp p H H1) (s : Same H1 H2) : Stp p H H2 := ⟨fun b o n e => s _ _ (t.keep b o n e), fun c hc => by
  obtain ⟨a, g, s0, u, h⟩ := t.cell c hc
  exact ⟨a, g, s0, u, s _ _ h⟩, t.hand.same s⟩
theorem Stp.of {p : Addr} {H H' : Hp} (h : HandAt H p) (s : Same H H') : Stp p H H' := (Stp.refl h).post s
theorem atI_nat {xs : List V} {i : Nat} {x : V} (h : xs[i]? = some x) : atI xs ((i : Nat) : Int) = some x := by
  unfold atI
  rw [Evl.ixN_nat (List.getElem?_eq_some_iff.mp h).1]
  exact h
theorem at_len {xs : List V} {i : Nat} (h : i < xs.length) : ∃ x, xs[i]? = some x ∧ x ∈ xs ∧ atI xs ((i : Nat) : Int) = some x := ⟨xs[i], List.getElem?_eq_getElem h, List.getElem_mem h, atI_nat (List.getElem?_eq_getElem h)⟩
theorem ats0 (x y : V) : atI [x, y] (0 : Int) = some x := atI_nat (i := 0) rfl
theorem ats1 (x y : V) : atI [x, y] (1 : Int) = some y := atI_nat (i := 1) rfl
end Law
namespace Law
open PySem L2
/-! ### the product of two, the size -/
section
variable {P : Program} {w : World} {K : PySem.W.Frag} {mg : Str → Option Value} {base : Heap}
def spTimes (K : PySem.W.Frag) : Sp := fun vs H Q _ => ∃ (a c : Addr) (f g : Fr), vs = [.ref a, .ref c] ∧ SqT K H a [.int f.1, .int f.2] ∧ SqT K H c [.int g.1, .int g.2] ∧ 0 ≤ f.1 ∧ 0 ≤ g.1 ∧ 0 < f.2 ∧ 0 < g.2 ∧
  f.1.natAbs < 2 ^ 100000 ∧ f.2.natAbs < 2 ^ 100000 ∧ g.1.natAbs < 2 ^ 100000 ∧ g.2.natAbs < 2 ^ 100000 ∧ ∀ p, H p = none → Q (.ref p) (upd H p (.tup [.int (lowP (f.1 * g.1) (f.2 * g.2)).1, .int (lowP (f.1 * g.1) (f.2 * g.2)).2]))
theorem scTimes : FnScope ["_law_one", "_law_other"] ["_law_one", "_law_other"] (defScope s_law_times) := ⟨rfl, rfl, rfl, by decide +kernel, rfl, by decide +kernel, by decide +kernel⟩
theorem ok_times {f fL : Addr} {fd fdL : FuncData} (F : Fun K "_law_times" "_law_times" s_law_times f fd) (L : Cl P w K mg base CX0 34 "_law_low" fL fdL ["_law_top", "_law_bottom"] spLow) : FnOk P w K mg base CX0 35 f fd ["_law_one", "_law_other"] (spTimes K) := by
  refine F.ok scTimes (fun vs H Q E h => ?_) (fun cdv A outer s H vs Q E hr h => ?_)
  · obtain ⟨a, c, f, g, rfl, _⟩ := h
    rfl
  · obtain ⟨a, c, f, g, rfl, ha, hc, f1, g1, f2, g2, b1, b2, b3, b4, k⟩ := h
    refine ⟨_, pss_one (ps_ret (L.call hr (pa_cons (pe_op op_mulW (pe_ix ix_tup (pv 0) pe_int (fun _ _ => rfl)) (pe_ix ix_tup (pv 1) pe_int (fun _ _ => rfl)))
      (pa_cons (pe_op op_mulW (pe_ix ix_tup (pv 0) pe_int (fun _ _ => rfl)) (pe_ix ix_tup (pv 1) pe_int (fun _ _ => rfl))) pa_nil)))), ?_⟩
    refine ⟨_, rfl, a, _, _, _, rfl, rfl, ha, ats0 _ _, _, rfl, c, _, _, _, rfl, rfl, hc, ats0 _ _, _, _, rfl, rfl, wide_mul b1 b3 (by decide) (by decide) (by decide), ?_⟩
    refine ⟨_, rfl, a, _, _, _, rfl, rfl, ha, ats1 _ _, _, rfl, c, _, _, _, rfl, rfl, hc, ats1 _ _, _, _, rfl, rfl, wide_mul b2 b4 (by decide) (by decide) (by decide), ?_⟩
    exact ⟨_, _, rfl, Int.mul_nonneg f1 g1, Int.mul_pos f2 g2, k⟩
def spSize : Sp := fun vs H Q _ => ∃ (p : Addr), vs = [.ref p] ∧ HandAt H p ∧ ∀ (n : Nat) (H' : Hp), 1 ≤ n → n ≤ 12 → Stp p H H' → Q (.int n) H'
theorem scSize : FnScope ["_law_hand_here"] ["_law_hand_here"] (defScope s_law_size) := ⟨rfl, rfl, rfl, by decide +kernel, rfl, by decide +kernel, by decide +kernel⟩
theorem ok_size {f fD fA : Addr} {fd fdD fdA : FuncData} (F : Fun K "_law_size" "_law_size" s_law_size f fd) (D : Cl P w K mg base CX0 1 "_law_draw" fD fdD ["_law_hand_here", "_law_many"] spDraw)
    (A : Cl P w K mg base CX0 2 "_law_any" fA fdA ["_law_hand_here", "_law_things"] (spAny K)) : FnOk P w K mg base CX0 3 f fd ["_law_hand_here"] spSize := by
  refine F.ok scSize (fun vs H Q E h => ?_) (fun cdv A' outer s H vs Q E hr h => ?_)
  · obtain ⟨p, rfl, _⟩ := h
    rfl
  · obtain ⟨p, rfl, hH, k⟩ := h
    refine ⟨_, pss_one (ps_ret (pe_ifExp (pt_cmpR op_gt (D.call (hr.mono (by decide)) (pa_cons (pv 0) (pa_cons pe_int pa_nil))) pe_int (nomark _))
      (A.call hr (pa_cons (pv 0) (pa_cons (pe_lst (pa_cons pe_int (pa_cons pe_int (pa_cons pe_int (pa_cons pe_int (pa_cons pe_int (pa_cons pe_int (pa_cons pe_int (pa_cons pe_int (pa_cons pe_int (pa_cons pe_int pa_nil))))))))))) pa_nil)))
      (pe_op op_add pe_int (D.call (hr.mono (by decide)) (pa_cons (pv 0) (pa_cons pe_int pa_nil)))))), ?_⟩
    refine ⟨_, rfl, p, 12, rfl, by decide, by decide, hH, fun d H1 d0 d1 S1 => ?_⟩
    refine ⟨_, _, rfl, rfl, _, rfl, ite2 (fun _ => ?_) (fun _ => ?_)⟩
    · refine ⟨_, rfl, by show 10 ≤ sizeLine; decide, fun q hq => ?_⟩
      have s2 : Same H1 (upd H1 q (.lst [.int 1, .int 2, .int 2, .int 3, .int 3, .int 4, .int 4, .int 5, .int 5, .int 6])) := Same.new hq
      refine ⟨p, q, _, rfl, .inl (SqL.of upd_same), by decide, by decide, S1.hand.same s2, fun i x H2 hi S2 => ?_⟩
      have S : Stp p H H2 := S1.trans (S2.pre s2)
      have e : ∃ n : Nat, x = .int n ∧ 1 ≤ n ∧ n ≤ 12 := by
        have hx := List.mem_of_getElem? hi
        simp only [List.mem_cons, List.not_mem_nil, or_false] at hx
        rcases hx with rfl | rfl | rfl | rfl | rfl | rfl | rfl | rfl | rfl | rfl
        · exact ⟨1, rfl, by decide, by decide⟩
        · exact ⟨2, rfl, by decide, by decide⟩
        · exact ⟨2, rfl, by decide, by decide⟩
        · exact ⟨3, rfl, by decide, by decide⟩
        · exact ⟨3, rfl, by decide, by decide⟩
        · exact ⟨4, rfl, by decide, by decide⟩
        · exact ⟨4, rfl, by decide, by decide⟩
        · exact ⟨5, rfl, by decide, by decide⟩
        · exact ⟨5, rfl, by decide, by decide⟩
        · exact ⟨6, rfl, by decide, by decide⟩
      obtain ⟨n, rfl, n1, n2⟩ := e
      exact k n H2 n1 n2 S
    · refine ⟨_, rfl, p, 6, rfl, by decide, by decide, S1.hand, fun d H2 d0 d1 S2 => ⟨_, _, rfl, rfl, ?_⟩⟩
      obtain ⟨j, rfl⟩ := Int.eq_ofNat_of_zero_le d0
      have z := k (7 + j) H2 (by omega) (by omega) (S1.trans S2)
      rw [Int.natCast_add] at z
      exact z
end
/-! ### shares that are one together -/
theorem lcm_dvd_fold : ∀ (fs : List Fr) (m n : Nat), n ∣ m → n ∣ fs.foldl (fun m f => Nat.lcm m f.2.natAbs) m
  | [], _, _, h => h
  | f :: fs, m, n, h => lcm_dvd_fold fs _ n (Nat.dvd_trans h (Nat.dvd_lcm_left _ _))
theorem dvd_fold : ∀ (fs : List Fr) (m : Nat) (f : Fr), f ∈ fs → f.2.natAbs ∣ fs.foldl (fun m f => Nat.lcm m f.2.natAbs) m
  | [], _, _, h => nomatch h
  | g :: fs, m, f, h => by
    rcases List.mem_cons.mp h with rfl | h
    · exact lcm_dvd_fold fs _ _ (Nat.dvd_lcm_right _ _)
    · exact dvd_fold fs _ f h
theorem dvd_lcmAll {fs : List Fr} {f : Fr} (h : f ∈ fs) : f.2.natAbs ∣ lcmAll fs := dvd_fold fs 1 f h
theorem sum_scale (S : Int) (g : Int → Int) (L : Int) : ∀ ws : List Int, (∀ x ∈ ws, S * g x = x * L) → S * (ws.map g).sum = ws.sum * L
  | [], _ => by simp
  | x :: ws, h => by
    rw [List.map_cons, List.sum_cons, List.sum_cons, Int.mul_add, Int.add_mul, h x List.mem_cons_self, sum_scale S g L ws fun y hy => h y (List.mem_cons_of_mem _ hy)]
theorem lowP_cross {t b : Int} (hb : 0 < b) : b * (lowP t b).1 = t * (lowP t b).2 := by
  have gp := gI_pos (t := t) hb
  have d1 : gI t b ∣ t := by
    unfold gI
    exact Int.ofNat_dvd_left.mpr (Nat.gcd_dvd_left _ _)
  have d2 : gI t b ∣ b := by
    unfold gI
    exact Int.ofNat_dvd_left.mpr (Nat.gcd_dvd_right _ _)
  show b * (t / gI t b) = t * (b / gI t b)
  rw [← Int.mul_ediv_assoc _ d1, ← Int.mul_ediv_assoc _ d2, Int.mul_comm]
theorem lowP_pos {t b : Int} (ht : 0 < t) (hb : 0 < b) : 0 < (lowP t b).1 ∧ 0 < (lowP t b).2 := by
  have gp := gI_pos (t := t) hb
  have d1 : gI t b ∣ t := by
    unfold gI
    exact Int.ofNat_dvd_left.mpr (Nat.gcd_dvd_left _ _)
  have d2 : gI t b ∣ b := by
    unfold gI
    exact Int.ofNat_dvd_left.mpr (Nat.gcd_dvd_right _ _)
  exact ⟨Int.ediv_pos_of_pos_of_dvd ht (Int.le_of_lt gp) d1, Int.ediv_pos_of_pos_of_dvd hb (Int.le_of_lt gp) d2⟩
theorem lowP_le {t b : Int} (ht : 0 ≤ t) (hb : 0 < b) : (lowP t b).1 ≤ t ∧ (lowP t b).2 ≤ b := ⟨Int.ediv_le_self _ ht, Int.ediv_le_self _ (Int.le_of_lt hb)⟩
theorem lowP_cop {t b : Int} (ht : 0 ≤ t) (hb : 0 < b) : Nat.gcd (lowP t b).1.natAbs (lowP t b).2.natAbs = 1 := by
  obtain ⟨a, rfl⟩ := Int.eq_ofNat_of_zero_le ht
  obtain ⟨c, rfl⟩ := Int.eq_ofNat_of_zero_le (Int.le_of_lt hb)
  have z : 0 < Nat.gcd a c := Nat.gcd_pos_of_pos_right _ (by omega)
  have e : ∀ x : Nat, ((x : Int) / gI (a : Int) (c : Int)).natAbs = x / Nat.gcd a c := fun x => by
    unfold gI
    rw [Int.natAbs_natCast, Int.natAbs_natCast, ← Int.natCast_ediv, Int.natAbs_natCast]
  show Nat.gcd ((a : Int) / gI (a : Int) (c : Int)).natAbs ((c : Int) / gI (a : Int) (c : Int)).natAbs = 1
  rw [e, e]
  exact Nat.coprime_div_gcd_div_gcd z
theorem sum_pos : ∀ ws : List Int, ws ≠ [] → (∀ x ∈ ws, 0 < x) → 0 < ws.sum ∧ ∀ x ∈ ws, x ≤ ws.sum
  | [], h, _ => absurd rfl h
  | [x], _, h => by
    have := h x List.mem_cons_self
    simp
    omega
  | x :: y :: ws, _, h => by
    obtain ⟨h1, h2⟩ := sum_pos (y :: ws) (by simp) fun z hz => h z (List.mem_cons_of_mem _ hz)
    have h3 := h x List.mem_cons_self
    rw [List.sum_cons]
    refine ⟨by omega, fun z hz => ?_⟩
    rcases List.mem_cons.mp hz with rfl | hz
    · omega
    · have := h2 z hz
      omega
theorem sum_le (B : Int) : ∀ ws : List Int, (∀ x ∈ ws, x ≤ B) → ws.sum ≤ (ws.length : Int) * B
  | [], _ => by simp
  | x :: ws, h => by
    have h1 := sum_le B ws fun z hz => h z (List.mem_cons_of_mem _ hz)
    have h2 := h x List.mem_cons_self
    rw [List.sum_cons, List.length_cons, Int.natCast_add, Int.add_mul]
    simp
    omega
/-- a weight's share: in lowest terms, of moderate size -/
theorem share_ok {t b : Int} (ht : 0 < t) (h1 : t ≤ b) (h2 : b < 2 ^ 40) : FrOk (lowP t b) ∧ 0 < (lowP t b).1 ∧ Nat.gcd (lowP t b).1.natAbs (lowP t b).2.natAbs = 1 := by
  have hb : 0 < b := by omega
  obtain ⟨p1, p2⟩ := lowP_pos ht hb
  obtain ⟨l1, l2⟩ := lowP_le (Int.le_of_lt ht) hb
  refine ⟨⟨p2, ?_, ?_⟩, p1, lowP_cop (Int.le_of_lt ht) hb⟩ <;> omega
theorem one_of {ws : List Int} (hn : ws ≠ []) (h : ∀ x ∈ ws, 0 < x) : OneOk (ws.map fun x => lowP x ws.sum) := by
  obtain ⟨s0, s1⟩ := sum_pos ws hn h
  unfold OneOk topsOf
  rw [List.map_map]
  have q := sum_scale ws.sum ((fun f : Fr => f.1 * (((lcmAll (ws.map fun x => lowP x ws.sum) : Nat) : Int) / f.2)) ∘ fun x => lowP x ws.sum) ((lcmAll (ws.map fun x => lowP x ws.sum) : Nat) : Int) ws fun x hx => by
    obtain ⟨p1, p2⟩ := lowP_pos (h x hx) s0
    have d : (lowP x ws.sum).2 ∣ ((lcmAll (ws.map fun x => lowP x ws.sum) : Nat) : Int) := by
      have d0 := dvd_lcmAll (List.mem_map.mpr ⟨x, hx, rfl⟩ : lowP x ws.sum ∈ ws.map fun x => lowP x ws.sum)
      exact Int.ofNat_dvd_right.mpr d0
    show ws.sum * ((lowP x ws.sum).1 * (_ / (lowP x ws.sum).2)) = _
    rw [← Int.mul_assoc, lowP_cross s0, Int.mul_assoc, Int.mul_ediv_cancel' d]
  exact Int.eq_of_mul_eq_mul_left (by omega) q
end Law
namespace Law
open PySem L2
/-! ### the shares -/
structure Nm3 (mg : Str → Option Value) : Prop where
  range : mg "range" = none
  sum : mg "sum" = none
  list : mg "list" = none
  tuple : mg "tuple" = none
  len : mg "len" = none
  int : mg "int" = none
  set : mg "set" = none
  sorted : mg "sorted" = none
  any : mg "any" = none
  isi : mg "isinstance" = none
  bool : mg "bool" = none
theorem Stp.free {p W : Addr} {H H' : Hp} (S : Stp p H H') (h : H' W = none) : H W = none := by
  cases e : H W with
  | none => rfl
  | some o =>
    by_cases n : W = p
    · obtain ⟨ks, hp⟩ := S.hand.dk
      rw [n, hp] at h
      cases h
    · rw [S.keep W o n e] at h
      cases h
theorem sqT_upd {K : PySem.W.Frag} {H : Hp} {a D : Addr} {acc xs : List V} {o : HO} (hD : H D = some (.lst acc)) (h : SqT K H a xs) : SqT K (upd H D o) a xs := by
  rcases h with (z | ⟨q, z⟩) | z
  · refine .inl (.inl ?_)
    rw [upd_ne (ne_of z hD (by intro y; cases y))]
    exact z
  · refine .inl (.inr ⟨q, ?_⟩)
    rw [upd_ne (ne_of z hD (by intro y; cases y))]
    exact z
  · exact .inr z
theorem snoc_get {α : Type} {xs : List α} {y v : α} {i : Nat} (h : (xs ++ [y])[i]? = some v) : (i < xs.length ∧ xs[i]? = some v) ∨ (i = xs.length ∧ y = v) := by
  by_cases hi : i < xs.length
  · rw [List.getElem?_append_left hi] at h
    exact .inl ⟨hi, h⟩
  · have z := (List.getElem?_eq_some_iff.mp h).1
    rw [List.length_append] at z
    simp at z
    have e : i = xs.length := by omega
    subst e
    rw [List.getElem?_append_right (Nat.le_refl _), Nat.sub_self] at h
    exact .inr ⟨rfl, Option.some.inj h⟩
theorem FrsIn.snoc {K : PySem.W.Frag} {H : Hp} {D : Addr} {acc : List V} {fs : List Fr} {v : V} {f : Fr} (h : FrsIn K H acc fs) (hD : H D = some (.lst acc)) (hv : FrAt K H v f) : FrsIn K (upd H D (.lst (acc ++ [v]))) (acc ++ [v]) (fs ++ [f]) := by
  refine ⟨by rw [List.length_append, List.length_append, h.1]; rfl, fun i u hu => ?_⟩
  rcases snoc_get hu with ⟨hi, e⟩ | ⟨hi, e⟩
  · obtain ⟨g, h1, s, h2, h3⟩ := h.2 i u e
    exact ⟨g, by rw [List.getElem?_append_left (by rw [← h.1]; exact hi)]; exact h1, s, h2, sqT_upd hD h3⟩
  · obtain ⟨s, h2, h3⟩ := hv
    subst e
    refine ⟨f, ?_, s, h2, sqT_upd hD h3⟩
    rw [List.getElem?_append_right (by rw [hi, h.1]; exact Nat.le_refl _), hi, h.1, Nat.sub_self]
    rfl
theorem Stp.fr {p : Addr} {K : PySem.W.Frag} {H H' : Hp} {vs : List V} {fs : List Fr} (S : Stp p H H') (hp : HandAt H p) (h : FrsIn K H vs fs) : FrsIn K H' vs fs := ⟨h.1, fun i v hv => by
  obtain ⟨f, h1, s, h2, h3⟩ := h.2 i v hv
  exact ⟨f, h1, s, h2, S.sqT hp h3⟩⟩
def FrGood (f : Fr) : Prop := FrOk f ∧ 0 < f.1 ∧ Nat.gcd f.1.natAbs f.2.natAbs = 1
section
variable {P : Program} {w : World} {K : PySem.W.Frag} {mg : Str → Option Value} {base : Heap}
def spShares (K : PySem.W.Frag) : Sp := fun vs H Q _ => ∃ (p : Addr) (n : Nat), vs = [.ref p, .int (n : Int)] ∧ 1 ≤ n ∧ n ≤ 24 ∧ HandAt H p ∧
  ∀ (D : Addr) (H' : Hp) (us : List V) (fs : List Fr), H D = none → Stp p H H' → H' D = some (.lst us) → FrsIn K H' us fs → fs.length = n → (∀ f ∈ fs, FrGood f ∧ f.1 < 2 ^ 40 ∧ f.2 < 2 ^ 40) → OneOk fs → Q (.ref D) H'
theorem scShares : FnScope ["_law_hand_here", "_law_many", "_law_great", "_law_weights", "_law_k", "_law_weight"] ["_law_hand_here", "_law_many"] (defScope s_law_shares) := ⟨rfl, rfl, rfl, by decide +kernel, rfl, by decide +kernel, by decide +kernel⟩
theorem ok_shares {f fD fA fL : Addr} {fd fdD fdA fdL : FuncData} (F : Fun K "_law_shares" "_law_shares" s_law_shares f fd) (T : Nm3 mg) (D : Cl P w K mg base CX0 1 "_law_draw" fD fdD ["_law_hand_here", "_law_many"] spDraw)
    (A : Cl P w K mg base CX0 2 "_law_any" fA fdA ["_law_hand_here", "_law_things"] (spAny K)) (L : Cl P w K mg base CX0 34 "_law_low" fL fdL ["_law_top", "_law_bottom"] spLow) : FnOk P w K mg base CX0 35 f fd ["_law_hand_here", "_law_many"] (spShares K) := by
  refine F.ok scShares (fun vs H Q E h => ?_) (fun cdv A' outer s H vs Q E hr h => ?_)
  · obtain ⟨p, n, rfl, _⟩ := h
    rfl
  · obtain ⟨p, n, rfl, n1, n24, hH, k⟩ := h
    refine ⟨_, pss_cons (ps_set (i := 2) scShares.nd rfl (Or.inl rfl) (pe_cmpR op_eq (D.call (hr.mono (by decide)) (pa_cons (pv 0) (pa_cons pe_int pa_nil))) pe_int (nomark _)))
      (pss_cons (ps_set (i := 3) scShares.nd rfl (Or.inr rfl) (pe_lst pa_nil))
      (pss_cons (ps_for PassesOwn.never rfl (pi_range1 (by rfl) T.range (pa_cons (pv 1) pa_nil)) (pg_name (i := 4) scShares.nd rfl (Or.inl rfl))
        (pss_cons (ps_set (i := 5) scShares.nd rfl (Or.inl rfl) (pe_op op_add pe_int (D.call (hr.mono (by decide)) (pa_cons (pv 0) (pa_cons (A.call (hr.mono (by decide)) (pa_cons (pv 0) (pa_cons (pe_lst (pa_cons pe_int (pa_cons pe_int (pa_cons pe_int pa_nil)))) pa_nil))) pa_nil)))))
        (pss_one (ps_expr (pe_bm PySem.F.plainAttrs_list PySem.F.slot_list_append PySem.F.type_list_append mt_append (pv 3)
          (pa_cons (pe_ifExp (pt_val (pv 2)) (pe_op op_add (pe_op op_mul (pv 5) (pe_op op_pow pe_int pe_int)) (D.call (hr.mono (by decide)) (pa_cons (pv 0) (pa_cons (pe_op op_pow pe_int pe_int) pa_nil)))) (pv 5)) pa_nil))))))
      (pss_one (ps_ret (pe_lc (own := [("_law_weight", 5)]) (g := gName 5) (tt := tYes) rfl scShares.nd (pi_list (pv 3))
        (blkOk_by (own := [("_law_weight", 5)]) (N := ["_law_hand_here", "_law_many", "_law_great", "_law_weights", "_law_k", "_law_weight"]) (sc := defScope s_law_shares) (by decide +kernel))
        (fun _ _ _ _ _ => pg_name (i := 5) scShares.nd rfl (Or.inl rfl)) (fun _ _ _ _ _ => pts_nil)
        (fun _ _ _ _ _ => L.call hr (pa_cons (pv 5) (pa_cons (pe_callB (r := rSum K) (show CallR _ (.builtin "sum") (rSum K) from cr_sum rfl) (by rfl) T.sum (by decide +kernel) (pa_cons (pv 3) pa_nil)) pa_nil)))))))), ?_⟩
    refine ⟨_, rfl, p, 16, rfl, by decide, by decide, hH, fun d H1 d0 d1 S1 => ?_⟩
    refine ⟨rfl, by show 0 ≤ sizeLine; decide, fun W hW => ?_⟩
    generalize hg : decide (V.int d = V.int 0) = great
    have hWH : H W = none := S1.free hW
    have S2 : Stp p H (upd H1 W (.lst [])) := S1.mut hH hWH
    refine ⟨_, rfl, (n : Int), rfl, by omega, by have : n ≤ 24 := n24; omega, ?_⟩
    refine for_range (lo := 0) (n := n) (fun i σ H' => Stp p H H' ∧ ∃ (ws : List Int) (u v : Option V), H' W = some (.lst (ws.map V.int)) ∧ ws.length = i ∧ (∀ x ∈ ws, 0 < x ∧ x < 2 ^ 34) ∧ σ = [some (.ref p), some (.int (n : Int)), some (.bl great), some (.ref W), u, v]) ⟨S2, [], none, none, upd_same, rfl, fun x hx => absurd hx List.not_mem_nil, rfl⟩ ?_ ?_
    · rintro i σ H' hi ⟨S3, ws, u, v, hw, hl, hb, rfl⟩
      have nW : W ≠ p := ne_of hw S3.hand.dk.choose_spec (by intro z; cases z)
      refine ⟨_, rfl, _, rfl, by show 3 ≤ sizeLine; decide, fun q hq => ?_⟩
      have s4 : Same H' (upd H' q (.lst [.int 1, .int 3, .int 6])) := Same.new hq
      refine ⟨p, q, _, rfl, .inl (SqL.of upd_same), by decide, by decide, S3.hand.same s4, fun j x H4 hj S4 => ?_⟩
      have e : ∃ m : Int, x = .int m ∧ 1 ≤ m ∧ m ≤ 6 := by
        have hx := List.mem_of_getElem? hj
        simp only [List.mem_cons, List.not_mem_nil, or_false] at hx
        rcases hx with rfl | rfl | rfl
        · exact ⟨1, rfl, by decide, by decide⟩
        · exact ⟨3, rfl, by decide, by decide⟩
        · exact ⟨6, rfl, by decide, by decide⟩
      obtain ⟨m, rfl, m1, m6⟩ := e
      refine ⟨p, m, rfl, by omega, by omega, S4.hand, fun d2 H5 e0 e1 S5 => ⟨_, _, rfl, rfl, ?_⟩⟩
      have S35 : Stp p H' H5 := (S4.pre s4).trans S5
      refine ⟨_, rfl, .inl ⟨rfl, _, SqL.of (S35.keep _ _ nW hw)⟩, _, rfl, _, rfl, ?_⟩
      have fin : ∀ (x : Int) (H6 : Hp), Stp p H' H6 → 0 < x → x < 2 ^ 34 → ∃ l xs y, V.ref W = .ref l ∧ [V.int x] = [y] ∧ H6 l = some (.lst xs) ∧ xs.length < sizeLine ∧ (Stp p H (upd H6 l (.lst (xs ++ [y]))) ∧ ∃ (ws : List Int) (u v : Option V), (upd H6 l (.lst (xs ++ [y]))) W = some (.lst (ws.map V.int)) ∧ ws.length = i + 1 ∧ (∀ x ∈ ws, 0 < x ∧ x < 2 ^ 34) ∧
          [some (V.ref p), some (.int (n : Int)), some (.bl great), some (.ref W), some (.int (0 + (i : Int))), some (.int (1 + d2))] = [some (.ref p), some (.int (n : Int)), some (.bl great), some (.ref W), u, v]) := by
        intro x H6 S6 x0 x1
        refine ⟨W, _, _, rfl, rfl, S6.keep _ _ nW hw, ?_, (S3.trans S6).mut hH hWH, ws ++ [x], _, _, ?_, ?_, ?_, rfl⟩
        · rw [List.length_map, hl]
          exact small1000 (by omega)
        · rw [upd_same, List.map_append] <;> rfl
        · rw [List.length_append, hl] <;> rfl
        · intro y hy
          rcases List.mem_append.mp hy with hy | hy
          · exact hb y hy
          · rw [List.mem_singleton.mp hy]
            exact ⟨x0, x1⟩
      cases great with
      | true =>
        refine iteT ⟨_, rfl, _, _, rfl, rfl, ⟨by decide, by decide, by decide⟩, _, _, rfl, rfl, .inl ⟨by omega, by omega⟩, ?_⟩
        refine ⟨_, rfl, _, _, rfl, rfl, ⟨by decide, by decide, by decide⟩, p, 1000000000, rfl, by decide, by decide, S35.hand, fun d3 H6 f0 f1 S6 => ⟨_, _, rfl, rfl, ?_⟩⟩
        exact fin ((1 + d2) * 10 ^ 9 + d3) H6 (S35.trans S6) (by omega) (by omega)
      | false => exact iteF ⟨_, rfl, fin (1 + d2) H5 S35 (by omega) (by omega)⟩
    · rintro σ H' ⟨S3, ws, u, v, hw, hl, hb, rfl⟩
      have wn : ws ≠ [] := fun z => by
        rw [z] at hl
        simp at hl
        omega
      obtain ⟨s0, s1⟩ := sum_pos ws wn fun x hx => (hb x hx).1
      have sB := sum_le (2 ^ 34) ws fun x hx => Int.le_of_lt (hb x hx).2
      have s2 : ws.sum < 2 ^ 40 := by
        rw [hl] at sB
        omega
      refine ⟨_, rfl, W, rfl, ⟨_, SqL.of hw⟩, fun D hD => ?_⟩
      refine lc_list (K := K) (a := W) (xs := ws.map V.int) (fun i H2 => Same H' H2 ∧ ∃ acc, H2 D = some (.lst acc) ∧ FrsIn K H2 acc ((ws.take i).map fun x => lowP x ws.sum)) ⟨Same.new hD, [], upd_same, rfl, fun i v hv => by simp at hv⟩ (fun i H2 _ h => SqL.of (h.1 _ _ hw)) ?_ ?_
      · rintro i x H2 hi ⟨t1, acc, h1, h2⟩
        rw [List.getElem?_map] at hi
        obtain ⟨z, hz, rfl⟩ := Option.map_eq_some_iff.mp hi
        have zm := List.mem_of_getElem? hz
        have hla : acc.length = i := by
          have y := h2.1
          have y2 := (List.getElem?_eq_some_iff.mp hz).1
          rw [List.length_map, List.length_take] at y
          omega
        refine ⟨rfl, _, rfl, _, rfl, W, _, rfl, SqL.of (t1 _ _ hw), z, ws.sum, rfl, Int.le_of_lt (hb z zm).1, s0, fun q hq => ?_⟩
        have nDq : D ≠ q := ne_of_none h1 hq
        have t2 : Same H2 (upd H2 q (.tup [.int (lowP z ws.sum).1, .int (lowP z ws.sum).2])) := Same.new hq
        have h3 := t2 _ _ h1
        refine ⟨acc, h3, small1000 (by have := (List.getElem?_eq_some_iff.mp hz).1; omega), (t1.trans t2).mut hD, _, upd_same, ?_⟩
        rw [List.take_add_one, hz, List.map_append]
        exact FrsIn.snoc (h2.same t2) h3 ⟨q, rfl, SqT.of upd_same⟩
      · rintro H2 ⟨t1, acc, h1, h2⟩
        rw [List.length_map, List.take_length] at h2
        refine k D H2 acc _ (S3.free hD) (S3.post t1) h1 h2 (by rw [List.length_map, hl]) ?_ (one_of wn fun x hx => (hb x hx).1)
        intro g hg
        obtain ⟨x, hx, rfl⟩ := List.mem_map.mp hg
        obtain ⟨l1, l2⟩ := lowP_le (t := x) (b := ws.sum) (Int.le_of_lt (hb x hx).1) s0
        have := s1 x hx
        exact ⟨share_ok (hb x hx).1 (s1 x hx) s2, by omega, by omega⟩
end
end Law
namespace Law
open PySem L2
/-! ### where a move leads -/
/-- a list of whole numbers below n grows at D -/
def Grow (p D : Addr) (H : Hp) (n : Int) : Nat → Hp → Prop := fun i H' => Stp p H H' ∧ ∃ ws : List Int, H' D = some (.lst (ws.map V.int)) ∧ ws.length = i ∧ ∀ x ∈ ws, 0 ≤ x ∧ x < n
theorem Grow.zero {p D : Addr} {H : Hp} {n : Int} (hH : HandAt H p) (hD : H D = none) : Grow p D H n 0 (upd H D (.lst [])) := ⟨Stp.of hH (Same.new hD), [], upd_same, rfl, fun x hx => absurd hx List.not_mem_nil⟩
theorem Grow.put {p D : Addr} {H H1 H2 : Hp} {n x : Int} {i : Nat} (hH : HandAt H p) (hD : H D = none) (g : Grow p D H n i H1) (S : Stp p H1 H2) (hi : i ≤ 999) (x0 : 0 ≤ x) (x1 : x < n) :
    ∃ acc, H2 D = some (.lst acc) ∧ acc.length < sizeLine ∧ Grow p D H n (i + 1) (upd H2 D (.lst (acc ++ [V.int x]))) := by
  obtain ⟨S1, ws, h1, h2, h3⟩ := g
  have nD : D ≠ p := ne_of h1 S1.hand.dk.choose_spec (by intro z; cases z)
  refine ⟨_, S.keep _ _ nD h1, ?_, (S1.trans S).mut hH hD, ws ++ [x], ?_, ?_, ?_⟩
  · rw [List.length_map, h2]
    exact small1000 (by omega)
  · rw [upd_same, List.map_append] <;> rfl
  · rw [List.length_append, h2] <;> rfl
  · intro y hy
    rcases List.mem_append.mp hy with hy | hy
    · exact h3 y hy
    · rw [List.mem_singleton.mp hy]
      exact ⟨x0, x1⟩
section
variable {P : Program} {w : World} {K : PySem.W.Frag} {mg : Str → Option Value} {base : Heap}
def spLeads (K : PySem.W.Frag) : Sp := fun vs H Q _ => ∃ (p : Addr) (n : Nat), vs = [.ref p, .int (n : Int)] ∧ 1 ≤ n ∧ n ≤ 12 ∧ HandAt H p ∧
  ∀ (l : Addr) (H' : Hp) (xs : List Int), Stp p H H' → H' l = some (.tup (xs.map V.int)) → xs.length = n → (∀ x ∈ xs, 0 ≤ x ∧ x < (n : Int)) → Q (.ref l) H'
abbrev nLeads : List Str := ["_law_hand_here", "_law_many", "_law_kind", "_law_left", "_law_found", "_law_k", "_law_two", "_law_half", "_law_by"]
theorem scLeads : FnScope nLeads ["_law_hand_here", "_law_many"] (defScope s_law_leads) := ⟨rfl, rfl, rfl, by decide +kernel, rfl, by decide +kernel, by decide +kernel⟩
theorem ok_leads {f fD fA : Addr} {fd fdD fdA : FuncData} (F : Fun K "_law_leads" "_law_leads" s_law_leads f fd) (T : Nm3 mg) (D : Cl P w K mg base CX0 1 "_law_draw" fD fdD ["_law_hand_here", "_law_many"] spDraw)
    (A : Cl P w K mg base CX0 2 "_law_any" fA fdA ["_law_hand_here", "_law_things"] (spAny K)) : FnOk P w K mg base CX0 3 f fd ["_law_hand_here", "_law_many"] (spLeads K) := by
  refine F.ok scLeads (fun vs H Q E h => ?_) (fun cdv A' outer s H vs Q E hr h => ?_)
  · obtain ⟨p, n, rfl, _⟩ := h
    rfl
  · obtain ⟨p, n, rfl, n1, n12, hH, k⟩ := h
    have hr1 := hr.mono (show 1 ≤ 2 by decide)
    refine ⟨_, pss_cons (ps_set (i := 2) scLeads.nd rfl (Or.inl rfl) (D.call hr1 (pa_cons (pv 0) (pa_cons pe_int pa_nil))))
      (pss_cons (ps_if (pt_cmpR op_eq (pv 2) pe_int (nomark _))
        (pss_cons (ps_par (i := 3) (j := 4) (by rfl) scLeads.nd rfl rfl (by decide) rfl rfl (pa_cons (pe_listRg (by rfl) (by rfl) T.list (prg_1 (by rfl) T.range (pv 1))) (pa_cons (pe_lst pa_nil) pa_nil)) (by rfl))
        (pss_cons (ps_for PassesOwn.never rfl (pi_range1 (by rfl) T.range (pa_cons (pv 1) pa_nil)) (pg_name (i := 5) scLeads.nd rfl (Or.inl rfl))
          (pss_one (ps_expr (pe_bm PySem.F.plainAttrs_list PySem.F.slot_list_append PySem.F.type_list_append mt_append (pv 4) (pa_cons (pe_bm PySem.F.plainAttrs_list PySem.F.slot_list_pop PySem.F.type_list_pop mt_popAt (pv 3)
            (pa_cons (D.call hr1 (pa_cons (pv 0) (pa_cons (pe_callB call_len_seq (by rfl) T.len PySem.boot_len (pa_cons (pv 3) pa_nil)) pa_nil))) pa_nil)) pa_nil)))))
        (pss_one (ps_ret (pe_callTy call_tuple_of (by rfl) T.tuple (by decide +kernel) (pa_cons (pv 4) pa_nil)))))) pss_nil)
      (pss_cons (ps_if (pt_cmpR op_eq (pv 2) pe_int (nomark _))
        (pss_cons (ps_set (i := 6) scLeads.nd rfl (Or.inr rfl) (pe_lst (pa_cons (D.call hr1 (pa_cons (pv 0) (pa_cons (pv 1) pa_nil))) (pa_cons (D.call hr1 (pa_cons (pv 0) (pa_cons (pv 1) pa_nil))) pa_nil))))
        (pss_one (ps_ret (pe_callTy call_tuple_of (by rfl) T.tuple (by decide +kernel) (pa_cons (pe_lc (own := [("_law_k", 5)]) (g := gName 5) (tt := tYes) rfl scLeads.nd (pi_range1 (by rfl) T.range (pa_cons (pv 1) pa_nil))
          (blkOk_by (own := [("_law_k", 5)]) (N := nLeads) (sc := defScope s_law_leads) (by decide +kernel)) (fun _ _ _ _ _ => pg_name (i := 5) scLeads.nd rfl (Or.inl rfl)) (fun _ _ _ _ _ => pts_nil)
          (fun _ _ _ _ _ => A.call hr (pa_cons (pv 0) (pa_cons (pv 6) pa_nil)))) pa_nil))))) pss_nil)
      (pss_cons (ps_if (pt_cmpR op_eq (pv 2) pe_int (nomark _))
        (pss_one (ps_ret (pe_callTy call_tuple_of (by rfl) T.tuple (by decide +kernel) (pa_cons (pe_lc (own := [("_law_k", 5)]) (g := gName 5) (tt := tYes) rfl scLeads.nd (pi_range1 (by rfl) T.range (pa_cons (pv 1) pa_nil))
          (blkOk_by (own := [("_law_k", 5)]) (N := nLeads) (sc := defScope s_law_leads) (by decide +kernel)) (fun _ _ _ _ _ => pg_name (i := 5) scLeads.nd rfl (Or.inl rfl)) (fun _ _ _ _ _ => pts_nil)
          (fun _ _ _ _ _ => pe_ifExp (pt_cmpR op_eq (D.call hr1 (pa_cons (pv 0) (pa_cons pe_int pa_nil))) pe_int (nomark _)) (D.call hr1 (pa_cons (pv 0) (pa_cons (pv 1) pa_nil))) (pv 5))) pa_nil)))) pss_nil)
      (pss_cons (ps_if (pt_cmpR op_eq (pv 2) pe_int (nomark _))
        (pss_cons (ps_set (i := 7) scLeads.nd rfl (Or.inr rfl) (pe_op op_fdiv (pv 1) pe_int))
        (pss_one (ps_ret (pe_callTy call_tuple_of (by rfl) T.tuple (by decide +kernel) (pa_cons (pe_lc (own := [("_law_k", 5)]) (g := gName 5) (tt := tYes) rfl scLeads.nd (pi_range1 (by rfl) T.range (pa_cons (pv 1) pa_nil))
          (blkOk_by (own := [("_law_k", 5)]) (N := nLeads) (sc := defScope s_law_leads) (by decide +kernel)) (fun _ _ _ _ _ => pg_name (i := 5) scLeads.nd rfl (Or.inl rfl)) (fun _ _ _ _ _ => pts_nil)
          (fun _ _ _ _ _ => pe_ifExp (pt_cmpR op_lt (pv 5) (pv 7) (nomark _)) (D.call hr1 (pa_cons (pv 0) (pa_cons (pv 7) pa_nil))) (pe_op op_add (pv 7) (D.call hr1 (pa_cons (pv 0) (pa_cons (pe_op op_sub (pv 1) (pv 7)) pa_nil)))))) pa_nil))))) pss_nil)
      (pss_cons (ps_if (pt_cmpR op_eq (pv 2) pe_int (nomark _))
        (pss_cons (ps_set (i := 8) scLeads.nd rfl (Or.inr rfl) (pe_op op_add pe_int (D.call hr1 (pa_cons (pv 0) (pa_cons (pv 1) pa_nil)))))
        (pss_one (ps_ret (pe_callTy call_tuple_of (by rfl) T.tuple (by decide +kernel) (pa_cons (pe_lc (own := [("_law_k", 5)]) (g := gName 5) (tt := tYes) rfl scLeads.nd (pi_range1 (by rfl) T.range (pa_cons (pv 1) pa_nil))
          (blkOk_by (own := [("_law_k", 5)]) (N := nLeads) (sc := defScope s_law_leads) (by decide +kernel)) (fun _ _ _ _ _ => pg_name (i := 5) scLeads.nd rfl (Or.inl rfl)) (fun _ _ _ _ _ => pts_nil)
          (fun _ _ _ _ _ => pe_op op_mod (pe_callTy (r := fun xs H Q => (∃ i, xs = [.int i] ∧ Q (.int i) H) ∨ ∃ k, xs = [.bl k] ∧ Q (.int (if k then 1 else 0)) H) call_int1 (by rfl) T.int (by decide +kernel) (pa_cons (pe_op op_add (pv 5) (pv 8)) pa_nil)) (pv 1))) pa_nil))))) pss_nil)
      (pss_one (ps_ret (pe_callTy call_tuple_of (by rfl) T.tuple (by decide +kernel) (pa_cons (pe_lc (own := [("_law_k", 5)]) (g := gName 5) (tt := tYes) rfl scLeads.nd (pi_range1 (by rfl) T.range (pa_cons (pv 1) pa_nil))
          (blkOk_by (own := [("_law_k", 5)]) (N := nLeads) (sc := defScope s_law_leads) (by decide +kernel)) (fun _ _ _ _ _ => pg_name (i := 5) scLeads.nd rfl (Or.inl rfl)) (fun _ _ _ _ _ => pts_nil)
          (fun _ _ _ _ _ => D.call hr1 (pa_cons (pv 0) (pa_cons (pv 1) pa_nil)))) pa_nil))))))))), ?_⟩
    have fin : ∀ (D : Addr) (H' : Hp) (ws : List Int), Stp p H H' → H' D = some (.lst (ws.map V.int)) → ws.length = n → (∀ x ∈ ws, 0 ≤ x ∧ x < (n : Int)) → ∃ q ys, [V.ref D] = [.ref q] ∧ ((SqL K H' q ys ∧ ∀ l, H' l = none → Q (.ref l) (upd H' l (.tup ys))) ∨ (SqT K H' q ys ∧ Q (.ref q) H')) := by
      intro D H' ws S h1 h2 h3
      exact ⟨D, _, rfl, .inl ⟨SqL.of h1, fun l hl => k l _ ws (S.post (Same.new hl)) upd_same h2 h3⟩⟩
    have done : ∀ (D : Addr) (H1 H' : Hp), Stp p H H1 → Grow p D H1 n n H' → ∃ q ys, [V.ref D] = [.ref q] ∧ ((SqL K H' q ys ∧ ∀ l, H' l = none → Q (.ref l) (upd H' l (.tup ys))) ∨ (SqT K H' q ys ∧ Q (.ref q) H')) := by
      rintro D H1 H' S ⟨S1, ws, h1, h2, h3⟩
      exact fin D H' ws (S.trans S1) h1 h2 h3
    refine ⟨_, rfl, p, 7, rfl, by decide, by decide, hH, fun d H1 d0 d1 S1 => ?_⟩
    refine ⟨_, rfl, rfl, _, rfl, ite2 (fun _ => ?_) (fun _ => ?_)⟩
    · refine ⟨_, rfl, (n : Int), rfl, RgOk.of_le (by decide) (by omega) (by decide) (by omega), fun q hq => ⟨by show 0 ≤ sizeLine; decide, fun r hr' => ⟨_, _, rfl, ?_⟩⟩⟩
      have qr : q ≠ r := ne_of_none upd_same hr'
      have hqH : H q = none := S1.free hq
      have hrH : H r = none := (S1.post (Same.new hq)).free hr'
      refine ⟨_, rfl, (n : Int), rfl, by omega, by omega, ?_⟩
      refine for_range (lo := 0) (n := n) (fun i σ H' => Stp p H H' ∧ ∃ (ls ws : List Int) (u : Option V), H' q = some (.lst (ls.map V.int)) ∧ H' r = some (.lst (ws.map V.int)) ∧ ls.length + i = n ∧ ws.length = i ∧ (∀ x ∈ ls, 0 ≤ x ∧ x < (n : Int)) ∧ (∀ x ∈ ws, 0 ≤ x ∧ x < (n : Int)) ∧
        σ = [some (.ref p), some (.int (n : Int)), some (.int d), some (.ref q), some (.ref r), u, none, none, none]) ⟨(S1.post (Same.new hq)).post (Same.new hr'), (List.range n).map fun i : Nat => (i : Int), [], none, ?_, upd_same, ?_, rfl, ?_, fun x hx => absurd hx List.not_mem_nil, rfl⟩ ?_ ?_
      · rw [upd_ne qr, upd_same]
        unfold rgV
        rw [List.map_map]
        rw [show ((n : Int) - 0).toNat = n by omega]
        refine congrArg (fun z => some (HO.lst z)) (List.map_congr_left fun i _ => ?_)
        show V.int (0 + (i : Nat)) = V.int (i : Int)
        rw [Int.zero_add]
      · rw [List.length_map, List.length_range] <;> rfl
      · intro x hx
        obtain ⟨i, hi, rfl⟩ := List.mem_map.mp hx
        have := List.mem_range.mp hi
        omega
      · rintro i σ H' hi ⟨S2, ls, ws, u, h1, h2, h3, h4, h5, h6, rfl⟩
        have nq : q ≠ p := ne_of h1 S2.hand.dk.choose_spec (by intro z; cases z)
        have nr : r ≠ p := ne_of h2 S2.hand.dk.choose_spec (by intro z; cases z)
        refine ⟨_, rfl, .inl ⟨rfl, _, SqL.of h2⟩, _, rfl, .inl ⟨rfl, _, SqL.of h1⟩, _, rfl, _, rfl, q, _, rfl, .inl (SqL.of h1), p, _, rfl, ?_, ?_, S2.hand, fun d2 H3 e0 e1 S3 => ?_⟩
        · rw [List.length_map]
          omega
        · rw [List.length_map]
          omega
        · rw [List.length_map] at e1
          obtain ⟨j, rfl⟩ := Int.eq_ofNat_of_zero_le e0
          have hj : j < ls.length := by omega
          have h1' := S3.keep _ _ nq h1
          have h2' := S3.keep _ _ nr h2
          refine ⟨q, _, (j : Int), j, V.int ls[j], rfl, rfl, h1', by omega, by omega, ?_, ?_, ?_⟩
          · unfold seqIndex?
            rw [if_neg (show ¬ ((j : Int) < 0) by omega), List.length_map]
            simp
            omega
          · rw [List.getElem?_map, List.getElem?_eq_getElem hj] <;> rfl
          · have S4 : Stp p H (upd H3 q (.lst ((ls.map V.int).eraseIdx j))) := (S2.trans S3).mut hH hqH
            refine ⟨r, _, _, rfl, rfl, by rw [upd_ne (Ne.symm qr)]; exact h2', ?_, S4.mut hH hrH, ls.eraseIdx j, ws ++ [ls[j]], _, ?_, ?_, ?_, ?_, ?_, ?_, rfl⟩
            · rw [List.length_map, h4]
              exact small1000 (by omega)
            · rw [upd_ne qr, upd_same, erase_mapI]
            · rw [upd_same, List.map_append] <;> rfl
            · rw [List.length_eraseIdx_of_lt hj]
              omega
            · rw [List.length_append, h4] <;> rfl
            · exact fun x hx => h5 x (List.mem_of_mem_eraseIdx hx)
            · intro x hx
              rcases List.mem_append.mp hx with hx | hx
              · exact h6 x hx
              · rw [List.mem_singleton.mp hx]
                exact h5 _ (List.getElem_mem hj)
      · rintro σ H' ⟨S2, ls, ws, u, h1, h2, h3, h4, h5, h6, rfl⟩
        exact ⟨_, rfl, fin r H' ws S2 h2 h4 h6⟩
    refine ⟨_, rfl, rfl, _, rfl, ite2 (fun _ => ?_) (fun _ => ?_)⟩
    · refine ⟨_, rfl, _, rfl, p, (n : Int), rfl, by omega, by omega, S1.hand, fun a1 H2 a0 a2 S2 => ?_⟩
      refine ⟨_, rfl, _, rfl, p, (n : Int), rfl, by omega, by omega, S2.hand, fun b1 H3 b0 b2 S3 => ⟨by show 2 ≤ sizeLine; decide, fun q hq => ?_⟩⟩
      have S4 : Stp p H (upd H3 q (.lst [.int a1, .int b1])) := ((S1.trans S2).trans S3).post (Same.new hq)
      have g4 : (upd H3 q (.lst [.int a1, .int b1])) q = some (.lst [.int a1, .int b1]) := upd_same
      generalize upd H3 q (.lst [.int a1, .int b1]) = H4 at S4 g4 ⊢
      have nq : q ≠ p := ne_of g4 S4.hand.dk.choose_spec (by intro z; cases z)
      refine ⟨_, rfl, (n : Int), rfl, by omega, by omega, fun D hD => ?_⟩
      refine lc_range (lo := 0) (n := n) (Grow p D H4 n) (Grow.zero S4.hand hD) (fun i H' hi g => ?_) fun H' g => done D H4 H' S4 g
      refine ⟨rfl, _, rfl, _, rfl, p, q, _, rfl, .inl (SqL.of (g.1.keep _ _ nq g4)), by show 0 < 2; decide, by show 2 < _; decide, g.1.hand, fun j x H5 hj S5 => ?_⟩
      have e : ∃ z : Int, x = .int z ∧ 0 ≤ z ∧ z < (n : Int) := by
        have hx := List.mem_of_getElem? hj
        simp only [List.mem_cons, List.not_mem_nil, or_false] at hx
        rcases hx with rfl | rfl
        · exact ⟨a1, rfl, a0, a2⟩
        · exact ⟨b1, rfl, b0, b2⟩
      obtain ⟨z, rfl, z0, z1⟩ := e
      exact g.put S4.hand hD S5 (by omega) z0 z1
    refine ⟨_, rfl, rfl, _, rfl, ite2 (fun _ => ?_) (fun _ => ?_)⟩
    · refine ⟨_, rfl, (n : Int), rfl, by omega, by omega, fun D hD => ?_⟩
      refine lc_range (lo := 0) (n := n) (Grow p D H1 n) (Grow.zero S1.hand hD) (fun i H' hi g => ?_) fun H' g => done D H1 H' S1 g
      refine ⟨rfl, _, rfl, p, 3, rfl, by decide, by decide, g.1.hand, fun d2 H2 e0 e1 S2 => ⟨rfl, _, rfl, ite2 (fun _ => ?_) (fun _ => ?_)⟩⟩
      · exact ⟨_, rfl, _, rfl, p, (n : Int), rfl, by omega, by omega, S2.hand, fun d3 H3 f0 f1 S3 => g.put S1.hand hD (S2.trans S3) (by omega) f0 f1⟩
      · exact ⟨_, rfl, g.put S1.hand hD S2 (by omega) (by omega) (by omega)⟩
    refine ⟨_, rfl, rfl, _, rfl, ite2 (fun _ => ?_) (fun _ => ?_)⟩
    · refine ⟨_, rfl, _, _, rfl, rfl, ⟨by decide, by decide⟩, ?_⟩
      refine ⟨_, rfl, (n : Int), rfl, by omega, by omega, fun D hD => ?_⟩
      refine lc_range (lo := 0) (n := n) (Grow p D H1 n) (Grow.zero S1.hand hD) (fun i H' hi g => ?_) fun H' g => done D H1 H' S1 g
      refine ⟨rfl, _, rfl, _, rfl, _, _, rfl, rfl, _, rfl, ite2 (fun hlt => ?_) (fun _ => ?_)⟩
      · have hlt := of_decide_eq_true hlt
        exact ⟨_, rfl, _, rfl, p, (n : Int) / 2, rfl, by omega, by omega, g.1.hand, fun d3 H3 f0 f1 S3 => g.put S1.hand hD S3 (by omega) f0 (by omega)⟩
      · exact ⟨_, rfl, _, rfl, _, rfl, _, rfl, _, _, rfl, rfl, p, (n : Int) - (n : Int) / 2, rfl, by omega, by omega, g.1.hand, fun d3 H3 f0 f1 S3 => ⟨_, _, rfl, rfl, g.put S1.hand hD S3 (by omega) (by omega) (by omega)⟩⟩
    refine ⟨_, rfl, rfl, _, rfl, ite2 (fun _ => ?_) (fun _ => ?_)⟩
    · refine ⟨_, rfl, _, rfl, p, (n : Int), rfl, by omega, by omega, S1.hand, fun d2 H2 e0 e1 S2 => ⟨_, _, rfl, rfl, ?_⟩⟩
      have S12 := S1.trans S2
      refine ⟨_, rfl, (n : Int), rfl, by omega, by omega, fun D hD => ?_⟩
      refine lc_range (lo := 0) (n := n) (Grow p D H2 n) (Grow.zero S2.hand hD) (fun i H' hi g => ?_) fun H' g => done D H2 H' S12 g
      have np : (0 : Int) < n := by omega
      exact ⟨rfl, _, rfl, _, rfl, _, _, rfl, rfl, .inl ⟨_, rfl, _, rfl, _, _, rfl, rfl, np, g.put S2.hand hD (Stp.refl g.1.hand) (by omega) (Int.emod_nonneg _ (by omega)) (Int.emod_lt_of_pos _ np)⟩⟩
    · refine ⟨_, rfl, (n : Int), rfl, by omega, by omega, fun D hD => ?_⟩
      refine lc_range (lo := 0) (n := n) (Grow p D H1 n) (Grow.zero S1.hand hD) (fun i H' hi g => ?_) fun H' g => done D H1 H' S1 g
      exact ⟨rfl, _, rfl, _, rfl, p, (n : Int), rfl, by omega, by omega, g.1.hand, fun d3 H3 f0 f1 S3 => g.put S1.hand hD S3 (by omega) f0 f1⟩
end
end Law
namespace Law
open PySem L2
/-! ### drawn moves -/
theorem Stp.mvAt {p : Addr} {K : PySem.W.Frag} {H H' : Hp} {v : V} {m : Mv} (S : Stp p H H') (hp : HandAt H p) (h : MvAt K H v m) : MvAt K H' v m := by
  obtain ⟨a, s, l, h1, h2, h3, h4⟩ := h
  exact ⟨a, s, l, h1, S.sqT hp h2, S.sqT hp h3, S.sqT hp h4⟩
theorem Stp.mv {p : Addr} {K : PySem.W.Frag} {H H' : Hp} {vs : List V} {ms : List Mv} (S : Stp p H H') (hp : HandAt H p) (h : MvsIn K H vs ms) : MvsIn K H' vs ms := ⟨h.1, fun i v hv => by
  obtain ⟨m, h1, h2⟩ := h.2 i v hv
  exact ⟨m, h1, S.mvAt hp h2⟩⟩
theorem Stp.mvs {p : Addr} {K : PySem.W.Frag} {H H' : Hp} {a : Addr} {ms : List Mv} (S : Stp p H H') (hp : HandAt H p) (h : MvsAt K H a ms) : MvsAt K H' a ms := by
  obtain ⟨vs, h1, h2⟩ := h
  exact ⟨vs, S.sqT hp h1, S.mv hp h2⟩
theorem mvAt_upd {K : PySem.W.Frag} {H : Hp} {D : Addr} {acc : List V} {o : HO} {v : V} {m : Mv} (hD : H D = some (.lst acc)) (h : MvAt K H v m) : MvAt K (upd H D o) v m := by
  obtain ⟨a, s, l, h1, h2, h3, h4⟩ := h
  exact ⟨a, s, l, h1, sqT_upd hD h2, sqT_upd hD h3, sqT_upd hD h4⟩
theorem MvsIn.snoc {K : PySem.W.Frag} {H : Hp} {D : Addr} {acc : List V} {ms : List Mv} {v : V} {m : Mv} (h : MvsIn K H acc ms) (hD : H D = some (.lst acc)) (hv : MvAt K H v m) : MvsIn K (upd H D (.lst (acc ++ [v]))) (acc ++ [v]) (ms ++ [m]) := by
  refine ⟨by rw [List.length_append, List.length_append, h.1]; rfl, fun i u hu => ?_⟩
  rcases snoc_get hu with ⟨hi, e⟩ | ⟨hi, e⟩
  · obtain ⟨g, h1, h2⟩ := h.2 i u e
    exact ⟨g, by rw [List.getElem?_append_left (by rw [← h.1]; exact hi)]; exact h1, mvAt_upd hD h2⟩
  · subst e
    refine ⟨m, ?_, mvAt_upd hD hv⟩
    rw [List.getElem?_append_right (by rw [hi, h.1]; exact Nat.le_refl _), hi, h.1, Nat.sub_self]
    rfl
section
variable {P : Program} {w : World} {K : PySem.W.Frag} {mg : Str → Option Value} {base : Heap}
/-- moves that are drawn: as a System may have them, their shares of moderate size -/
structure MvsOk (many : Nat) (ms : List Mv) : Prop where
  ok : SysOk many ms
  lt : ∀ m ∈ ms, m.1.1 < 2 ^ 40 ∧ m.1.2 < 2 ^ 40
def spMoves (K : PySem.W.Frag) : Sp := fun vs H Q _ => ∃ (p : Addr) (many most : Nat), vs = [.ref p, .int (many : Int), .int (most : Int)] ∧ 1 ≤ many ∧ many ≤ 12 ∧ 1 ≤ most ∧ most ≤ 24 ∧ HandAt H p ∧
  ∀ (l : Addr) (H' : Hp) (ms : List Mv), Stp p H H' → MvsAt K H' l ms → MvsOk many ms → Q (.ref l) H'
abbrev nMoves : List Str := ["_law_hand_here", "_law_many", "_law_most", "_law_count", "_law_one", "_law_found", "_law_share_here", "_law_leads_here", "_law_k"]
theorem scMoves : FnScope nMoves ["_law_hand_here", "_law_many", "_law_most"] (defScope s_law_moves) := ⟨rfl, rfl, rfl, by decide +kernel, rfl, by decide +kernel, by decide +kernel⟩
theorem ok_moves {f fD fS fL : Addr} {fd fdD fdS fdL : FuncData} (F : Fun K "_law_moves" "_law_moves" s_law_moves f fd) (T : Nm3 mg) (D : Cl P w K mg base CX0 1 "_law_draw" fD fdD ["_law_hand_here", "_law_many"] spDraw)
    (S : Cl P w K mg base CX0 35 "_law_shares" fS fdS ["_law_hand_here", "_law_many"] (spShares K)) (L : Cl P w K mg base CX0 3 "_law_leads" fL fdL ["_law_hand_here", "_law_many"] (spLeads K)) :
    FnOk P w K mg base CX0 36 f fd ["_law_hand_here", "_law_many", "_law_most"] (spMoves K) := by
  refine F.ok scMoves (fun vs H Q E h => ?_) (fun cdv A' outer s H vs Q E hr h => ?_)
  · obtain ⟨p, many, most, rfl, _⟩ := h
    rfl
  · obtain ⟨p, many, most, rfl, m1, m12, c1, c24, hH, k⟩ := h
    have hr1 := hr.mono (show 1 ≤ 35 by decide)
    refine ⟨_, pss_cons (ps_set (i := 3) scMoves.nd rfl (Or.inl rfl) (pe_op op_add pe_int (D.call hr1 (pa_cons (pv 0) (pa_cons (pv 2) pa_nil)))))
      (pss_cons (ps_set (i := 4) scMoves.nd rfl (Or.inl rfl) (D.call hr1 (pa_cons (pv 0) (pa_cons pe_int pa_nil))))
      (pss_cons (ps_set (i := 5) scMoves.nd rfl (Or.inl rfl) (pe_lst pa_nil))
      (pss_cons (ps_for PassesOwn.never rfl (pi_list (S.call hr (pa_cons (pv 0) (pa_cons (pv 3) pa_nil)))) (pg_name (i := 6) scMoves.nd rfl (Or.inl rfl))
        (pss_cons (ps_set (i := 7) scMoves.nd rfl (Or.inr rfl) (L.call (hr.mono (by decide)) (pa_cons (pv 0) (pa_cons (pv 1) pa_nil))))
        (pss_cons (ps_if (PW.pt (pw_and (pt_cmpR op_eq (pv 4) pe_int (nomark _)) (pw_and1 (pt_cmpR op_gt (pe_callB call_len_seq (by rfl) T.len PySem.boot_len (pa_cons (pv 5) pa_nil)) pe_int (nomark _)))))
          (pss_one (ps_set (i := 7) scMoves.nd rfl (Or.inr rfl) (pe_callTy call_tuple_of (by rfl) T.tuple (by decide +kernel) (pa_cons (pe_lc (own := [("_law_k", 8)]) (g := gName 8) (tt := tYes) rfl scMoves.nd (pi_tup (pe_ix ix_tup (pe_ix ix_list (pv 5) pe_int (fun _ _ => rfl)) pe_int (fun _ _ => rfl)))
            (blkOk_by (own := [("_law_k", 8)]) (N := nMoves) (sc := defScope s_law_moves) (by decide +kernel)) (fun _ _ _ _ _ => pg_name (i := 8) scMoves.nd rfl (Or.inl rfl)) (fun _ _ _ _ _ => pts_nil)
            (fun _ _ _ _ _ => pe_op op_mod (pe_callTy (r := fun xs H Q => (∃ i, xs = [.int i] ∧ Q (.int i) H) ∨ ∃ k, xs = [.bl k] ∧ Q (.int (if k then 1 else 0)) H) call_int1 (by rfl) T.int (by decide +kernel)
              (pa_cons (pe_op op_add (pv 8) (pe_ix (r := rIxT K) (show IxR _ (rIxT K) from ix_tup) (pv 7) pe_int (fun _ _ => rfl))) pa_nil)) (pv 1))) pa_nil)))) pss_nil)
        (pss_one (ps_expr (pe_bm PySem.F.plainAttrs_list PySem.F.slot_list_append PySem.F.type_list_append mt_append (pv 5) (pa_cons (pe_tup (pa_cons (pv 6) (pa_cons (pv 7) pa_nil))) pa_nil)))))))
      (pss_one (ps_ret (pe_callTy call_tuple_of (by rfl) T.tuple (by decide +kernel) (pa_cons (pv 5) pa_nil))))))), ?_⟩
    refine ⟨_, rfl, _, rfl, p, (most : Int), rfl, by omega, by omega, hH, fun d H1 d0 d1 S1 => ⟨_, _, rfl, rfl, ?_⟩⟩
    obtain ⟨c, rfl⟩ := Int.eq_ofNat_of_zero_le d0
    refine ⟨_, rfl, p, 5, rfl, by decide, by decide, S1.hand, fun e H2 e0 e1 S2 => ?_⟩
    refine ⟨by show 0 ≤ sizeLine; decide, fun W hW => ?_⟩
    have S12 := S1.trans S2
    have hWH : H W = none := S12.free hW
    have S3 : Stp p H (upd H2 W (.lst [])) := S12.post (Same.new hW)
    have g3 : (upd H2 W (.lst [])) W = some (.lst []) := upd_same
    generalize upd H2 W (.lst []) = H3 at S3 g3 ⊢
    refine ⟨_, rfl, _, rfl, p, 1 + c, rfl, by omega, by omega, S3.hand, fun D H4 us fs hD3 S4 hD hF hn hg one => ?_⟩
    have WD : W ≠ D := ne_of_none g3 hD3
    have nW : W ≠ p := ne_of g3 S3.hand.dk.choose_spec (by intro z; cases z)
    have hus : us.length = fs.length := hF.1
    refine ⟨D, rfl, ⟨_, SqL.of hD⟩, for_list (K := K) (a := D) (xs := us) (fun i σ H' => Stp p H H' ∧ H' D = some (.lst us) ∧ FrsIn K H' us fs ∧ ∃ (acc : List V) (ms : List Mv) (u v : Option V), H' W = some (.lst acc) ∧ MvsIn K H' acc ms ∧ ms.map (·.1) = fs.take i ∧ (∀ m ∈ ms, MvOk many m ∧ m.1.1 < 2 ^ 40 ∧ m.1.2 < 2 ^ 40) ∧
      σ = [some (.ref p), some (.int (many : Int)), some (.int (most : Int)), some (.int (1 + (c : Int))), some (.int e), some (.ref W), u, v, none]) ?_ (fun i σ H' _ h => SqL.of h.2.1) ?_ ?_⟩
    · refine ⟨S3.trans S4, hD, hF, [], [], none, none, S4.keep _ _ nW g3, ⟨rfl, fun i v hv => by simp at hv⟩, rfl, fun m hm => absurd hm List.not_mem_nil, rfl⟩
    · rintro i x σ H' hi ⟨S5, h1, h2, acc, ms, u, v, h3, h4, h5, h6, rfl⟩
      obtain ⟨g, hg1, t, rfl, hT⟩ := h2.2 i x hi
      have gm := List.mem_of_getElem? hg1
      have hil : i < fs.length := (List.getElem?_eq_some_iff.mp hg1).1
      have hml : ms.length = i := by
        have z := congrArg List.length h5
        rw [List.length_map, List.length_take] at z
        omega
      have nD : D ≠ p := ne_of h1 S5.hand.dk.choose_spec (by intro z; cases z)
      have nW' : W ≠ p := nW
      refine ⟨_, rfl, _, rfl, p, many, rfl, m1, m12, S5.hand, fun l H6 xs S6 hl hxl hxb => ?_⟩
      have fin : ∀ (l' : Addr) (H7 : Hp) (ys : List Int), Stp p H' H7 → H7 l' = some (.tup (ys.map V.int)) → ys.length = many → (∀ x ∈ ys, 0 ≤ x ∧ x < (many : Int)) →
          ∀ q, H7 q = none → ∃ l xs y, V.ref W = .ref l ∧ [V.ref q] = [y] ∧ (upd H7 q (.tup [.ref t, .ref l'])) l = some (.lst xs) ∧ xs.length < sizeLine ∧
            (Stp p H (upd (upd H7 q (.tup [.ref t, .ref l'])) l (.lst (xs ++ [y]))) ∧ (upd (upd H7 q (.tup [.ref t, .ref l'])) l (.lst (xs ++ [y]))) D = some (.lst us) ∧ FrsIn K (upd (upd H7 q (.tup [.ref t, .ref l'])) l (.lst (xs ++ [y]))) us fs ∧
              ∃ (acc : List V) (ms : List Mv) (u v : Option V), (upd (upd H7 q (.tup [.ref t, .ref l'])) l (.lst (xs ++ [y]))) W = some (.lst acc) ∧ MvsIn K (upd (upd H7 q (.tup [.ref t, .ref l'])) l (.lst (xs ++ [y]))) acc ms ∧ ms.map (·.1) = fs.take (i + 1) ∧ (∀ m ∈ ms, MvOk many m ∧ m.1.1 < 2 ^ 40 ∧ m.1.2 < 2 ^ 40) ∧
              [some (V.ref p), some (.int (many : Int)), some (.int (most : Int)), some (.int (1 + (c : Int))), some (.int e), some (.ref W), some (.ref t), some (.ref l'), none] = [some (.ref p), some (.int (many : Int)), some (.int (most : Int)), some (.int (1 + (c : Int))), some (.int e), some (.ref W), u, v, none]) := by
        intro l' H7 ys S7 hl' hyl hyb q hq
        have s8 : Same H7 (upd H7 q (.tup [.ref t, .ref l'])) := Same.new hq
        have g8 : (upd H7 q (.tup [.ref t, .ref l'])) q = some (.tup [.ref t, .ref l']) := upd_same
        generalize upd H7 q (.tup [.ref t, .ref l']) = H8 at s8 g8 ⊢
        have S8 : Stp p H' H8 := S7.post s8
        have w8 := S8.keep _ _ nW h3
        have F8 : FrsIn K H8 us fs := S8.fr S5.hand h2
        refine ⟨W, acc, _, rfl, rfl, w8, small1000 (by have := h4.1; omega), (S5.trans S8).mut hH hWH, ?_, ⟨F8.1, fun j v hj => ?_⟩, acc ++ [.ref q], ms ++ [(g, ys)], _, _, upd_same, (S8.mv S5.hand h4).snoc w8 ⟨q, t, l', rfl, SqT.of g8, S8.sqT S5.hand hT, SqT.of (s8 _ _ hl')⟩, ?_, ?_, rfl⟩
        · rw [upd_ne (Ne.symm WD)]
          exact S8.keep _ _ nD h1
        · obtain ⟨f, y1, y2, y3, y4⟩ := F8.2 j v hj
          exact ⟨f, y1, y2, y3, sqT_upd w8 y4⟩
        · rw [List.map_append, h5, List.take_add_one, hg1] <;> rfl
        · intro m hm
          rcases List.mem_append.mp hm with hm | hm
          · exact h6 m hm
          · rw [List.mem_singleton.mp hm]
            obtain ⟨⟨g1, g2, g3⟩, g4, g5⟩ := hg g gm
            exact ⟨⟨g1, g2, g3, hyl, hyb⟩, g4, g5⟩
      have fin1 : ∀ q, H6 q = none → _ := fin l H6 xs S6 hl hxl hxb
      have w6 := S6.keep _ _ nW h3
      refine ⟨_, rfl, rfl, _, rfl, ite2 (fun _ => ?_) (fun _ => ?_)⟩
      · refine ⟨_, rfl, W, _, rfl, .inl (SqL.of w6), _, _, rfl, rfl, _, rfl, ite2 (fun hlen => ?_) (fun _ => ?_)⟩
        · have hlen := of_decide_eq_true hlen
          have ha : 0 < acc.length := by omega
          obtain ⟨v0, hv0, hv0m, hv0a⟩ := at_len ha
          obtain ⟨m0, hm0, a0, s0, l0, rfl, hA0, hT0, hL0⟩ := (S6.mv S5.hand h4).2 0 v0 hv0
          obtain ⟨k0, _⟩ := h6 m0 (List.mem_of_getElem? hm0)
          refine ⟨_, rfl, W, _, _, _, rfl, rfl, SqL.of w6, hv0a, a0, _, _, _, rfl, rfl, hA0, ats1 _ _, l0, rfl, ⟨_, hL0⟩, fun E hE => ?_⟩
          refine lc_tup (K := K) (a := l0) (xs := m0.2.map V.int) (Grow p E H6 many) (Grow.zero S6.hand hE) (fun j H7 _ z => z.1.sqT S6.hand hL0) (fun j x H7 hj z => ?_) (fun H7 z => ?_)
          · rw [List.getElem?_map] at hj
            obtain ⟨y, hy, rfl⟩ := Option.map_eq_some_iff.mp hj
            have hjl := (List.getElem?_eq_some_iff.mp hy).1
            have mp : (0 : Int) < many := by omega
            have nl : l ≠ p := ne_of hl S6.hand.dk.choose_spec (by intro z; cases z)
            have hx0 : 0 < (xs.map V.int).length := by
              rw [List.length_map]
              omega
            obtain ⟨x0, hx1, hx2, hx3⟩ := at_len hx0
            rw [List.getElem?_map] at hx1
            obtain ⟨x00, _, rfl⟩ := Option.map_eq_some_iff.mp hx1
            refine ⟨rfl, _, rfl, _, rfl, l, _, _, _, rfl, rfl, SqT.of (z.1.keep _ _ nl hl), hx3, _, _, rfl, rfl, .inl ⟨_, rfl, _, rfl, _, _, rfl, rfl, mp, ?_⟩⟩
            exact z.put S6.hand hE (Stp.refl z.1.hand) (by have := k0.2.2.2.1; omega) (Int.emod_nonneg _ (by omega)) (Int.emod_lt_of_pos _ mp)
          · obtain ⟨S7, ws, z1, z2, z3⟩ := z
            rw [List.length_map, k0.2.2.2.1] at z2
            refine ⟨E, _, rfl, .inl ⟨SqL.of z1, fun l2 hl2 => ?_⟩⟩
            have s9 : Same H7 (upd H7 l2 (.tup (ws.map V.int))) := Same.new hl2
            have S9 : Stp p H' (upd H7 l2 (.tup (ws.map V.int))) := (S6.trans S7).post s9
            exact ⟨_, rfl, .inl ⟨rfl, _, SqL.of (S9.keep _ _ nW h3)⟩, _, rfl, _, rfl, (by show 2 ≤ sizeLine; decide), fin l2 _ ws S9 upd_same z2 z3⟩
        · exact ⟨_, rfl, .inl ⟨rfl, _, SqL.of w6⟩, _, rfl, _, rfl, (by show 2 ≤ sizeLine; decide), fin1⟩
      · exact ⟨_, rfl, .inl ⟨rfl, _, SqL.of w6⟩, _, rfl, _, rfl, (by show 2 ≤ sizeLine; decide), fin1⟩
    · rintro σ H' ⟨S5, h1, h2, acc, ms, u, v, h3, h4, h5, h6, rfl⟩
      rw [hus, List.take_length] at h5
      have hml : ms.length = 1 + c := by
        have z := congrArg List.length h5
        rw [List.length_map] at z
        omega
      refine ⟨_, rfl, W, _, rfl, .inl ⟨SqL.of h3, fun l hl => ?_⟩⟩
      have s6 : Same H' (upd H' l (.tup acc)) := Same.new hl
      exact k l _ ms (S5.post s6) ⟨acc, SqT.of upd_same, h4.same s6⟩ ⟨⟨m1, m12, by omega, by omega, fun m hm => (h6 m hm).1, by rw [h5]; exact one⟩, fun m hm => (h6 m hm).2⟩
end
end Law
namespace L2
open PySem PySem.Spec PyProof.Rows
/-! ### (x,) * n for every n; t.count(k); set(t) of a tuple of ints -/
theorem tuple_mul0 (l : Addr) (items : Array Value) (n : Nat) (dd : Option Addr) (sl : Array (Option Value)) (u : Tok) (hi : items.isEmpty = false) :
    Meets (Builtin.«tuple.__mul__» ⟨[.ref l, .int 0 u], []⟩) (fun _ R s => s.heap.get? l = some { cls := .type "tuple", dict := dd, data := .seq items n, slots := sl } ∧
      R (.ok (.ret (Value.ref s.heap.objs.size))) { s with heap := s.heap.push { cls := Value.type "tuple", data := Data.seq #[] }, toks := s.toks }) :=
  .of_wp fun prog w A R s h => by
    obtain ⟨hp, g, d, tk, os⟩ := s
    obtain ⟨hl, h⟩ := h
    have f1 := AutoSeq1.idx_int
    have c1 : (items.isEmpty || (0 : Int) == 1) = false := by rw [hi] <;> rfl
    wp_walk using wpAny_loadPart' hl
    repeat (first
      | (refine wpAny_ite_false (decide_eq_false (by decide)) ?_; wp_walk using wpAny_loadPart' hl)
      | (refine wpAny_ite_false (decide_eq_false (by rw [c1]; exact Bool.false_ne_true)) ?_; wp_walk using wpAny_loadPart' hl)
      | (refine wpAny_ite_true (decide_eq_true (by simp)) ?_; wp_walk using wpAny_loadPart' hl))
    exact ⟨_, rfl, h⟩
theorem tuple_mul1 (l : Addr) (items : Array Value) (n : Nat) (dd : Option Addr) (sl : Array (Option Value)) (u : Tok) :
    Meets (Builtin.«tuple.__mul__» ⟨[.ref l, .int 1 u], []⟩) (fun _ R s => s.heap.get? l = some { cls := .type "tuple", dict := dd, data := .seq items n, slots := sl } ∧ R (.ok (.ret (Value.ref l))) s) :=
  .of_wp fun prog w A R s h => by
    obtain ⟨hp, g, d, tk, os⟩ := s
    obtain ⟨hl, h⟩ := h
    have f1 := AutoSeq1.idx_int
    have c1 : (items.isEmpty || (1 : Int) == 1) = true := by simp
    wp_walk using wpAny_loadPart' hl
    repeat (first
      | (refine wpAny_ite_false (decide_eq_false (by decide)) ?_; wp_walk using wpAny_loadPart' hl)
      | (refine wpAny_ite_true (decide_eq_true (by rw [c1])) ?_; wp_walk using wpAny_loadPart' hl, wpAny_typeOf' ⟨_, hl, rfl⟩))
    exact ⟨_, rfl, h⟩
def rCntT (K : PySem.W.Frag) : V → List V → Hp → VK → Prop := fun x xs H Q => ∃ (p : Addr) (ns : List Int) (k : Int), x = .ref p ∧ xs = [.int k] ∧ SqT K H p (ns.map V.int) ∧ Q (.int (ns.count k : Nat)) H
def rSetI (K : PySem.W.Frag) (w : World) : List V → Hp → VK → Prop := fun vs H Q => ∃ (a : Addr) (ns : List Int), vs = [V.ref a] ∧ SqT K H a (ns.map V.int) ∧ ns.length ≤ 1000 ∧
  ∀ (p : Addr) (c : Nat), H p = none → c ≤ ns.length → Q (.ref p) (upd H p (SetO w p (fun j => decide (j ∈ ns)) c))
section
variable {X : Cx}
theorem mt_tcount : MtR X "tuple.count" (rCntT X.K) := by
  intro pins s σ H x xs v us Q I rx rxs h
  obtain ⟨p, ns, k, rfl, rfl, hs, q⟩ := h
  cases rx
  obtain ⟨u, rfl, ru⟩ := rxs.one
  obtain ⟨t, rfl⟩ := ru
  obtain ⟨its, rv, ⟨⟨cls, dd, data, sl⟩, ho, hc, n, hd⟩, hlen⟩ := I.tuple hs
  simp only at hc hd
  subst hc hd
  have hi := ints_of_vals rv
  refine call_meets PySem.F.slot_tuple_count ⟨_, ho, rfl⟩ PySem.F.entry_tuple_count (PySem.F.args_tuple_count_2 _ _)
    (SeqAt.tuple_countAt p its.toArray n dd sl (.int k t) (eqk k)) ⟨ho, fun y hy => (eqk_gives hi y (by simpa using hy)).at _ _, ?_⟩
  have ec : its.toArray.toList.countP (eqk k) = ns.count k := eqk_count hi
  refine ⟨.int (ns.count k : Nat), H, I.tok _, ⟨s.toks, ?_⟩, q⟩
  show Value.int ((its.toArray.toList.countP (eqk k) : Nat) : Int) s.toks = Value.int ((ns.count k : Nat) : Int) s.toks
  rw [ec]
theorem cr_setI (hc : X.calm = true) : CallR X (.type "set") (rSetI X.K X.w) := by
  intro pins s σ H xs us Q I r h
  obtain ⟨a, ns, rfl, hq, hl, q⟩ := h
  rw [Vals.ref1 r]
  obtain ⟨its, rv, pt, hz⟩ := I.tuple hq
  have hi : IntsAre its.toArray.toList ns := ints_of_vals rv
  refine call_set_tupI ns (I.ok.hd hc) (show s.heap.IsTuple a its.toArray from pt) hi (by unfold scanBound; omega) fun h' tk c R1 hcn k => ?_
  exact ⟨.ref _, upd H s.heap.objs.size (SetO X.w s.heap.objs.size (fun j => decide (j ∈ ns)) c), I.laid (t' := tk) k (Nat.le_refl _) (setO_new R1), rfl, q _ c (I.hok.fresh (Nat.le_refl _)) hcn⟩
def rRepI (K : PySem.W.Frag) : R2 := fun x y H Q => ∃ l k xs, x = .ref l ∧ y = .int k ∧ SqT K H l xs ∧ xs ≠ [] ∧ 0 ≤ k ∧ k ≤ 1000 ∧ xs.length ≤ 1000 ∧
  (k = 0 → ∀ p, H p = none → Q (.ref p) (upd H p (.tup []))) ∧ (k = 1 → Q (.ref l) H) ∧ (2 ≤ k → ∀ p, H p = none → Q (.ref p) (upd H p (.tup (List.replicate k.toNat xs).flatten)))
theorem op_repI : OpR X (binaryOp .Mult) (rRepI X.K) := by
  intro pins s σ H x y v u Q I rx ry h
  obtain ⟨l, k, xs, rfl, rfl, hT, hne, h1, h2, hz, q0, q1, q2⟩ := h
  by_cases k2 : 2 ≤ k
  · exact op_repT pins s σ H _ _ v u Q I rx ry ⟨l, k, xs, rfl, rfl, hT, hne, k2, h2, hz, q2 k2⟩
  cases rx
  obtain ⟨t, rfl⟩ := ry
  obtain ⟨its, r, ⟨⟨cls, dd, data, sl⟩, ho, hc, n, hd⟩, hs⟩ := I.tuple hT
  simp only at hc hd
  subst hc hd
  have hle : its.length = xs.length := r.length.symm
  have hn : its ≠ [] := fun e => hne (by
    rw [e] at hle
    exact List.eq_nil_of_length_eq_zero hle.symm)
  have hi : its.toArray.isEmpty = false := by
    cases its with
    | nil => exact absurd rfl hn
    | cons a b => rfl
  by_cases k0 : k = 0
  · subst k0
    refine wpAny_binaryOp_repeat_ref (T := "tuple") (U := "int") (by decide) ⟨_, ho, rfl⟩ (fun s' => typeIs_int s' 0 t) noFill_tuple_mul F.fills_int_mul F.slot_int_rmul repeat_tuple F.slot_int_index.lookup
      (call_meets F.slot_int_rmul (typeIs_int s 0 t) F.entry_int_rmul (F.args_int_rmul_2 _ _) (int_rmul_tuple 0 t l its.toArray n dd sl)
        ⟨ho, rfl, ⟨_, ho, rfl⟩, call_meets F.slot_tuple_mul ⟨_, ho, rfl⟩ F.entry_tuple_mul (F.args_tuple_mul_2 _ _) (tuple_mul0 l its.toArray n dd sl t hi) ⟨ho, ?_⟩⟩)
    refine ⟨.ref s.heap.objs.size, _, I.laid (t' := s.toks) (o := .tup []) (fun b ob q => Heap.get?_push_of_some _ q) (Nat.le_refl _) ?_, rfl, q0 rfl _ (I.hok.fresh (Nat.le_refl _))⟩
    exact ⟨Nat.zero_le _, [], .nil, IsTup.new _ _⟩
  · have k1 : k = 1 := by omega
    subst k1
    exact wpAny_binaryOp_repeat_ref (T := "tuple") (U := "int") (by decide) ⟨_, ho, rfl⟩ (fun s' => typeIs_int s' 1 t) noFill_tuple_mul F.fills_int_mul F.slot_int_rmul repeat_tuple F.slot_int_index.lookup
      (call_meets F.slot_int_rmul (typeIs_int s 1 t) F.entry_int_rmul (F.args_int_rmul_2 _ _) (int_rmul_tuple 1 t l its.toArray n dd sl)
        ⟨ho, rfl, ⟨_, ho, rfl⟩, call_meets F.slot_tuple_mul ⟨_, ho, rfl⟩ F.entry_tuple_mul (F.args_tuple_mul_2 _ _) (tuple_mul1 l its.toArray n dd sl t) ⟨ho, ⟨.ref l, H, I, rfl, q1 rfl⟩⟩⟩)
end
end L2
namespace L2
open PySem PySem.Spec PyProof.Rows
/-! ### tuples that are known to their object: made so, asked for a method -/
/-- a tuple whose object bears no dict -/
def TupZ (H : Hp) (a : Addr) (xs : List V) : Prop := ∃ o : Obj, H a = some (.frz o (.tup xs)) ∧ o.dict = none
theorem TupZ.sq {K : PySem.W.Frag} {H : Hp} {a : Addr} {xs : List V} (h : TupZ H a xs) : SqT K H a xs := by
  obtain ⟨o, h, _⟩ := h
  exact .inl (.inr ⟨o, h⟩)
theorem Same.tupZ {H H' : Hp} {a : Addr} {xs : List V} (e : Same H H') (h : TupZ H a xs) : TupZ H' a xs := by
  obtain ⟨o, h, z⟩ := h
  exact ⟨o, e _ _ h, z⟩
section
variable {X : Cx}
theorem call_tuple_ofZ : CallR X (.type "tuple") (fun xs H Q => ∃ p ys, xs = [.ref p] ∧ SqL X.K H p ys ∧ ∀ l H', H l = none → Same H H' → TupZ H' l ys → (∀ b, b ≠ l → H' b = H b) → Q (.ref l) H') := by
  intro pins s σ H xs us Q I r h
  obtain ⟨p, ys, rfl, hq, q⟩ := h
  obtain ⟨u, rfl, rx⟩ := vals1 r
  cases rx
  obtain ⟨its, r', pl, hz⟩ := I.list hq
  have hlen := r'.length
  refine call_tuple_list pl.isList (fun h' kp => ?_) (by simp only [List.size_toArray] <;> omega)
  have I1 : Inv X pins σ H { s with heap := h' } := I.kept (t' := s.toks) kp
  have hf : H h'.objs.size = none := I1.hok.fresh (Nat.le_refl _)
  have I2 : Inv X pins σ (upd H h'.objs.size (.frz { cls := .type "tuple", data := .seq its.toArray } (.tup ys))) { s with heap := h'.push { cls := .type "tuple", data := .seq its.toArray } } :=
    I1.laid (t' := s.toks) (fun b o e => Heap.get?_push_of_some _ e) (Nat.le_refl _) (show ObjOk X.prog X.w _ _ _ (.frz _ (.tup ys)) from ⟨Heap.get?_push_size _ rfl, hz, its, r', IsTup.new _ _⟩)
  exact ⟨.ref h'.objs.size, _, I2, rfl, q _ _ hf (fun b o e => by rw [upd_ne (ne_of_none e hf)]; exact e) ⟨_, upd_same, rfl⟩ fun b n => upd_ne n⟩
variable {es : List Expr} {pos : Pos} {t : TA}
def tTupZ (t : TA) : TE := fun σ H Q => t σ H fun xs H1 => xs.length ≤ sizeLine ∧ ∀ p H', H1 p = none → Same H1 H' → TupZ H' p xs → (∀ b, b ≠ p → H' b = H1 b) → Q (.ref p) H'
theorem pe_tupZ {x1} (h : PA X es t) : PE X (.Tuple es x1 pos) (tTupZ t) := by
  refine ⟨fun pins s σ H Q I hq => ?_⟩
  refine wpAny_Tuple_spliced (thn (h.run pos pins s σ H _ I hq) fun us s1 ⟨xs, H1, I1, r, z, q⟩ => ⟨by rw [← r.length]; exact z, ?_⟩)
  have hf : H1 s1.heap.objs.size = none := I1.hok.fresh (Nat.le_refl _)
  refine ⟨.ref s1.heap.objs.size, upd H1 s1.heap.objs.size (.frz { cls := .type "tuple", data := .seq us.toArray } (.tup xs)), I1.laid (t' := s1.toks) (fun b u e => Heap.get?_push_of_some _ e) (Nat.le_refl _) ?_, rfl,
    q _ _ hf (fun b o e => by rw [upd_ne (ne_of_none e hf)]; exact e) ⟨_, upd_same, rfl⟩ fun b n => upd_ne n⟩
  exact ⟨Heap.get?_push_size _ rfl, z, us, r, ⟨_, Heap.get?_push_size _ rfl, rfl, _, rfl⟩⟩
/-- t.m(..), t a tuple that is known so -/
def tBMZ (r : V → List V → Hp → VK → Prop) (to : TE) (t : TA) : TE := fun σ H Q => to σ H fun x H1 => (∃ p xs, x = .ref p ∧ TupZ H1 p xs) ∧ t σ H1 fun xs H2 => r x xs H2 Q
variable {o e : Expr} {to : TE} {name : Str} {apos cpos : Pos} {id : String} {r : V → List V → Hp → VK → Prop}
theorem pe_bmZ (slot : Slot "tuple" name id) (hty : typeOf (.builtin id) = pure (.type "method_descriptor")) (hm : MtR X id r) (ho : PE X o to) (ha : PA X (e :: es) t)
    (hbase : attributeBase o name X.env (eval o X.env) = eval o X.env := by rfl)
    (hfew : ((backTo cpos (starEach (e :: es) X.env)).all (fun x => !x.1) && (backToKw cpos (keywordEach [] X.env)).all (fun x => x.1.isSome)
      && decide ((e :: es).length + ([] : List Keyword).length + (if ([] : List Keyword).isEmpty then 0 else 1) < 30)) = true := by rfl)
    (hline : (apos.endLine == cpos.line) = true := by rfl) (hs : starEach (e :: es) X.env = (false, eval e X.env) :: starEach es X.env := by rfl) (hplain : (backTo cpos (starEach es X.env)).any (·.1) = false := by rfl) :
    PE X (.Call (.Attribute o name apos) (e :: es) [] cpos) (tBMZ r to t) := by
  refine ⟨fun pins s σ H Q I h => ?_⟩
  refine wpAny_Call_method_late hbase hfew hline rfl (thn (ho.run pins s σ H _ I h) fun v s1 ⟨x, H1, I1, r1, ty, q1⟩ => ?_)
  obtain ⟨p, xs, rfl, oz, hz, dz⟩ := ty
  have r1' := r1
  cases r1
  obtain ⟨g1, g2⟩ : ObjOk X.prog X.w H1 s1.heap p (.frz oz (.tup xs)) := I1.hok p _ hz
  obtain ⟨_, its, _, o2, ho2, hc2, n, hd2⟩ := g2
  rw [g1] at ho2
  cases ho2
  refine ⟨"tuple", id, PySem.F.plainAttrs_tuple, slot, hty, ⟨oz, g1, hc2⟩, fun a ea => by cases ea; exact ⟨oz, g1, dz⟩, ?_⟩
  have hA := ha.run cpos pins s1 σ H1 _ I1 q1
  rw [hs] at hA ⊢
  refine Calls.callWith_builtin (by show (false || (backTo cpos (starEach es X.env)).any (·.1)) = false; rw [hplain] <;> rfl) (Calls.evalArgs_plain ?_)
  exact thn hA fun us s2 ⟨vs, H2, I2, r2, q2⟩ => hm pins s2 σ H2 _ vs _ us Q I2 r1' r2 q2
/-- (x,) * k -/
def rRepZ : R2 := fun x y H Q => ∃ l k z, x = .ref l ∧ y = .int k ∧ TupZ H l [z] ∧ 0 ≤ k ∧ k ≤ 1000 ∧ ∀ p H', Same H H' → TupZ H' p (List.replicate k.toNat z) → (∀ b, H b ≠ none → H' b = H b) → Q (.ref p) H'
theorem rep_one {α : Type} (z : α) : ∀ m : Nat, (List.replicate m [z]).flatten = List.replicate m z
  | 0 => rfl
  | m + 1 => by rw [List.replicate_succ, List.flatten_cons, rep_one z m, List.replicate_succ] <;> rfl
theorem op_repZ : OpR X (binaryOp .Mult) rRepZ := by
  intro pins s σ H x y v u Q I rx ry h
  obtain ⟨l, k, z, rfl, rfl, hT, h1, h2, q⟩ := h
  cases rx
  obtain ⟨t, rfl⟩ := ry
  obtain ⟨its, r, ⟨⟨cls, dd, data, sl⟩, ho, hc, n, hd⟩, hs⟩ := I.tuple (show SqT X.K H l [z] from hT.sq)
  simp only at hc hd
  subst hc hd
  have hle : its.length = 1 := r.length.symm
  have hi : its.toArray.isEmpty = false := by
    cases its with
    | nil => cases hle
    | cons a b => rfl
  have new : ∀ (ys : Array Value), Vals (List.replicate k.toNat z) ys.toList → ∃ v H', Inv X pins σ H' { s with heap := s.heap.push { cls := .type "tuple", data := .seq ys }, toks := s.toks } ∧ RelV v (.ref s.heap.objs.size) ∧ Q v H' := fun ys hv => by
    have hf : H s.heap.objs.size = none := I.hok.fresh (Nat.le_refl _)
    refine ⟨.ref s.heap.objs.size, upd H s.heap.objs.size (.frz { cls := .type "tuple", data := .seq ys } (.tup (List.replicate k.toNat z))), I.laid (t' := s.toks) (fun b ob q => Heap.get?_push_of_some _ q) (Nat.le_refl _) ?_, rfl,
      q _ _ (fun b o e => by rw [upd_ne (ne_of_none e hf)]; exact e) ⟨_, upd_same, rfl⟩ fun b n => upd_ne fun e => n (by rw [e]; exact hf)⟩
    refine ⟨Heap.get?_push_size _ rfl, ?_, ys.toList, hv, IsTup.new _ _⟩
    rw [List.length_replicate, sizeLine_eq]
    omega
  by_cases k0 : k = 0
  · subst k0
    exact wpAny_binaryOp_repeat_ref (T := "tuple") (U := "int") (by decide) ⟨_, ho, rfl⟩ (fun s' => typeIs_int s' 0 t) noFill_tuple_mul F.fills_int_mul F.slot_int_rmul repeat_tuple F.slot_int_index.lookup
      (call_meets F.slot_int_rmul (typeIs_int s 0 t) F.entry_int_rmul (F.args_int_rmul_2 _ _) (int_rmul_tuple 0 t l its.toArray n dd sl)
        ⟨ho, rfl, ⟨_, ho, rfl⟩, call_meets F.slot_tuple_mul ⟨_, ho, rfl⟩ F.entry_tuple_mul (F.args_tuple_mul_2 _ _) (tuple_mul0 l its.toArray n dd sl t hi) ⟨ho, new #[] .nil⟩⟩)
  by_cases k1 : k = 1
  · subst k1
    exact wpAny_binaryOp_repeat_ref (T := "tuple") (U := "int") (by decide) ⟨_, ho, rfl⟩ (fun s' => typeIs_int s' 1 t) noFill_tuple_mul F.fills_int_mul F.slot_int_rmul repeat_tuple F.slot_int_index.lookup
      (call_meets F.slot_int_rmul (typeIs_int s 1 t) F.entry_int_rmul (F.args_int_rmul_2 _ _) (int_rmul_tuple 1 t l its.toArray n dd sl)
        ⟨ho, rfl, ⟨_, ho, rfl⟩, call_meets F.slot_tuple_mul ⟨_, ho, rfl⟩ F.entry_tuple_mul (F.args_tuple_mul_2 _ _) (tuple_mul1 l its.toArray n dd sl t) ⟨ho, ⟨.ref l, H, I, rfl, q l H (Same.refl H) hT fun _ _ => rfl⟩⟩⟩)
  have hm : ((its.toArray.size : Nat) : Int) * k ≤ 1000 := by
    rw [List.size_toArray, hle]
    omega
  have flen : (List.replicate k.toNat its).flatten.length ≤ sizeLine := by
    rw [PyProof.Rows.lm_len_rep_flat, hle, sizeLine_eq]
    omega
  have c0 : (decide (k < -(2 ^ 63)) || decide (k ≥ 2 ^ 63)) = false := by
    rw [decide_eq_false (by omega), decide_eq_false (by omega)] <;> rfl
  have c1 : (its.toArray.isEmpty || k == 1) = false := by
    rw [hi, Bool.false_or]
    exact beq_eq_false_iff_ne.mpr (by omega)
  have c2 : (decide (k ≤ 0) || its.toArray.isEmpty) = false := by
    rw [hi, Bool.or_false]
    exact decide_eq_false (by omega)
  have c4 : Builtin.Tuple.tupleTooMany (((its.toArray.size : Nat) : Int) * k) = false := by
    unfold Builtin.Tuple.tupleTooMany
    rw [sizeLine_eq]
    exact decide_eq_false (by omega)
  refine wpAny_binaryOp_repeat_ref (T := "tuple") (U := "int") (by decide) ⟨_, ho, rfl⟩ (fun s' => typeIs_int s' k t) noFill_tuple_mul F.fills_int_mul F.slot_int_rmul repeat_tuple F.slot_int_index.lookup
    (call_meets F.slot_int_rmul (typeIs_int s k t) F.entry_int_rmul (F.args_int_rmul_2 _ _) (int_rmul_tuple k t l its.toArray n dd sl)
      ⟨ho, rfl, ⟨_, ho, rfl⟩, call_meets F.slot_tuple_mul ⟨_, ho, rfl⟩ F.entry_tuple_mul (F.args_tuple_mul_2 _ _) (tuple_mulW l its.toArray n dd sl k t c0 c1 c2 (by omega) c4 (by rw [size_rep, List.size_toArray]; exact flen)) ⟨ho, ?_⟩⟩)
  rw [size_rep]
  have rr := r.rep k.toNat
  rw [rep_one] at rr
  exact new _ rr
end
end L2
namespace Law
open PySem L2
/-! ### a state led along a row; products along a row, and by counting -/
def leadOf (ms : List Mv) (r s : Int) : Int := match ms[r.toNat]? with
  | some m => (m.2[s.toNat]?).getD 0
  | none => 0
def goneF (ms : List Mv) (row : List Int) (s : Int) : Int := row.foldl (fun s r => leadOf ms r s) s
def RowOk (n : Nat) (row : List Int) : Prop := row.length ≤ 400 ∧ ∀ r ∈ row, 0 ≤ r ∧ r < (n : Int)
theorem lead_at {many : Nat} {ms : List Mv} (h : ∀ m ∈ ms, MvOk many m) {r s : Int} (hr : 0 ≤ r ∧ r < (ms.length : Nat)) (hs : 0 ≤ s ∧ s < (many : Int)) : ∃ m, ms[r.toNat]? = some m ∧ m.2[s.toNat]? = some (leadOf ms r s) ∧ 0 ≤ leadOf ms r s ∧ leadOf ms r s < (many : Int) := by
  have h1 : r.toNat < ms.length := by omega
  refine ⟨ms[r.toNat], List.getElem?_eq_getElem h1, ?_⟩
  obtain ⟨_, _, _, h2, h3⟩ := h _ (List.getElem_mem h1)
  have h4 : s.toNat < ms[r.toNat].2.length := by rw [h2]; omega
  have e : leadOf ms r s = ms[r.toNat].2[s.toNat] := by
    unfold leadOf
    rw [List.getElem?_eq_getElem h1]
    show (ms[r.toNat].2[s.toNat]?).getD 0 = _
    rw [List.getElem?_eq_getElem h4] <;> rfl
  rw [e]
  exact ⟨List.getElem?_eq_getElem h4, h3 _ (List.getElem_mem h4)⟩
theorem gone_in {many : Nat} {ms : List Mv} (h : ∀ m ∈ ms, MvOk many m) : ∀ (row : List Int) (s : Int), (∀ r ∈ row, 0 ≤ r ∧ r < ((ms.length : Nat) : Int)) → 0 ≤ s ∧ s < (many : Int) → 0 ≤ goneF ms row s ∧ goneF ms row s < (many : Int)
  | [], _, _, hs => hs
  | r :: row, s, hr, hs => by
    obtain ⟨m, _, _, z⟩ := lead_at h (hr r List.mem_cons_self) hs
    exact gone_in h row _ (fun x hx => hr x (List.mem_cons_of_mem _ hx)) z
theorem gone_snoc (ms : List Mv) (row : List Int) (r s : Int) : goneF ms (row ++ [r]) s = leadOf ms r (goneF ms row s) := by
  unfold goneF
  rw [List.foldl_append] <;> rfl
theorem gone_app (ms : List Mv) (a b : List Int) (s : Int) : goneF ms (a ++ b) s = goneF ms b (goneF ms a s) := by
  unfold goneF
  rw [List.foldl_append]
/-- the moves' tops (their bottoms), 1 beyond -/
def topAt (ms : List Mv) (j : Nat) : Nat := ((ms[j]?).map fun m => m.1.1.toNat).getD 1
def botAt (ms : List Mv) (j : Nat) : Nat := ((ms[j]?).map fun m => m.1.2.toNat).getD 1
def cpr (f : Nat → Nat) (row : List Int) : Nat → Nat
  | 0 => 1
  | i + 1 => cpr f row i * f i ^ row.count (i : Int)
def rpr (f : Nat → Nat) (row : List Int) : Nat := row.foldl (fun a r => a * f r.toNat) 1
theorem cpr_snoc (f : Nat → Nat) (row : List Int) (r : Int) (h : 0 ≤ r) : ∀ i : Nat, cpr f (row ++ [r]) i = cpr f row i * (if r.toNat < i then f r.toNat else 1)
  | 0 => by
    rw [if_neg (Nat.not_lt_zero _)] <;> rfl
  | i + 1 => by
    have ih := cpr_snoc f row r h i
    unfold cpr
    rw [ih, List.count_append]
    by_cases e : r = (i : Int)
    · subst e
      have c : List.count ((i : Nat) : Int) [((i : Nat) : Int)] = 1 := by simp
      rw [c, Int.toNat_natCast, if_neg (Nat.lt_irrefl _), if_pos (Nat.lt_succ_self _), Nat.pow_succ, Nat.mul_one, Nat.mul_assoc]
    · have c : List.count ((i : Nat) : Int) [r] = 0 := by
        rw [List.count_eq_zero]
        simp
        exact fun z => e z.symm
      rw [c, Nat.add_zero]
      by_cases l : r.toNat < i
      · rw [if_pos l, if_pos (by omega), Nat.mul_right_comm]
      · rw [if_neg l, if_neg (by omega), Nat.mul_one, Nat.mul_one]
theorem cpr_nil (f : Nat → Nat) : ∀ i : Nat, cpr f [] i = 1
  | 0 => rfl
  | i + 1 => by
    unfold cpr
    rw [cpr_nil f i] <;> simp
theorem cpr_fold (f : Nat → Nat) (n : Nat) : ∀ (row pre : List Int), (∀ r ∈ row, 0 ≤ r ∧ r < (n : Int)) → cpr f (pre ++ row) n = row.foldl (fun a r => a * f r.toNat) (cpr f pre n)
  | [], pre, _ => by rw [List.append_nil] <;> rfl
  | r :: row, pre, h => by
    have e : pre ++ r :: row = (pre ++ [r]) ++ row := by simp
    obtain ⟨h0, h1⟩ := h r List.mem_cons_self
    rw [e, cpr_fold f n row (pre ++ [r]) fun x hx => h x (List.mem_cons_of_mem _ hx), cpr_snoc f pre r h0, if_pos (by omega)] <;> rfl
theorem cpr_row {f : Nat → Nat} {n : Nat} {row : List Int} (h : ∀ r ∈ row, 0 ≤ r ∧ r < (n : Int)) : cpr f row n = rpr f row := by
  have z := cpr_fold f n row [] h
  rw [List.nil_append, cpr_nil] at z
  exact z
theorem rpr_fold {f : Nat → Nat} (hf : ∀ j, 0 < f j ∧ f j < 2 ^ 40) : ∀ (row : List Int) (a : Nat), 0 < a → 0 < row.foldl (fun a r => a * f r.toNat) a ∧ row.foldl (fun a r => a * f r.toNat) a ≤ a * 2 ^ (40 * row.length)
  | [], a, h => ⟨h, by simp⟩
  | r :: row, a, h => by
    obtain ⟨f0, f1⟩ := hf r.toNat
    obtain ⟨i1, i2⟩ := rpr_fold hf row (a * f r.toNat) (Nat.mul_pos h f0)
    refine ⟨i1, Nat.le_trans i2 ?_⟩
    have e : a * 2 ^ (40 * (r :: row).length) = a * 2 ^ 40 * 2 ^ (40 * row.length) := by
      rw [List.length_cons, Nat.mul_add, Nat.mul_one, Nat.add_comm, Nat.pow_add, Nat.mul_assoc]
    rw [e]
    exact Nat.mul_le_mul_right _ (Nat.mul_le_mul_left _ (Nat.le_of_lt f1))
theorem rpr_pos {f : Nat → Nat} (hf : ∀ j, 0 < f j ∧ f j < 2 ^ 40) (row : List Int) : 0 < rpr f row := (rpr_fold hf row 1 (by decide)).1
theorem rpr_lt {f : Nat → Nat} (hf : ∀ j, 0 < f j ∧ f j < 2 ^ 40) {row : List Int} (h : row.length ≤ 400) : rpr f row < 2 ^ 17000 := by
  have z := (rpr_fold hf row 1 (by decide)).2
  rw [Nat.one_mul] at z
  exact Nat.lt_of_le_of_lt z (Nat.pow_lt_pow_right (by decide) (by omega))
theorem rpr_snoc (f : Nat → Nat) (row : List Int) (r : Int) : rpr f (row ++ [r]) = rpr f row * f r.toNat := by
  unfold rpr
  rw [List.foldl_append] <;> rfl
theorem foldl_mul (f : Nat → Nat) : ∀ (row : List Int) (a : Nat), row.foldl (fun a r => a * f r.toNat) a = a * rpr f row
  | [], a => by simp [rpr]
  | r :: row, a => by
    unfold rpr
    rw [List.foldl_cons, List.foldl_cons, foldl_mul f row, foldl_mul f row (1 * f r.toNat), Nat.one_mul, Nat.mul_assoc]
theorem rpr_app (f : Nat → Nat) (a b : List Int) : rpr f (a ++ b) = rpr f a * rpr f b := by
  show (a ++ b).foldl _ 1 = _
  rw [List.foldl_append, foldl_mul] <;> rfl
theorem cpr_pos {f : Nat → Nat} (hf : ∀ j, 0 < f j ∧ f j < 2 ^ 40) (row : List Int) : ∀ i : Nat, 0 < cpr f row i
  | 0 => Nat.one_pos
  | i + 1 => Nat.mul_pos (cpr_pos hf row i) (Nat.pow_pos (hf i).1)
theorem cpr_le {f : Nat → Nat} (hf : ∀ j, 0 < f j ∧ f j < 2 ^ 40) (row : List Int) {i n : Nat} (h : i ≤ n) : cpr f row i ≤ cpr f row n := by
  induction h with
  | refl => exact Nat.le_refl _
  | step _ ih => exact Nat.le_trans ih (Nat.le_mul_of_pos_right _ (Nat.pow_pos (hf _).1))
theorem cpr_part {f : Nat → Nat} (hf : ∀ j, 0 < f j ∧ f j < 2 ^ 40) {n : Nat} {row : List Int} (h : ∀ r ∈ row, 0 ≤ r ∧ r < (n : Int)) (hl : row.length ≤ 400) {i t : Nat} (hi : i < n) (ht : t ≤ row.count (i : Int)) : cpr f row i * f i ^ t < 2 ^ 17000 := by
  have z : cpr f row i * f i ^ t ≤ cpr f row (i + 1) := Nat.mul_le_mul_left _ (Nat.pow_le_pow_right (hf i).1 ht)
  have z2 := cpr_le hf row (show i + 1 ≤ n by omega)
  rw [cpr_row h] at z2
  exact Nat.lt_of_le_of_lt (Nat.le_trans z z2) (rpr_lt hf hl)
theorem top_ok {many : Nat} {ms : List Mv} (h : MvsOk many ms) (j : Nat) : 0 < topAt ms j ∧ topAt ms j < 2 ^ 40 := by
  unfold topAt
  cases e : ms[j]? with
  | none => exact ⟨by decide, by decide⟩
  | some m =>
    have hm := List.mem_of_getElem? e
    have h1 := (h.ok.mv m hm).2.1
    have h2 := (h.lt m hm).1
    show 0 < m.1.1.toNat ∧ m.1.1.toNat < 2 ^ 40
    omega
theorem bot_ok {many : Nat} {ms : List Mv} (h : MvsOk many ms) (j : Nat) : 0 < botAt ms j ∧ botAt ms j < 2 ^ 40 := by
  unfold botAt
  cases e : ms[j]? with
  | none => exact ⟨by decide, by decide⟩
  | some m =>
    have hm := List.mem_of_getElem? e
    have h1 := (h.ok.mv m hm).1.1
    have h2 := (h.lt m hm).2
    show 0 < m.1.2.toNat ∧ m.1.2.toNat < 2 ^ 40
    omega
theorem top_at {many : Nat} {ms : List Mv} (h : MvsOk many ms) {j : Nat} {m : Mv} (e : ms[j]? = some m) : m.1.1 = ((topAt ms j : Nat) : Int) ∧ m.1.2 = ((botAt ms j : Nat) : Int) := by
  have hm := List.mem_of_getElem? e
  have h1 := (h.ok.mv m hm).2.1
  have h2 := (h.ok.mv m hm).1.1
  unfold topAt botAt
  rw [e]
  show m.1.1 = ((m.1.1.toNat : Nat) : Int) ∧ m.1.2 = ((m.1.2.toNat : Nat) : Int)
  omega
/-- a row's share -/
def shareF (ms : List Mv) (row : List Int) : Fr := lowP ((rpr (topAt ms) row : Nat) : Int) ((rpr (botAt ms) row : Nat) : Int)
/-- the product of two in lowest terms, in lowest terms -/
theorem lowP_mul {a b c d : Int} (ha : 0 ≤ a) (hc : 0 ≤ c) (hb : 0 < b) (hd : 0 < d) : lowP ((lowP a b).1 * (lowP c d).1) ((lowP a b).2 * (lowP c d).2) = lowP (a * c) (b * d) := by
  have g1 := gI_pos (t := a) hb
  have g2 := gI_pos (t := c) hd
  have dv : ∀ t b : Int, gI t b ∣ t ∧ gI t b ∣ b := fun t b => by
    unfold gI
    exact ⟨Int.ofNat_dvd_left.mpr (Nat.gcd_dvd_left _ _), Int.ofNat_dvd_left.mpr (Nat.gcd_dvd_right _ _)⟩
  have e1 : a = gI a b * (lowP a b).1 := (Int.mul_ediv_cancel' (dv a b).1).symm
  have e2 : b = gI a b * (lowP a b).2 := (Int.mul_ediv_cancel' (dv a b).2).symm
  have e3 : c = gI c d * (lowP c d).1 := (Int.mul_ediv_cancel' (dv c d).1).symm
  have e4 : d = gI c d * (lowP c d).2 := (Int.mul_ediv_cancel' (dv c d).2).symm
  generalize hA : (lowP a b).1 = A at *
  generalize hB : (lowP a b).2 = B at *
  generalize hC : (lowP c d).1 = C at *
  generalize hD : (lowP c d).2 = D at *
  have gg : 0 < gI a b * gI c d := Int.mul_pos g1 g2
  have E1 : a * c = (gI a b * gI c d) * (A * C) := by
    conv => lhs; rw [e1, e3]
    rw [Int.mul_assoc, Int.mul_assoc, Int.mul_left_comm A]
  have E2 : b * d = (gI a b * gI c d) * (B * D) := by
    conv => lhs; rw [e2, e4]
    rw [Int.mul_assoc, Int.mul_assoc, Int.mul_left_comm B]
  have scale : ∀ g t u : Int, 0 < g → lowP (g * t) (g * u) = lowP t u := fun g t u hg => by
    have q : gI (g * t) (g * u) = g * gI t u := by
      unfold gI
      rw [Int.natAbs_mul, Int.natAbs_mul, Nat.gcd_mul_left, Int.natCast_mul]
      congr 1
      omega
    unfold lowP
    rw [q, Int.mul_ediv_mul_of_pos _ _ hg, Int.mul_ediv_mul_of_pos _ _ hg]
  rw [E1, E2, scale _ _ _ gg]
end Law
namespace Law
open PySem L2
/-! ### the law's own going, rows, shares -/
theorem mv_ix {K : PySem.W.Frag} {H : Hp} {vs : List V} {ms : List Mv} {r : Int} (h : MvsIn K H vs ms) (hr : 0 ≤ r ∧ r < ((ms.length : Nat) : Int)) :
    ∃ m aa s l, atI vs r = some (.ref aa) ∧ ms[r.toNat]? = some m ∧ SqT K H aa [.ref s, .ref l] ∧ SqT K H s [.int m.1.1, .int m.1.2] ∧ SqT K H l (m.2.map V.int) := by
  obtain ⟨j, rfl⟩ := Int.eq_ofNat_of_zero_le hr.1
  have hj : j < vs.length := by
    have := h.1
    omega
  obtain ⟨v, hv, _, hat⟩ := at_len hj
  obtain ⟨m, hm, aa, s, l, rfl, h2, h3, h4⟩ := h.2 j v hv
  exact ⟨m, aa, s, l, hat, by rw [Int.toNat_natCast]; exact hm, h2, h3, h4⟩
theorem ints_ix {xs : List Int} {s z : Int} (hs : 0 ≤ s) (e : xs[s.toNat]? = some z) : atI (xs.map V.int) s = some (.int z) := by
  obtain ⟨j, rfl⟩ := Int.eq_ofNat_of_zero_le hs
  rw [Int.toNat_natCast] at e
  exact atI_nat (by rw [List.getElem?_map, e] <;> rfl)
def rLenK (K : PySem.W.Frag) : List V → Hp → VK → Prop := fun xs H Q => ∃ p ys, xs = [.ref p] ∧ (SqL K H p ys ∨ SqT K H p ys) ∧ Q (.int (ys.length : Nat)) H
theorem Stp.tupZ {p : Addr} {H H' : Hp} {a : Addr} {xs : List V} (S : Stp p H H') (hp : HandAt H p) (h : TupZ H a xs) : TupZ H' a xs := by
  obtain ⟨ks, hk⟩ := hp.dk
  obtain ⟨o, h, z⟩ := h
  exact ⟨o, S.keep _ _ (ne_of h hk (by intro z; cases z)) h, z⟩
section
variable {P : Program} {w : World} {K : PySem.W.Frag} {mg : Str → Option Value} {base : Heap}
def spGone (K : PySem.W.Frag) : Sp := fun vs H Q _ => ∃ (a b : Addr) (ms : List Mv) (row : List Int) (many : Nat) (s : Int), vs = [.ref a, .ref b, .int s] ∧ MvsAt K H a ms ∧ SqT K H b (row.map V.int) ∧ (∀ m ∈ ms, MvOk many m) ∧ (∀ r ∈ row, 0 ≤ r ∧ r < ((ms.length : Nat) : Int)) ∧ 0 ≤ s ∧ s < (many : Int) ∧ Q (.int (goneF ms row s)) H
theorem scGone : FnScope ["_law_moves_here", "_law_row_here", "_law_state", "_law_move"] ["_law_moves_here", "_law_row_here", "_law_state"] (defScope s_law_gone) := ⟨rfl, rfl, rfl, by decide +kernel, rfl, by decide +kernel, by decide +kernel⟩
theorem ok_gone {f : Addr} {fd : FuncData} (F : Fun K "_law_gone" "_law_gone" s_law_gone f fd) : FnOk P w K mg base CX0 1 f fd ["_law_moves_here", "_law_row_here", "_law_state"] (spGone K) := by
  refine F.ok scGone (fun vs H Q E h => ?_) (fun cdv A' outer s H vs Q E hr h => ?_)
  · obtain ⟨a, b, ms, row, many, s, rfl, _⟩ := h
    rfl
  · obtain ⟨a, b, ms, row, many, s, rfl, ⟨vs, hV, hM⟩, hR, ok, hr0, s0, s1, k⟩ := h
    refine ⟨_, pss_cons (ps_for PassesOwn.never rfl (pi_tup (pv 1)) (pg_name (i := 3) scGone.nd rfl (Or.inl rfl))
      (pss_one (ps_set (i := 2) scGone.nd rfl (Or.inl rfl) (pe_ix ix_tup (pe_ix ix_tup (pe_ix ix_tup (pv 0) (pv 3) (fun _ _ => rfl)) pe_int (fun _ _ => rfl)) (pv 2) (fun _ _ => rfl))))) (pss_one (ps_ret (pv 2))), ?_⟩
    refine ⟨_, rfl, b, rfl, ⟨_, hR⟩, for_tup (K := K) (a := b) (xs := row.map V.int) (fun i σ H' => H' = H ∧ ∃ u : Option V, σ = [some (.ref a), some (.ref b), some (.int (goneF ms (row.take i) s)), u]) ⟨rfl, none, rfl⟩ (fun i σ H' _ h => by rw [h.1]; exact hR) ?_ ?_⟩
    · rintro i x σ H' hi ⟨rfl, u, rfl⟩
      rw [List.getElem?_map] at hi
      obtain ⟨r, hri, rfl⟩ := Option.map_eq_some_iff.mp hi
      have rb := hr0 r (List.mem_of_getElem? hri)
      have sb := gone_in ok (row.take i) s (fun x hx => hr0 x (List.mem_of_mem_take hx)) ⟨s0, s1⟩
      obtain ⟨m, aa, sa, la, h1, h2, h3, h4, h5⟩ := mv_ix hM rb
      obtain ⟨m', e1, e2, _⟩ := lead_at ok rb sb
      rw [h2] at e1
      cases e1
      refine ⟨_, rfl, _, rfl, a, _, _, _, rfl, rfl, hV, h1, aa, _, _, _, rfl, rfl, h3, ats1 _ _, _, rfl, la, _, _, _, rfl, rfl, h5, ints_ix sb.1 e2, ?_⟩
      refine ⟨rfl, some (.int r), ?_⟩
      rw [List.take_add_one, hri]
      show _ = [some (V.ref a), some (V.ref b), some (V.int (goneF ms (row.take i ++ [r]) s)), some (V.int r)]
      rw [gone_snoc]
      rfl
    · rintro σ H' ⟨rfl, u, rfl⟩
      refine ⟨_, rfl, ?_⟩
      rw [List.length_map, List.take_length]
      exact k
def spRow (K : PySem.W.Frag) : Sp := fun vs H Q _ => ∃ (p a : Addr) (ms : List Mv), vs = [.ref p, .ref a] ∧ HandAt H p ∧ MvsAt K H a ms ∧ 1 ≤ ms.length ∧ ms.length ≤ 24 ∧
  ∀ (l : Addr) (H' : Hp) (row : List Int), Stp p H H' → TupZ H' l (row.map V.int) → RowOk ms.length row → Q (.ref l) H'
abbrev nRow : List Str := ["_law_hand_here", "_law_moves_here", "_law_size_here", "_law_kind", "_law_k"]
theorem scRow : FnScope nRow ["_law_hand_here", "_law_moves_here"] (defScope s_law_row) := ⟨rfl, rfl, rfl, by decide +kernel, rfl, by decide +kernel, by decide +kernel⟩
theorem ok_row {f fD fA : Addr} {fd fdD fdA : FuncData} (F : Fun K "_law_row" "_law_row" s_law_row f fd) (T : Nm3 mg) (D : Cl P w K mg base CX0 1 "_law_draw" fD fdD ["_law_hand_here", "_law_many"] spDraw)
    (A : Cl P w K mg base CX0 2 "_law_any" fA fdA ["_law_hand_here", "_law_things"] (spAny K)) : FnOk P w K mg base CX0 3 f fd ["_law_hand_here", "_law_moves_here"] (spRow K) := by
  refine F.ok scRow (fun vs H Q E h => ?_) (fun cdv A' outer s H vs Q E hr h => ?_)
  · obtain ⟨p, a, ms, rfl, _⟩ := h
    rfl
  · obtain ⟨p, a, ms, rfl, hH, hA, m1, m24, k⟩ := h
    have hr1 := hr.mono (show 1 ≤ 2 by decide)
    refine ⟨_, pss_cons (ps_set (i := 2) scRow.nd rfl (Or.inl rfl) (A.call hr (pa_cons (pv 0) (pa_cons (pe_lst (pa_cons pe_int (pa_cons pe_int (pa_cons pe_int (pa_cons pe_int (pa_cons pe_int (pa_cons pe_int (pa_cons (D.call hr1 (pa_cons (pv 0) (pa_cons pe_int pa_nil)))
        (pa_cons (pe_ifExp (pt_cmpR op_eq (D.call hr1 (pa_cons (pv 0) (pa_cons pe_int pa_nil))) pe_int (nomark _)) pe_int pe_int) pa_nil))))))))) pa_nil))))
      (pss_cons (ps_set (i := 3) scRow.nd rfl (Or.inl rfl) (D.call hr1 (pa_cons (pv 0) (pa_cons pe_int pa_nil))))
      (pss_cons (ps_if (pt_cmpR op_eq (pv 3) pe_int (nomark _)) (pss_one (ps_ret (pe_op op_repZ (pe_tupZ (pa_cons (D.call hr1 (pa_cons (pv 0) (pa_cons (pe_callB call_len_seq (by rfl) T.len PySem.boot_len (pa_cons (pv 1) pa_nil)) pa_nil))) pa_nil)) (pv 2)))) pss_nil)
      (pss_cons (ps_if (pt_cmpR op_eq (pv 3) pe_int (nomark _)) (pss_one (ps_ret (pe_callTy call_tuple_ofZ (by rfl) T.tuple (by decide +kernel) (pa_cons (pe_lc (own := [("_law_k", 4)]) (g := gName 4) (tt := tYes) rfl scRow.nd (pi_range1 (by rfl) T.range (pa_cons (pv 2) pa_nil))
          (blkOk_by (own := [("_law_k", 4)]) (N := nRow) (sc := defScope s_law_row) (by decide +kernel)) (fun _ _ _ _ _ => pg_name (i := 4) scRow.nd rfl (Or.inl rfl)) (fun _ _ _ _ _ => pts_nil)
          (fun _ _ _ _ _ => pe_op op_mod (pe_callTy (r := fun xs H Q => (∃ i, xs = [.int i] ∧ Q (.int i) H) ∨ ∃ k, xs = [.bl k] ∧ Q (.int (if k then 1 else 0)) H) call_int1 (by rfl) T.int (by decide +kernel) (pa_cons (pv 4) pa_nil))
            (pe_callB (r := rLenK K) (show CallR _ (.builtin "len") (rLenK K) from call_len_seq) (by rfl) T.len PySem.boot_len (pa_cons (pv 1) pa_nil)))) pa_nil)))) pss_nil)
      (pss_one (ps_ret (pe_callTy call_tuple_ofZ (by rfl) T.tuple (by decide +kernel) (pa_cons (pe_lc (own := [("_law_k", 4)]) (g := gName 4) (tt := tYes) rfl scRow.nd (pi_range1 (by rfl) T.range (pa_cons (pv 2) pa_nil))
          (blkOk_by (own := [("_law_k", 4)]) (N := nRow) (sc := defScope s_law_row) (by decide +kernel)) (fun _ _ _ _ _ => pg_name (i := 4) scRow.nd rfl (Or.inl rfl)) (fun _ _ _ _ _ => pts_nil)
          (fun _ _ _ _ _ => D.call hr1 (pa_cons (pv 0) (pa_cons (pe_callB (r := rLenK K) (show CallR _ (.builtin "len") (rLenK K) from call_len_seq) (by rfl) T.len PySem.boot_len (pa_cons (pv 1) pa_nil)) pa_nil)))) pa_nil))))))), ?_⟩
    obtain ⟨vs, hV, hM⟩ := id hA
    have hvl : vs.length = ms.length := hM.1
    have done : ∀ (n : Nat) (D : Addr) (H1 H' : Hp), n ≤ 400 → Stp p H H1 → Grow p D H1 (ms.length : Nat) n H' → ∃ q ys, [V.ref D] = [.ref q] ∧ SqL K H' q ys ∧ ∀ l H2, H' l = none → Same H' H2 → TupZ H2 l ys → (∀ b, b ≠ l → H2 b = H' b) → Q (.ref l) H2 := by
      rintro n D H1 H' hn S ⟨S1, ws, h1, h2, h3⟩
      exact ⟨D, _, rfl, SqL.of h1, fun l H2 _ s2 hz _ => k l H2 ws ((S.trans S1).post s2) hz ⟨by omega, h3⟩⟩
    -- the size
    refine ⟨_, rfl, _, rfl, p, 40, rfl, by decide, by decide, hH, fun d1 H1 e0 e1 S1 => ?_⟩
    refine ⟨_, rfl, p, 6, rfl, by decide, by decide, S1.hand, fun d2 H2 f0 f1 S2 => ?_⟩
    refine ⟨rfl, _, rfl, ite2 (fun _ => ?_) (fun _ => ?_)⟩
    all_goals
      refine ⟨by show 8 ≤ sizeLine; decide, fun q hq => ?_⟩
      refine ⟨p, q, _, rfl, .inl (SqL.of upd_same), by show 0 < 8; decide, by show 8 < _; decide, S2.hand.same (Same.new hq), fun j x H3 hj S3 => ?_⟩
      have S := (S1.trans S2).trans (S3.pre (Same.new hq))
      have ex : ∃ n : Nat, x = .int (n : Int) ∧ n ≤ 400 := by
        have hx := List.mem_of_getElem? hj
        simp only [List.mem_cons, List.not_mem_nil, or_false] at hx
        rcases hx with rfl | rfl | rfl | rfl | rfl | rfl | rfl | rfl
        · exact ⟨0, rfl, by decide⟩
        · exact ⟨1, rfl, by decide⟩
        · exact ⟨2, rfl, by decide⟩
        · exact ⟨3, rfl, by decide⟩
        · exact ⟨5, rfl, by decide⟩
        · exact ⟨9, rfl, by decide⟩
        · exact ⟨d1.toNat, by rw [Int.toNat_of_nonneg e0], by omega⟩
        · first
            | exact ⟨400, rfl, by decide⟩
            | exact ⟨7, rfl, by decide⟩
      obtain ⟨n, rfl, hn⟩ := ex
      clear hj hq
      have np : (0 : Int) < (vs.length : Nat) := by omega
      refine ⟨_, rfl, p, 6, rfl, by decide, by decide, S.hand, fun d3 H4 g0 g1 S4 => ?_⟩
      have S' := S.trans S4
      have hV4 := S'.sqT hH hV
      refine ⟨_, rfl, rfl, _, rfl, ite2 (fun _ => ?_) (fun _ => ?_)⟩
      · refine ⟨_, rfl, _, rfl, a, _, rfl, .inr hV4, p, _, rfl, np, by omega, S'.hand, fun d4 H5 h0 h1 S5 => ⟨by show 1 ≤ sizeLine; decide, fun l H6 _ s6 hz _ => ?_⟩⟩
        refine ⟨_, rfl, l, (n : Int), V.int d4, rfl, rfl, hz, by omega, by omega, fun l2 H7 s7 hz2 _ => ?_⟩
        refine k l2 H7 (List.replicate n d4) (((S'.trans S5).post s6).post s7) ?_ ⟨by rw [List.length_replicate]; exact hn, fun r hr => ?_⟩
        · rw [List.map_replicate]
          exact hz2
        · rw [List.eq_of_mem_replicate hr]
          omega
      refine ⟨_, rfl, rfl, _, rfl, ite2 (fun _ => ?_) (fun _ => ?_)⟩
      · refine ⟨_, rfl, (n : Int), rfl, by omega, by omega, fun E hE => ?_⟩
        refine lc_range (lo := 0) (n := n) (Grow p E H4 (ms.length : Nat)) (Grow.zero S'.hand hE) (fun i H' hi g => ?_) fun H' g => done n E H4 H' hn S' g
        refine ⟨rfl, _, rfl, .inl ⟨_, rfl, _, rfl, a, _, rfl, .inr (g.1.sqT S'.hand hV4), _, _, rfl, rfl, np, ?_⟩⟩
        exact g.put S'.hand hE (Stp.refl g.1.hand) (by omega) (Int.emod_nonneg _ (by omega)) (by rw [← hvl]; exact Int.emod_lt_of_pos _ np)
      · refine ⟨_, rfl, (n : Int), rfl, by omega, by omega, fun E hE => ?_⟩
        refine lc_range (lo := 0) (n := n) (Grow p E H4 (ms.length : Nat)) (Grow.zero S'.hand hE) (fun i H' hi g => ?_) fun H' g => done n E H4 H' hn S' g
        exact ⟨rfl, _, rfl, _, rfl, a, _, rfl, .inr (g.1.sqT S'.hand hV4), p, _, rfl, np, by omega, g.1.hand, fun d5 H6 h0 h1 S6 => g.put S'.hand hE S6 (by omega) h0 (by omega)⟩
end
end Law
namespace Law
open PySem L2
section
variable {P : Program} {w : World} {K : PySem.W.Frag} {mg : Str → Option Value} {base : Heap}
def spShareL (K : PySem.W.Frag) : Sp := fun vs H Q _ => ∃ (a b : Addr) (ms : List Mv) (row : List Int) (many : Nat), vs = [.ref a, .ref b] ∧ MvsAt K H a ms ∧ TupZ H b (row.map V.int) ∧ MvsOk many ms ∧ RowOk ms.length row ∧
  ∀ p H', H p = none → Same H H' → H' p = some (.tup [.int (shareF ms row).1, .int (shareF ms row).2]) → Q (.ref p) H'
theorem scShareL : FnScope ["_law_moves_here", "_law_row_here", "_law_top", "_law_bottom", "_law_number", "_law_turn"] ["_law_moves_here", "_law_row_here"] (defScope s_law_share) := ⟨rfl, rfl, rfl, by decide +kernel, rfl, by decide +kernel, by decide +kernel⟩
theorem part_step (c f t : Nat) : ((c * f ^ t : Nat) : Int) * ((f : Nat) : Int) = ((c * f ^ (t + 1) : Nat) : Int) := by
  rw [Nat.pow_succ, ← Nat.mul_assoc, Int.natCast_mul (c * f ^ t) f]
theorem ok_shareL {f fL : Addr} {fd fdL : FuncData} (F : Fun K "_law_share" "_law_share" s_law_share f fd) (T : Nm3 mg) (L : Cl P w K mg base CX0 34 "_law_low" fL fdL ["_law_top", "_law_bottom"] spLow) : FnOk P w K mg base CX0 35 f fd ["_law_moves_here", "_law_row_here"] (spShareL K) := by
  refine F.ok scShareL (fun vs H Q E h => ?_) (fun cdv A' outer s H vs Q E hr h => ?_)
  · obtain ⟨a, b, ms, row, many, rfl, _⟩ := h
    rfl
  · obtain ⟨a, b, ms, row, many, rfl, ⟨vs, hV, hM⟩, hR, ok, ⟨rl, rb⟩, k⟩ := h
    have hvl : vs.length = ms.length := hM.1
    have ht := top_ok ok
    have hb := bot_ok ok
    refine ⟨_, pss_cons (ps_asg (pe_tup (pa_cons pe_int (pa_cons pe_int pa_nil))) (pg_tup (by rfl) (pgs_cons (pg_name (i := 2) scShareL.nd rfl (Or.inl rfl)) (pgs_cons (pg_name (i := 3) scShareL.nd rfl (Or.inl rfl)) pgs_nil))))
      (pss_cons (ps_for PassesOwn.never rfl (pi_range1 (by rfl) T.range (pa_cons (pe_callB call_len_seq (by rfl) T.len PySem.boot_len (pa_cons (pv 0) pa_nil)) pa_nil)) (pg_name (i := 4) scShareL.nd rfl (Or.inl rfl))
        (pss_one (ps_for PassesOwn.never rfl (pi_range1 (by rfl) T.range (pa_cons (pe_bmZ PySem.F.slot_tuple_count PySem.F.type_tuple_count mt_tcount (pv 1) (pa_cons (pv 4) pa_nil)) pa_nil)) (pg_name (i := 5) scShareL.nd rfl (Or.inl rfl))
          (pss_one (ps_par (i := 2) (j := 3) (by rfl) scShareL.nd rfl rfl (by decide) rfl rfl
            (pa_cons (pe_op op_mulW (pv 2) (pe_ix ix_tup (pe_ix ix_tup (pe_ix ix_tup (pv 0) (pv 4) (fun _ _ => rfl)) pe_int (fun _ _ => rfl)) pe_int (fun _ _ => rfl)))
            (pa_cons (pe_op op_mulW (pv 3) (pe_ix ix_tup (pe_ix ix_tup (pe_ix ix_tup (pv 0) (pv 4) (fun _ _ => rfl)) pe_int (fun _ _ => rfl)) pe_int (fun _ _ => rfl))) pa_nil)) (by rfl))))))
      (pss_one (ps_ret (L.call hr (pa_cons (pv 2) (pa_cons (pv 3) pa_nil)))))), ?_⟩
    refine ⟨by show 2 ≤ sizeLine; decide, fun q hq => ?_⟩
    have s0 : Same H (upd H q (.tup [.int 1, .int 1])) := Same.new hq
    refine ⟨q, _, rfl, SqT.of upd_same, rfl, _, _, rfl, _, _, rfl, rfl, ?_⟩
    have k : ∀ p, (upd H q (.tup [.int 1, .int 1])) p = none → Q (.ref p) (upd (upd H q (.tup [.int 1, .int 1])) p (.tup [.int (shareF ms row).1, .int (shareF ms row).2])) := fun p hp => k p _ (s0.free hp) (fun b o e => Same.new hp b o (s0 b o e)) upd_same
    have hV := s0.sqT hV
    have hM := hM.same s0
    have hR := s0.tupZ hR
    clear s0
    generalize upd H q (.tup [.int 1, .int 1]) = H at k hV hM hR ⊢
    refine ⟨_, rfl, a, _, rfl, .inr hV, (vs.length : Nat), rfl, by have := ok.ok.l2; omega, by have := ok.ok.l2; omega, ?_⟩
    refine for_range (lo := 0) (n := vs.length) (fun i σ H' => H' = H ∧ ∃ u v : Option V, σ = [some (.ref a), some (.ref b), some (.int (cpr (topAt ms) row i : Nat)), some (.int (cpr (botAt ms) row i : Nat)), u, v]) ⟨rfl, none, none, rfl⟩ ?_ ?_
    · rintro i σ H' hi ⟨rfl, u, v, rfl⟩
      rw [Int.zero_add]
      have hi' : i < ms.length := by omega
      obtain ⟨m, aa, sa, la, h1, h2, h3, h4, h5⟩ := mv_ix (r := (i : Int)) hM (by omega)
      rw [Int.toNat_natCast] at h2
      obtain ⟨t1, t2⟩ := top_at ok h2
      rw [t1, t2] at h4
      refine ⟨_, rfl, ⟨b, _, rfl, hR⟩, _, rfl, b, row, (i : Int), rfl, rfl, hR.sq, (row.count (i : Int) : Nat), rfl, ?_, ?_, ?_⟩
      · have z : row.count (i : Int) ≤ row.length := List.count_le_length
        omega
      · have z : row.count (i : Int) ≤ row.length := List.count_le_length
        omega
      · refine for_range (lo := 0) (n := row.count (i : Int)) (fun t σ H1 => H1 = H' ∧ ∃ v : Option V, σ = [some (.ref a), some (.ref b), some (.int (cpr (topAt ms) row i * topAt ms i ^ t : Nat)), some (.int (cpr (botAt ms) row i * botAt ms i ^ t : Nat)), some (.int (i : Int)), v]) ⟨rfl, v, ?_⟩ ?_ ?_
        · rw [Nat.pow_zero, Nat.pow_zero, Nat.mul_one, Nat.mul_one] <;> rfl
        · rintro t σ H1 htl ⟨rfl, v, rfl⟩
          have c1 := cpr_part ht rb rl hi' (Nat.le_of_lt htl)
          have c2 := cpr_part hb rb rl hi' (Nat.le_of_lt htl)
          refine ⟨_, rfl, _, rfl, _, rfl, a, _, _, _, rfl, rfl, hV, h1, aa, _, _, _, rfl, rfl, h3, ats0 _ _, sa, _, _, _, rfl, rfl, h4, ats0 _ _, _, _, rfl, rfl, wide_mul (a := 17000) (b := 40) (by rw [Int.natAbs_natCast]; exact c1) (by rw [Int.natAbs_natCast]; exact (ht i).2) (by decide) (by decide) (by decide), ?_⟩
          refine ⟨_, rfl, _, rfl, _, rfl, a, _, _, _, rfl, rfl, hV, h1, aa, _, _, _, rfl, rfl, h3, ats0 _ _, sa, _, _, _, rfl, rfl, h4, ats1 _ _, _, _, rfl, rfl, wide_mul (a := 17000) (b := 40) (by rw [Int.natAbs_natCast]; exact c2) (by rw [Int.natAbs_natCast]; exact (hb i).2) (by decide) (by decide) (by decide), ?_⟩
          refine ⟨_, _, rfl, rfl, some (.int (0 + (t : Int))), ?_⟩
          dsimp only
          rw [part_step, part_step]
          rfl
        · rintro σ H1 ⟨rfl, v, rfl⟩
          exact ⟨rfl, _, v, rfl⟩
    · rintro σ H' ⟨rfl, u, v, rfl⟩
      have p1 := cpr_pos ht row vs.length
      have p2 := cpr_pos hb row vs.length
      refine ⟨_, rfl, _, rfl, _, _, rfl, by omega, by omega, fun p hp => ?_⟩
      rw [hvl, cpr_row rb, cpr_row rb]
      exact k p hp
end
end Law
namespace Law
open PySem L2
/-! ### the program: rows, states led -/
section
variable {P : Program} {w : World} {K : PySem.W.Frag} {mg : Str → Option Value} {base : Heap}
def spIsRow (K : PySem.W.Frag) (C : Addr) : Sp := fun vs H Q _ => ∃ (p b : Addr) (many : Nat) (ms : List Mv) (row : List Int), vs = [.ref p, .ref b] ∧ SysAt K C H p many ms ∧ SqT K H b (row.map V.int) ∧ RowOk ms.length row ∧ ∀ H', Same H H' → Q (.bl true) H'
theorem scIsRow : FnScope ["system", "thing"] ["system", "thing"] (defScope s_is_row) := ⟨rfl, rfl, rfl, by decide +kernel, rfl, by decide +kernel, by decide +kernel⟩
theorem ok_isrow {f C fR : Addr} {fd fdR : FuncData} (F : Fun K "is_row" "is_row" s_is_row f fd) (T : Nm3 mg) (S : SysT K mg C) (R : Cl P w K mg base CX0 3 "is_row_below" fR fdR ["bound", "thing"] (spRowB K)) : FnOk P w K mg base CX0 4 f fd ["system", "thing"] (spIsRow K C) := by
  refine F.ok scIsRow (fun vs H Q E h => ?_) (fun cdv A' outer s H vs Q E hr h => ?_)
  · obtain ⟨p, b, many, ms, row, rfl, _⟩ := h
    rfl
  · obtain ⟨p, b, many, ms, row, rfl, ⟨dx, mv, hp, vs, hV, hM⟩, hR, ⟨rl, rb⟩, k⟩ := h
    have hvl : vs.length = ms.length := hM.1
    refine ⟨_, pss_one (ps_ret (pe_and (R.call hr (pa_cons (pe_callB call_len_seq (by rfl) T.len PySem.boot_len (pa_cons (pe_fld (pv 0) rfl) pa_nil)) (pa_cons (pv 1) pa_nil)))
      (pe_one (pe_cmpR op_le (pe_callB call_len_seq (by rfl) T.len PySem.boot_len (pa_cons (pv 1) pa_nil)) pe_int (nomark _))))), ?_⟩
    refine ⟨_, rfl, p, C, dx, _, _, rfl, hp, S.cl, S.nM, sysF_moves _ _, mv, _, rfl, .inr hV, _, rfl, ((vs.length : Nat) : Int), b, _, rfl, hR, by rw [List.length_map]; omega, fun x hx => ?_, fun H1 s1 => ?_⟩
    · obtain ⟨i, _, rfl⟩ := List.mem_map.mp hx
      exact ⟨i, rfl⟩
    · have hall : (row.map V.int).all (isW 0 (((vs.length : Nat) : Int) - 1)) = true := by
        rw [List.all_eq_true]
        intro x hx
        obtain ⟨i, hi, rfl⟩ := List.mem_map.mp hx
        obtain ⟨g1, g2⟩ := rb i hi
        show (decide (0 ≤ i) && decide (i ≤ ((vs.length : Nat) : Int) - 1)) = true
        rw [decide_eq_true g1, decide_eq_true (show i ≤ ((vs.length : Nat) : Int) - 1 by omega)] <;> rfl
      rw [hall]
      refine ⟨_, rfl, iteT ⟨_, rfl, b, _, rfl, .inr (s1.sqT hR), _, _, rfl, rfl, ?_⟩⟩
      rw [List.length_map]
      show Q (.bl (decide (((row.length : Nat) : Int) ≤ 400))) H1
      rw [decide_eq_true (show ((row.length : Nat) : Int) ≤ 400 by omega)]
      exact k H1 s1
def spLed (K : PySem.W.Frag) (C : Addr) : Sp := fun vs H Q _ => ∃ (p b : Addr) (many : Nat) (ms : List Mv) (row : List Int) (s : Int), vs = [.ref p, .ref b, .int s] ∧ SysAt K C H p many ms ∧ SqT K H b (row.map V.int) ∧ SysOk many ms ∧ RowOk ms.length row ∧ 0 ≤ s ∧ s < (many : Int) ∧
  ∀ H', Same H H' → Q (.int (goneF ms row s)) H'
theorem scLed : FnScope ["system", "row", "state", "number", "_", "leads"] ["system", "row", "state"] (defScope s_led) := ⟨rfl, rfl, rfl, by decide +kernel, rfl, by decide +kernel, by decide +kernel⟩
theorem ok_led {f C fR fW : Addr} {fd fdR fdW : FuncData} (F : Fun K "led" "led" s_led f fd) (S : SysT K mg C) (R : Cl P w K mg base CX0 4 "is_row" fR fdR ["system", "thing"] (spIsRow K C)) (W : Cl P w K mg base CX0 2 "is_within" fW fdW ["low", "high", "thing"] (spWithin K)) : FnOk P w K mg base CX0 5 f fd ["system", "row", "state"] (spLed K C) := by
  refine F.ok scLed (fun vs H Q E h => ?_) (fun cdv A' outer s H vs Q E hr h => ?_)
  · obtain ⟨p, b, many, ms, row, z, rfl, _⟩ := h
    rfl
  · obtain ⟨p, b, many, ms, row, z, rfl, hS, hR, ok, rok, z0, z1, k⟩ := h
    refine ⟨_, pss_cons (ps_if (pt_not (pt_val (R.call hr (pa_cons (pv 0) (pa_cons (pv 1) pa_nil))))) pss_never pss_nil)
      (pss_cons (ps_if (pt_not (pt_val (W.call (hr.mono (by decide)) (pa_cons pe_int (pa_cons (pe_op op_sub (pe_fld (pv 0) rfl) pe_int) (pa_cons (pv 2) pa_nil)))))) pss_never pss_nil)
      (pss_cons (ps_for PassesOwn.never rfl (pi_tup (pv 1)) (pg_name (i := 3) scLed.nd rfl (Or.inl rfl))
        (pss_cons (ps_asg (pe_ix ix_tup (pe_fld (pv 0) rfl) (pv 3) (fun _ _ => rfl)) (pg_tup (by rfl) (pgs_cons (pg_name (i := 4) scLed.nd rfl (Or.inl rfl)) (pgs_cons (pg_name (i := 5) scLed.nd rfl (Or.inl rfl)) pgs_nil))))
        (pss_one (ps_set (i := 2) scLed.nd rfl (Or.inl rfl) (pe_ix ix_tup (pv 5) (pv 2) (fun _ _ => rfl))))))
      (pss_one (ps_ret (pv 2))))), ?_⟩
    refine ⟨_, rfl, _, rfl, p, b, many, ms, row, rfl, hS, hR, rok, fun H1 s1 => ⟨_, rfl, iteF ?_⟩⟩
    have hS1 := hS.same s1
    obtain ⟨dx, mv, hp, vs, hV, hM⟩ := id hS1
    refine ⟨_, rfl, p, C, dx, _, _, rfl, hp, S.cl, S.nK, sysF_many _ _, _, _, rfl, rfl, _, rfl, 0, (many : Int) - 1, _, rfl, .inl ⟨z, rfl, _, rfl, ?_⟩⟩
    rw [decide_eq_true z0, decide_eq_true (show z ≤ (many : Int) - 1 by omega)]
    refine iteF ⟨_, rfl, b, rfl, ⟨_, s1.sqT hR⟩, for_tup (K := K) (a := b) (xs := row.map V.int) (fun i σ H' => H' = H1 ∧ ∃ u v x : Option V, σ = [some (.ref p), some (.ref b), some (.int (goneF ms (row.take i) z)), u, v, x]) ⟨rfl, none, none, none, rfl⟩ (fun i σ H' _ h => by rw [h.1]; exact s1.sqT hR) ?_ ?_⟩
    · rintro i x σ H' hi ⟨rfl, u, v, y, rfl⟩
      rw [List.getElem?_map] at hi
      obtain ⟨r, hri, rfl⟩ := Option.map_eq_some_iff.mp hi
      have rb := rok.2 r (List.mem_of_getElem? hri)
      have sb := gone_in ok.mv (row.take i) z (fun x hx => rok.2 x (List.mem_of_mem_take hx)) ⟨z0, z1⟩
      obtain ⟨m, aa, sa, la, h1, h2, h3, h4, h5⟩ := mv_ix hM rb
      obtain ⟨m', e1, e2, _⟩ := lead_at ok.mv rb sb
      rw [h2] at e1
      cases e1
      refine ⟨_, rfl, p, C, dx, _, _, rfl, hp, S.cl, S.nM, sysF_moves _ _, _, rfl, mv, _, _, _, rfl, rfl, hV, h1, aa, _, rfl, h3, rfl, _, _, rfl, _, _, rfl, rfl, ?_⟩
      refine ⟨_, rfl, _, rfl, la, _, _, _, rfl, rfl, h5, ints_ix sb.1 e2, ?_⟩
      refine ⟨rfl, some (.int r), some (.ref sa), some (.ref la), ?_⟩
      rw [List.take_add_one, hri]
      show _ = [some (V.ref p), some (V.ref b), some (V.int (goneF ms (row.take i ++ [r]) z)), some (V.int r), some (V.ref sa), some (V.ref la)]
      rw [gone_snoc]
      rfl
    · rintro σ H' ⟨rfl, u, v, y, rfl⟩
      refine ⟨_, rfl, ?_⟩
      rw [List.length_map, List.take_length]
      exact k H' s1
/-- where all states are led -/
def allF (ms : List Mv) (many : Nat) (row : List Int) : List Int := (List.range many).map fun s : Nat => goneF ms row (s : Int)
def spAll (K : PySem.W.Frag) (C : Addr) : Sp := fun vs H Q _ => ∃ (p b : Addr) (many : Nat) (ms : List Mv) (row : List Int), vs = [.ref p, .ref b] ∧ SysAt K C H p many ms ∧ SqT K H b (row.map V.int) ∧ SysOk many ms ∧ RowOk ms.length row ∧
  ∀ l H', Same H H' → H' l = some (.tup ((allF ms many row).map V.int)) → Q (.ref l) H'
theorem scAll : FnScope ["system", "row", "state"] ["system", "row"] (defScope s_led_all) := ⟨rfl, rfl, rfl, by decide +kernel, rfl, by decide +kernel, by decide +kernel⟩
theorem all_snoc (ms : List Mv) (row : List Int) (i : Nat) : allF ms (i + 1) row = allF ms i row ++ [goneF ms row (i : Int)] := by
  unfold allF
  rw [List.range_succ, List.map_append] <;> rfl
theorem ok_all {f C fR fL : Addr} {fd fdR fdL : FuncData} (F : Fun K "led_all" "led_all" s_led_all f fd) (T : Nm3 mg) (S : SysT K mg C) (R : Cl P w K mg base CX0 4 "is_row" fR fdR ["system", "thing"] (spIsRow K C)) (L : Cl P w K mg base CX0 5 "led" fL fdL ["system", "row", "state"] (spLed K C)) : FnOk P w K mg base CX0 6 f fd ["system", "row"] (spAll K C) := by
  refine F.ok scAll (fun vs H Q E h => ?_) (fun cdv A' outer s H vs Q E hr h => ?_)
  · obtain ⟨p, b, many, ms, row, rfl, _⟩ := h
    rfl
  · obtain ⟨p, b, many, ms, row, rfl, hS, hR, ok, rok, k⟩ := h
    refine ⟨_, pss_cons (ps_if (pt_not (pt_val (R.call (hr.mono (by decide)) (pa_cons (pv 0) (pa_cons (pv 1) pa_nil))))) pss_never pss_nil)
      (pss_one (ps_ret (pe_callTy call_tuple_of (by rfl) T.tuple (by decide +kernel) (pa_cons (pe_lc (own := [("state", 2)]) (g := gName 2) (tt := tYes) rfl scAll.nd (pi_range1 (by rfl) T.range (pa_cons (pe_fld (pv 0) rfl) pa_nil))
        (blkOk_by (own := [("state", 2)]) (N := ["system", "row", "state"]) (sc := defScope s_led_all) (by decide +kernel)) (fun _ _ _ _ _ => pg_name (i := 2) scAll.nd rfl (Or.inl rfl)) (fun _ _ _ _ _ => pts_nil)
        (fun _ _ _ _ _ => L.call hr (pa_cons (pv 0) (pa_cons (pv 1) (pa_cons (pv 2) pa_nil))))) pa_nil)))), ?_⟩
    refine ⟨_, rfl, _, rfl, p, b, many, ms, row, rfl, hS, hR, rok, fun H1 s1 => ⟨_, rfl, iteF ?_⟩⟩
    have hS1 := hS.same s1
    obtain ⟨dx, mv, hp, _⟩ := id hS1
    have m12 := ok.m2
    refine ⟨_, rfl, p, C, dx, _, _, rfl, hp, S.cl, S.nK, sysF_many _ _, (many : Int), rfl, by omega, by omega, fun D hD => ?_⟩
    refine lc_range (lo := 0) (n := many) (fun i H' => Same H1 H' ∧ H' D = some (.lst ((allF ms i row).map V.int))) ⟨Same.new hD, upd_same⟩ (fun i H' hi g => ?_) fun H' g => ?_
    · obtain ⟨t1, h1⟩ := g
      rw [Int.zero_add]
      refine ⟨rfl, _, rfl, _, rfl, _, rfl, p, b, many, ms, row, (i : Int), rfl, hS1.same t1, t1.sqT (s1.sqT hR), ok, rok, by omega, by omega, fun H2 t2 => ⟨_, t2 _ _ h1, ?_, (t1.trans t2).mut hD, ?_⟩⟩
      · unfold allF
        rw [List.length_map, List.length_map, List.length_range]
        exact small1000 (by omega)
      · rw [upd_same, all_snoc, List.map_append] <;> rfl
    · obtain ⟨t1, h1⟩ := g
      refine ⟨D, _, rfl, .inl ⟨SqL.of h1, fun l hl => ?_⟩⟩
      exact k l _ ((s1.trans t1).trans (Same.new hl)) upd_same
end
end Law
namespace Law
open PySem L2
section
variable {P : Program} {w : World} {K : PySem.W.Frag} {mg : Str → Option Value} {base : Heap}
def spLot (K : PySem.W.Frag) (C : Addr) : Sp := fun vs H Q _ => ∃ (p b : Addr) (many : Nat) (ms : List Mv) (row : List Int), vs = [.ref p, .ref b] ∧ SysAt K C H p many ms ∧ SqT K H b (row.map V.int) ∧ SysOk many ms ∧ RowOk ms.length row ∧
  ∀ l H' (ns : List Int), Same H H' → H' l = some (.tup (ns.map V.int)) → ns.Pairwise (· < ·) → (∀ k : Int, k ∈ ns ↔ k ∈ allF ms many row) → Q (.ref l) H'
theorem scLot : FnScope ["system", "row"] ["system", "row"] (defScope s_lot_behind) := ⟨rfl, rfl, rfl, by decide +kernel, rfl, by decide +kernel, by decide +kernel⟩
theorem ok_lot {f C fA : Addr} {fd fdA : FuncData} (F : Fun K "lot_behind" "lot_behind" s_lot_behind f fd) (T : Nm3 mg) (A : Cl P w K mg base CX0 6 "led_all" fA fdA ["system", "row"] (spAll K C)) : FnOk P w K mg base CX0 7 f fd ["system", "row"] (spLot K C) := by
  refine F.ok scLot (fun vs H Q E h => ?_) (fun cdv A' outer s H vs Q E hr h => ?_)
  · obtain ⟨p, b, many, ms, row, rfl, _⟩ := h
    rfl
  · obtain ⟨p, b, many, ms, row, rfl, hS, hR, ok, rok, k⟩ := h
    refine ⟨_, pss_one (ps_ret (pe_callTy call_tuple_of (by rfl) T.tuple (by decide +kernel) (pa_cons (pe_callB (cr_sortedSet (by rfl)) (by rfl) T.sorted (by decide +kernel) (pa_cons (pe_callTy (cr_setI (by rfl)) (by rfl) T.set (by decide +kernel) (pa_cons (A.call hr (pa_cons (pv 0) (pa_cons (pv 1) pa_nil))) pa_nil)) pa_nil)) pa_nil))), ?_⟩
    have m12 := ok.m2
    refine ⟨_, rfl, _, rfl, p, b, many, ms, row, rfl, hS, hR, ok, rok, fun l1 H1 s1 h1 => ?_⟩
    have hz : (allF ms many row).length = many := by
      unfold allF
      rw [List.length_map, List.length_range]
    refine ⟨l1, _, rfl, SqT.of h1, by omega, fun q c hq hc => ?_⟩
    refine ⟨q, _, c, rfl, upd_same, by omega, fun ns r p1 p2 p3 hr' => ?_⟩
    refine ⟨r, _, rfl, .inl ⟨SqL.of upd_same, fun l hl => ?_⟩⟩
    exact k l _ ns (((s1.trans (Same.new hq)).trans (Same.new hr')).trans (Same.new hl)) upd_same p1 fun z => by rw [p2 z, decide_eq_true_iff]
def spShareOf (K : PySem.W.Frag) (C : Addr) : Sp := fun vs H Q _ => ∃ (p b : Addr) (many : Nat) (ms : List Mv) (row : List Int), vs = [.ref p, .ref b] ∧ SysAt K C H p many ms ∧ SqT K H b (row.map V.int) ∧ MvsOk many ms ∧ RowOk ms.length row ∧
  ∀ l H', Same H H' → H' l = some (.tup [.int (shareF ms row).1, .int (shareF ms row).2]) → Q (.ref l) H'
theorem scShareOf : FnScope ["system", "row", "top", "bottom", "number", "above", "below", "_"] ["system", "row"] (defScope s_share_of) := ⟨rfl, rfl, rfl, by decide +kernel, rfl, by decide +kernel, by decide +kernel⟩
theorem ok_shareof {f C fR fF : Addr} {fd fdR fdF : FuncData} (F : Fun K "share_of" "share_of" s_share_of f fd) (S : SysT K mg C) (R : Cl P w K mg base CX0 4 "is_row" fR fdR ["system", "thing"] (spIsRow K C)) (G : Cl P w K mg base CX0 34 "fraction" fF fdF ["top", "bottom"] spLow) : FnOk P w K mg base CX0 35 f fd ["system", "row"] (spShareOf K C) := by
  refine F.ok scShareOf (fun vs H Q E h => ?_) (fun cdv A' outer s H vs Q E hr h => ?_)
  · obtain ⟨p, b, many, ms, row, rfl, _⟩ := h
    rfl
  · obtain ⟨p, b, many, ms, row, rfl, hS, hR, ok, rok, k⟩ := h
    have ht := top_ok ok
    have hb := bot_ok ok
    refine ⟨_, pss_cons (ps_if (pt_not (pt_val (R.call (hr.mono (by decide)) (pa_cons (pv 0) (pa_cons (pv 1) pa_nil))))) pss_never pss_nil)
      (pss_cons (ps_set (i := 2) scShareOf.nd rfl (Or.inl rfl) pe_int) (pss_cons (ps_set (i := 3) scShareOf.nd rfl (Or.inl rfl) pe_int)
      (pss_cons (ps_for PassesOwn.never rfl (pi_tup (pv 1)) (pg_name (i := 4) scShareOf.nd rfl (Or.inl rfl))
        (pss_cons (ps_asg (pe_ix ix_tup (pe_fld (pv 0) rfl) (pv 4) (fun _ _ => rfl)) (pg_tup (by rfl) (pgs_cons (pg_tup (by rfl) (pgs_cons (pg_name (i := 5) scShareOf.nd rfl (Or.inl rfl)) (pgs_cons (pg_name (i := 6) scShareOf.nd rfl (Or.inl rfl)) pgs_nil))) (pgs_cons (pg_name (i := 7) scShareOf.nd rfl (Or.inl rfl)) pgs_nil))))
        (pss_cons (ps_set (i := 2) scShareOf.nd rfl (Or.inl rfl) (pe_op op_mulW (pv 2) (pv 5))) (pss_one (ps_set (i := 3) scShareOf.nd rfl (Or.inl rfl) (pe_op op_mulW (pv 3) (pv 6)))))))
      (pss_one (ps_ret (G.call hr (pa_cons (pv 2) (pa_cons (pv 3) pa_nil)))))))), ?_⟩
    refine ⟨_, rfl, _, rfl, p, b, many, ms, row, rfl, hS, hR, rok, fun H1 s1 => ⟨_, rfl, iteF ?_⟩⟩
    have hS1 := hS.same s1
    obtain ⟨dx, mv, hp, vs, hV, hM⟩ := id hS1
    refine ⟨_, rfl, b, rfl, ⟨_, s1.sqT hR⟩, for_tup (K := K) (a := b) (xs := row.map V.int) (fun i σ H' => H' = H1 ∧ ∃ u v x y : Option V, σ = [some (.ref p), some (.ref b), some (.int (rpr (topAt ms) (row.take i) : Nat)), some (.int (rpr (botAt ms) (row.take i) : Nat)), u, v, x, y]) ⟨rfl, none, none, none, none, rfl⟩ (fun i σ H' _ h => by rw [h.1]; exact s1.sqT hR) ?_ ?_⟩
    · rintro i x σ H' hi ⟨rfl, u, v, y, z, rfl⟩
      rw [List.getElem?_map] at hi
      obtain ⟨r, hri, rfl⟩ := Option.map_eq_some_iff.mp hi
      have rb := rok.2 r (List.mem_of_getElem? hri)
      obtain ⟨m, aa, sa, la, h1, h2, h3, h4, h5⟩ := mv_ix hM rb
      obtain ⟨t1, t2⟩ := top_at ok h2
      rw [t1, t2] at h4
      have l1 : (row.take i).length ≤ 400 := by
        have := rok.1
        rw [List.length_take]
        omega
      refine ⟨_, rfl, p, C, dx, _, _, rfl, hp, S.cl, S.nM, sysF_moves _ _, _, rfl, mv, _, _, _, rfl, rfl, hV, h1, aa, _, rfl, h3, rfl, _, _, rfl, sa, _, rfl, h4, rfl, _, _, rfl, _, _, rfl, rfl, _, _, rfl, rfl, ?_⟩
      refine ⟨_, rfl, _, rfl, _, _, rfl, rfl, wide_mul (a := 17000) (b := 40) (by rw [Int.natAbs_natCast]; exact rpr_lt ht l1) (by rw [Int.natAbs_natCast]; exact (ht _).2) (by decide) (by decide) (by decide), ?_⟩
      refine ⟨_, rfl, _, rfl, _, _, rfl, rfl, wide_mul (a := 17000) (b := 40) (by rw [Int.natAbs_natCast]; exact rpr_lt hb l1) (by rw [Int.natAbs_natCast]; exact (hb _).2) (by decide) (by decide) (by decide), ?_⟩
      refine ⟨rfl, some (.int r), some (.int (topAt ms r.toNat : Nat)), some (.int (botAt ms r.toNat : Nat)), some (.ref la), ?_⟩
      rw [List.take_add_one, hri]
      show _ = [some (V.ref p), some (V.ref b), some (V.int ((rpr (topAt ms) (row.take i ++ [r]) : Nat) : Int)), some (V.int ((rpr (botAt ms) (row.take i ++ [r]) : Nat) : Int)), _, _, _, _]
      rw [rpr_snoc, rpr_snoc, Int.natCast_mul, Int.natCast_mul]
      rfl
    · rintro σ H' ⟨rfl, u, v, y, z, rfl⟩
      have p1 := rpr_pos ht row
      have p2 := rpr_pos hb row
      rw [List.length_map, List.take_length]
      refine ⟨_, rfl, _, rfl, _, _, rfl, by omega, by omega, fun l hl => ?_⟩
      exact k l _ (s1.trans (Same.new hl)) upd_same
end
end Law
namespace Law
open PySem L2
/-! ### a System's own ==, with another one, with a tuple -/
def rOwE (K : PySem.W.Frag) (C : Addr) (sp : Sp) : R2 := fun x y H Q => ∃ a b dx fs, x = .ref a ∧ y = .ref b ∧ H a = some (.ins C dx fs) ∧ ((∃ dy gs, H b = some (.ins C dy gs)) ∨ ∃ ys, SqT K H b ys) ∧ sp [x, y] H Q E0
section
variable {X : Cx}
theorem op_ownE {C f : Addr} {n : Nat} {fd : FuncData} {ps : List Str} {sp : Sp} (F : FnOk X.prog X.w X.K X.mg X.base CX0 n f fd ps sp) (hs : PySem.W.findIn X.K (.ref C) "__eq__" = some (some (.ref f))) (hf : PySem.W.isFn X.K (.ref f) = true) (hb : Binds X.K fd ps [])
    (nf : PySem.W.notFirst X.K C (.type "tuple") = true) (hr : Room n X.A) (hbl : ∀ vs H Q, sp vs H Q E0 → sp vs H (fun z H' => (∃ b, z = .bl b) ∧ Q z H') E0) : OpR X (compareOp .Eq) (rOwE X.K C sp) := by
  intro pins s σ H x y v u Q I rx ry h
  obtain ⟨a, b, dx, fs, rfl, rfl, ha, hy, q⟩ := h
  cases rx
  cases ry
  obtain ⟨mA, J, _⟩ := ins_get I.hok ha
  obtain ⟨od, J, _⟩ := J.look
  obtain ⟨m, hF⟩ := I.fr
  have q' := hbl _ _ _ q
  have hl := F.len _ _ _ _ q'
  have r2 : Vals [V.ref a, V.ref b] [Value.ref a, Value.ref b] := .cons rfl (.cons rfl .nil)
  have go : wpAny (model X.prog X.w) X.A (call (.ref f) [.ref a, .ref b]) (fun w s' => ∃ z H', Inv X pins σ H' s' ∧ RelV z w ∧ (∃ k, z = .bl k) ∧ Q z H') X.xe s := by
    refine wpAny_call (codeAny_mono (F.run X.A X.stack s H ⟨[.ref a, .ref b], []⟩ [.ref a, .ref b] [.ref a, .ref b] _ E0 hr I.env0 (by
      have := hb s [.ref a, .ref b] I.kIn (by simpa using hl)
      simpa using this) r2 q') fun r s' hq => ?_)
    cases r with
    | error e => exact pass0 pins σ H s e s' I hq
    | ok fl =>
      cases fl with
      | ret w =>
        obtain ⟨z, H', I', rz, ez, qz⟩ := I.after hq
        exact ⟨z, H', I', rz, ez, qz⟩
      | _ => exact hq.elim
  have back : ∀ w s', (∃ z H', Inv X pins σ H' s' ∧ RelV z w ∧ (∃ k, z = .bl k) ∧ Q z H') → PySem.W.CmpBack (EP X pins σ Q) w s' := fun w s' ⟨z, H', I', rz, ⟨k, ez⟩, qz⟩ => by
    subst ez
    cases (show w = Value.bool k from rz)
    exact ⟨.bl k, H', I', rfl, qz⟩
  show wpAny (model X.prog X.w) X.A (richCompare .Eq (.ref a) (.ref b)) (EP X pins σ Q) X.xe s
  rcases hy with ⟨dy, gs, hb'⟩ | ⟨ys, hT⟩
  · obtain ⟨mB, J', _⟩ := ins_get I.hok hb'
    obtain ⟨od', J', _⟩ := J'.look
    exact PySem.W.cmp_K (op := .Eq) (tb := .ref C) hr.units0 hF I.ok.mod.kin J J'.type (by simp [PySem.W.notFirst]) hs hf (wpAny_mono go back fun _ _ x => x)
  · obtain ⟨its, rv, ⟨o, ho, hc, _⟩, _⟩ := I.tuple hT
    exact PySem.W.cmp_K (op := .Eq) (tb := .type "tuple") hr.units0 hF I.ok.mod.kin J (fun A Q E s k q => wpAny_typeOf ⟨o, k _ _ ho, hc⟩ q) nf hs hf (wpAny_mono go back fun _ _ x => x)
end
section
variable {P : Program} {w : World} {K : PySem.W.Frag} {mg : Str → Option Value} {base : Heap}
/-- the own ==, of a System and a System or a tuple -/
def spSE2 (K : PySem.W.Frag) (C : Addr) : Sp := fun vs H Q _ => ∃ (p q : Addr) (m1 : Nat) (ms1 : List Mv), vs = [.ref p, .ref q] ∧ SysAt K C H p m1 ms1 ∧
  ((∃ m2 ms2, SysAt K C H q m2 ms2 ∧ Q (.bl (decide (m1 = m2) && decide (ms1 = ms2))) H) ∨ ((∃ ys, SqT K H q ys) ∧ Q (.bl false) H))
theorem ok_seq2 {f C : Addr} {fd : FuncData} (F : Fun K "__eq__" "System.__eq__" s_System_eq f fd) (T : Nm2 mg) (S : SysT K mg C) (kt : PySem.W.kitOne K (.type "tuple") (.ref C) = some false) : FnOk P w K mg base CX0 1 f fd ["self", "other"] (spSE2 K C) := by
  refine F.ok scSEq (fun vs H Q E h => ?_) (fun cdv A outer s H vs Q E hr h => ?_)
  · obtain ⟨p, q, m1, ms1, rfl, _⟩ := h
    rfl
  · obtain ⟨p, q, m1, ms1, rfl, h1, h⟩ := h
    obtain ⟨d1, v1, a1, b1⟩ := id h1
    refine ⟨_, pss_one (ps_ret (pe_and (pe_callB call_isi (by rfl) T.isi (by decide +kernel) (pa_cons (pv 1) (pa_cons (pe_glob (v := .ref C) (u := .ref C) rfl S.mgC rfl) pa_nil)))
      (pe_and (pe_cmpR op_eq (pe_fld (pv 0) rfl) (pe_fld (pv 1) rfl) (nomark _)) (pe_one (pe_cmpR (op_eqD hr.units) (pe_fld (pv 0) rfl) (pe_fld (pv 1) rfl) (nomark _)))))), ?_⟩
    rcases h with ⟨m2, ms2, h2, k⟩ | ⟨⟨ys, h2⟩, k⟩
    · obtain ⟨d2, v2, a2, b2⟩ := id h2
      refine ⟨_, rfl, _, _, _, _, _, rfl, .own C, h2.ty S, kit_self (by simp), _, rfl, iteT ?_⟩
      refine ⟨_, rfl, p, C, d1, _, _, rfl, a1, S.cl, S.nK, sysF_many _ _, _, rfl, q, C, d2, _, _, rfl, a2, S.cl, S.nK, sysF_many _ _, rfl, _, rfl, ?_⟩
      have e1 : decide (V.int (m1 : Int) = V.int (m2 : Int)) = decide (m1 = m2) := by
        by_cases e : m1 = m2
        · subst e
          rw [decide_eq_true rfl, decide_eq_true rfl]
        · rw [decide_eq_false e, decide_eq_false (fun z => e (by have := V.int.inj z; omega))]
      rw [e1]
      refine ite2 (fun h => ?_) (fun h => ?_)
      · refine ⟨_, rfl, p, C, d1, _, _, rfl, a1, S.cl, S.nM, sysF_moves _ _, _, rfl, q, C, d2, _, _, rfl, a2, S.cl, S.nM, sysF_moves _ _, mvsD ms1, mvsD ms2, dp_mvsAt b1, dp_mvsAt b2, shaped_of (lay_mvsD _) (by decide), shaped_of (lay_mvsD _) (by decide), ?_⟩
        rw [eqv_mvsD]
        rw [h, Bool.true_and] at k
        exact k
      · rw [Bool.not_eq_true] at h
        rw [h, Bool.false_and] at k
        exact k
    · exact ⟨_, rfl, _, _, _, _, _, rfl, .own C, tyx_tup h2, kt, _, rfl, iteF k⟩
theorem bl_SE2 {C : Addr} : ∀ vs H Q, spSE2 K C vs H Q E0 → spSE2 K C vs H (fun z H' => (∃ b, z = .bl b) ∧ Q z H') E0 := by
  rintro vs H Q ⟨p, q, m1, ms1, e, h1, h⟩
  refine ⟨p, q, m1, ms1, e, h1, ?_⟩
  rcases h with ⟨m2, ms2, h2, k⟩ | ⟨h2, k⟩
  · exact .inl ⟨m2, ms2, h2, ⟨_, rfl⟩, k⟩
  · exact .inr ⟨h2, ⟨_, rfl⟩, k⟩
end
end Law
namespace Law
open PySem L2
/-! ### is_right -/
theorem sorted_ext : ∀ {a b : List Int}, a.Pairwise (· < ·) → b.Pairwise (· < ·) → (∀ k, k ∈ a ↔ k ∈ b) → a = b
  | [], [], _, _, _ => rfl
  | [], y :: b, _, _, h => absurd ((h y).mpr List.mem_cons_self) List.not_mem_nil
  | x :: a, [], _, _, h => absurd ((h x).mp List.mem_cons_self) List.not_mem_nil
  | x :: a, y :: b, ha, hb, h => by
    rw [List.pairwise_cons] at ha hb
    have exy : x = y := by
      rcases List.mem_cons.mp ((h x).mp List.mem_cons_self) with e | e
      · exact e
      rcases List.mem_cons.mp ((h y).mpr List.mem_cons_self) with e2 | e2
      · exact e2.symm
      have := hb.1 x e
      have := ha.1 y e2
      omega
    subst exy
    rw [sorted_ext ha.2 hb.2 fun k => ⟨fun hk => ?_, fun hk => ?_⟩]
    · rcases List.mem_cons.mp ((h k).mp (List.mem_cons_of_mem _ hk)) with e | e
      · have := ha.1 k hk
        omega
      · exact e
    · rcases List.mem_cons.mp ((h k).mpr (List.mem_cons_of_mem _ hk)) with e | e
      · have := hb.1 k hk
        omega
      · exact e
theorem dp_tup {K : PySem.W.Frag} {H : Hp} {a : Addr} {l : List Int} (h : SqT K H a (l.map V.int)) : Dp K H (.ref a) (tupD l) := .tup h (dp_ints l)
theorem sh_tup (l : List Int) : SeqAt.shaped (tupD l) = true := shaped_of (lay_tupD l) (by decide)
def lstD (l : List Int) : PyData := .list (l.map .int)
theorem dp_lst {K : PySem.W.Frag} {H : Hp} {a : Addr} {l : List Int} (h : SqL K H a (l.map V.int)) : Dp K H (.ref a) (lstD l) := .lst h (dp_ints l)
theorem sh_lst (l : List Int) : SeqAt.shaped (lstD l) = true := by
  have h := lay_all PyData.int 0 lay_int l
  refine shaped_of (n := 1) ?_ (by decide)
  unfold lstD
  rw [PyData.canLay0, PyData.depth]
  exact ⟨h.1, by omega⟩
theorem eqv_lstD (a b : List Int) : PyData.eqv (lstD a) (lstD b) = decide (a = b) := by
  unfold lstD
  rw [PyData.eqv]
  exact eqvAll_map PyData.int eqv_int a b
theorem dp_fr {K : PySem.W.Frag} {H : Hp} {a : Addr} {f : Fr} (h : SqT K H a [.int f.1, .int f.2]) : Dp K H (.ref a) (frD f) := .tup h (.cons (.int _) (.cons (.int _) .nil))
theorem sh_fr (f : Fr) : SeqAt.shaped (frD f) = true := shaped_of (lay_frD f) (by decide)
theorem share_pos {many : Nat} {ms : List Mv} (ok : MvsOk many ms) {row : List Int} (h : row.length ≤ 400) : 0 ≤ (shareF ms row).1 ∧ 0 < (shareF ms row).2 ∧ (shareF ms row).1.natAbs < 2 ^ 100000 ∧ (shareF ms row).2.natAbs < 2 ^ 100000 := by
  have p1 := rpr_pos (top_ok ok) row
  have p2 := rpr_pos (bot_ok ok) row
  have l1 := rpr_lt (top_ok ok) h
  have l2 := rpr_lt (bot_ok ok) h
  obtain ⟨q1, q2⟩ := lowP_pos (t := ((rpr (topAt ms) row : Nat) : Int)) (b := ((rpr (botAt ms) row : Nat) : Int)) (by omega) (by omega)
  obtain ⟨r1, r2⟩ := lowP_le (t := ((rpr (topAt ms) row : Nat) : Int)) (b := ((rpr (botAt ms) row : Nat) : Int)) (by omega) (by omega)
  have e1 : (shareF ms row).1 = (lowP ((rpr (topAt ms) row : Nat) : Int) ((rpr (botAt ms) row : Nat) : Int)).1 := rfl
  have e2 : (shareF ms row).2 = (lowP ((rpr (topAt ms) row : Nat) : Int) ((rpr (botAt ms) row : Nat) : Int)).2 := rfl
  rw [← e1] at q1 r1
  rw [← e2] at q2 r2
  refine ⟨by omega, by omega, ?_, ?_⟩
  · exact Nat.lt_of_le_of_lt (show (shareF ms row).1.natAbs ≤ rpr (topAt ms) row by omega) (pow_mono l1 (by decide))
  · exact Nat.lt_of_le_of_lt (show (shareF ms row).2.natAbs ≤ rpr (botAt ms) row by omega) (pow_mono l2 (by decide))
theorem share_app {many : Nat} {ms : List Mv} (ok : MvsOk many ms) (a b : List Int) : lowP ((shareF ms a).1 * (shareF ms b).1) ((shareF ms a).2 * (shareF ms b).2) = shareF ms (a ++ b) := by
  have p1 := rpr_pos (top_ok ok) a
  have p2 := rpr_pos (bot_ok ok) a
  have p3 := rpr_pos (top_ok ok) b
  have p4 := rpr_pos (bot_ok ok) b
  unfold shareF
  rw [lowP_mul (by omega) (by omega) (by omega) (by omega), rpr_app, rpr_app, Int.natCast_mul, Int.natCast_mul]
end Law
namespace Law
open PySem L2
section
variable {P : Program} {w : World} {K : PySem.W.Frag} {mg : Str → Option Value} {base : Heap}
theorem Stp.sys {p : Addr} {C : Addr} {H H' : Hp} {q : Addr} {many : Nat} {ms : List Mv} (S : Stp p H H') (hp : HandAt H p) (h : SysAt K C H q many ms) : SysAt K C H' q many ms := by
  obtain ⟨ks, hk⟩ := hp.dk
  obtain ⟨dx, mv, h1, h2⟩ := h
  exact ⟨dx, mv, S.keep _ _ (ne_of h1 hk (by intro z; cases z)) h1, S.mvs hp h2⟩
def spRight (K : PySem.W.Frag) (C : Addr) : Sp := fun vs H Q _ => ∃ (p a sy : Addr) (many : Nat) (ms : List Mv), vs = [.ref p, .int (many : Int), .ref a, .ref sy] ∧ HandAt H p ∧ MvsAt K H a ms ∧ SysAt K C H sy many ms ∧ MvsOk many ms ∧ ∀ H', Stp p H H' → Q (.bl true) H'
abbrev nRight : List Str := ["_law_hand_here", "_law_many", "_law_moves_here", "_law_system", "_law_row_here", "_law_other", "_law_due", "_law_told", "_law_far", "_law_state"]
theorem scRight : FnScope nRight ["_law_hand_here", "_law_many", "_law_moves_here", "_law_system"] (defScope s_law_is_right) := ⟨rfl, rfl, rfl, by decide +kernel, rfl, by decide +kernel, by decide +kernel⟩
/-- the defs that is_right calls -/
structure RtC (P : Program) (w : World) (K : PySem.W.Frag) (mg : Str → Option Value) (base : Heap) (C : Addr) : Prop where
  row : ∃ f fd, Cl P w K mg base CX0 3 "_law_row" f fd ["_law_hand_here", "_law_moves_here"] (spRow K)
  gone : ∃ f fd, Cl P w K mg base CX0 1 "_law_gone" f fd ["_law_moves_here", "_law_row_here", "_law_state"] (spGone K)
  shareL : ∃ f fd, Cl P w K mg base CX0 35 "_law_share" f fd ["_law_moves_here", "_law_row_here"] (spShareL K)
  times : ∃ f fd, Cl P w K mg base CX0 35 "_law_times" f fd ["_law_one", "_law_other"] (spTimes K)
  all : ∃ f fd, Cl P w K mg base CX0 6 "led_all" f fd ["system", "row"] (spAll K C)
  lot : ∃ f fd, Cl P w K mg base CX0 7 "lot_behind" f fd ["system", "row"] (spLot K C)
  led : ∃ f fd, Cl P w K mg base CX0 5 "led" f fd ["system", "row", "state"] (spLed K C)
  share : ∃ f fd, Cl P w K mg base CX0 35 "share_of" f fd ["system", "row"] (spShareOf K C)
theorem ok_right {f C : Addr} {fd : FuncData} (F : Fun K "_law_is_right" "_law_is_right" s_law_is_right f fd) (T : Nm3 mg) (Z : RtC P w K mg base C) : FnOk P w K mg base CX0 36 f fd ["_law_hand_here", "_law_many", "_law_moves_here", "_law_system"] (spRight K C) := by
  obtain ⟨_, _, R⟩ := Z.row
  obtain ⟨_, _, G⟩ := Z.gone
  obtain ⟨_, _, SL⟩ := Z.shareL
  obtain ⟨_, _, TM⟩ := Z.times
  obtain ⟨_, _, LA⟩ := Z.all
  obtain ⟨_, _, LT⟩ := Z.lot
  obtain ⟨_, _, LD⟩ := Z.led
  obtain ⟨_, _, SO⟩ := Z.share
  refine F.ok scRight (fun vs H Q E h => ?_) (fun cdv A' outer s H vs Q E hr h => ?_)
  · obtain ⟨p, a, sy, many, ms, rfl, _⟩ := h
    rfl
  · obtain ⟨p, a, sy, many, ms, rfl, hH, hA, hS, ok, k⟩ := h
    have r1 := hr.mono (show 1 ≤ 35 by decide)
    have r3 := hr.mono (show 3 ≤ 35 by decide)
    have r5 := hr.mono (show 5 ≤ 35 by decide)
    have r6 := hr.mono (show 6 ≤ 35 by decide)
    have r7 := hr.mono (show 7 ≤ 35 by decide)
    refine ⟨_, pss_cons (ps_asg (pe_tup (pa_cons (R.call r3 (pa_cons (pv 0) (pa_cons (pv 2) pa_nil))) (pa_cons (R.call r3 (pa_cons (pv 0) (pa_cons (pv 2) pa_nil))) pa_nil))) (pg_tup (by rfl) (pgs_cons (pg_name (i := 4) scRight.nd rfl (Or.inr rfl)) (pgs_cons (pg_name (i := 5) scRight.nd rfl (Or.inl rfl)) pgs_nil))))
      (pss_cons (ps_set (i := 6) scRight.nd rfl (Or.inl rfl) (pe_callTy call_tuple_of (by rfl) T.tuple (by decide +kernel) (pa_cons (pe_lc (own := [("_law_state", 9)]) (g := gName 9) (tt := tYes) rfl scRight.nd (pi_range1 (by rfl) T.range (pa_cons (pv 1) pa_nil))
        (blkOk_by (own := [("_law_state", 9)]) (N := nRight) (sc := defScope s_law_is_right) (by decide +kernel)) (fun _ _ _ _ _ => pg_name (i := 9) scRight.nd rfl (Or.inl rfl)) (fun _ _ _ _ _ => pts_nil)
        (fun _ _ _ _ _ => G.call r1 (pa_cons (pv 2) (pa_cons (pv 4) (pa_cons (pv 9) pa_nil))))) pa_nil)))
      (pss_cons (ps_if (PW.pt (pw_or (pt_cmpR (op_neD hr.units) (LA.call r6 (pa_cons (pv 3) (pa_cons (pv 4) pa_nil))) (pv 6) (nomark _))
          (pw_or1 (pt_cmpR (op_neD hr.units) (LT.call r7 (pa_cons (pv 3) (pa_cons (pv 4) pa_nil))) (pe_callTy call_tuple_of (by rfl) T.tuple (by decide +kernel) (pa_cons (pe_callB (cr_sortedSet (by rfl)) (by rfl) T.sorted (by decide +kernel) (pa_cons (pe_callTy (cr_setI (by rfl)) (by rfl) T.set (by decide +kernel) (pa_cons (pv 6) pa_nil)) pa_nil)) pa_nil)) (nomark _))))) (pss_one (ps_ret pe_bl)) pss_nil)
      (pss_cons (ps_setLc (i := 7) (own := [("_law_state", 9)]) (g := gName 9) (tt := tYes) (by rfl) scRight.nd rfl rfl (sw_true rfl rfl rfl (by decide +kernel)) (pi_range1 (by rfl) T.range (pa_cons (pv 1) pa_nil))
        (blkOk_by (own := [("_law_state", 9)]) (N := nRight) (sc := defScope s_law_is_right) (by decide +kernel)) (fun _ _ _ _ _ => pg_name (i := 9) scRight.nd rfl (Or.inl rfl)) (fun _ _ _ _ _ => pts_nil)
        (fun _ _ _ _ _ => LD.call r5 (pa_cons (pv 3) (pa_cons (pv 4) (pa_cons (pv 9) pa_nil)))))
      (pss_cons (ps_if (PW.pt (pw_or (pt_cmpR (op_neD hr.units) (pv 7) (pe_callTy call_list_of (by rfl) T.list (by decide +kernel) (pa_cons (pv 6) pa_nil)) (nomark _))
          (pw_or1 (pt_val (pe_callB (cr_any rfl) (by rfl) T.any (by decide +kernel) (pa_cons (pe_lc (own := [("_law_state", 9)]) (g := gName 9) (tt := tYes) rfl scRight.nd (pi_list (pv 7))
            (blkOk_by (own := [("_law_state", 9)]) (N := nRight) (sc := defScope s_law_is_right) (by decide +kernel)) (fun _ _ _ _ _ => pg_name (i := 9) scRight.nd rfl (Or.inl rfl)) (fun _ _ _ _ _ => pts_nil)
            (fun _ _ _ _ _ => pe_callB (r := rIsi K) (show CallR _ (.builtin "isinstance") (rIsi K) from call_isi) (by rfl) T.isi (by decide +kernel) (pa_cons (pv 9) (pa_cons (pe_bltn (v := .ty "bool") (u := .type "bool") (by rfl) T.bool (by decide +kernel) rfl) pa_nil)))) pa_nil)))))) (pss_one (ps_ret pe_bl)) pss_nil)
      (pss_cons (ps_if (pt_cmpR (op_neD hr.units) (SO.call hr (pa_cons (pv 3) (pa_cons (pv 4) pa_nil))) (SL.call hr (pa_cons (pv 2) (pa_cons (pv 4) pa_nil))) (nomark _)) (pss_one (ps_ret pe_bl)) pss_nil)
      (pss_cons (ps_if (pt_cmpR op_gt (pe_op op_add (pe_callB call_len_seq (by rfl) T.len PySem.boot_len (pa_cons (pv 4) pa_nil)) (pe_callB call_len_seq (by rfl) T.len PySem.boot_len (pa_cons (pv 5) pa_nil))) pe_int (nomark _)) (pss_one (ps_ret pe_bl)) pss_nil)
      (pss_cons (ps_set (i := 8) scRight.nd rfl (Or.inr rfl) (LA.call r6 (pa_cons (pv 3) (pa_cons (pv 5) pa_nil))))
      (pss_cons (ps_if (pt_cmpR (op_neD hr.units) (LA.call r6 (pa_cons (pv 3) (pa_cons (pe_op op_catA (pv 4) (pv 5)) pa_nil))) (pe_callTy call_tuple_of (by rfl) T.tuple (by decide +kernel) (pa_cons (pe_lc (own := [("_law_state", 9)]) (g := gName 9) (tt := tYes) rfl scRight.nd (pi_tup (pv 6))
          (blkOk_by (own := [("_law_state", 9)]) (N := nRight) (sc := defScope s_law_is_right) (by decide +kernel)) (fun _ _ _ _ _ => pg_name (i := 9) scRight.nd rfl (Or.inl rfl)) (fun _ _ _ _ _ => pts_nil)
          (fun _ _ _ _ _ => pe_ix (r := rIxT K) (show IxR _ (rIxT K) from ix_tup) (pv 8) (pv 9) (fun _ _ => rfl))) pa_nil)) (nomark _)) (pss_one (ps_ret pe_bl)) pss_nil)
      (pss_one (ps_ret (pe_cmpR (op_eqD hr.units) (SO.call hr (pa_cons (pv 3) (pa_cons (pe_op op_catA (pv 4) (pv 5)) pa_nil))) (TM.call hr (pa_cons (SL.call hr (pa_cons (pv 2) (pa_cons (pv 4) pa_nil))) (pa_cons (SL.call hr (pa_cons (pv 2) (pa_cons (pv 5) pa_nil))) pa_nil))) (nomark _)))))))))))), ?_⟩
    obtain ⟨vs, hV, hM⟩ := id hA
    have l1 := ok.ok.l1
    have l24 := ok.ok.l2
    have mm1 := ok.ok.m1
    have m12 := ok.ok.m2
    refine ⟨_, rfl, _, rfl, p, a, ms, rfl, hH, hA, l1, l24, fun b1 H1 row S1 z1 k1 => ?_⟩
    refine ⟨_, rfl, _, rfl, p, a, ms, rfl, S1.hand, S1.mvs hH hA, l1, l24, fun b2 H2 oth S2 z2 k2 => ⟨by show 2 ≤ sizeLine; decide, fun q hq => ?_⟩⟩
    refine ⟨q, _, rfl, SqT.of upd_same, rfl, _, _, rfl, _, _, rfl, rfl, ?_⟩
    have s0 : Same H2 (upd H2 q (.tup [.ref b1, .ref b2])) := Same.new hq
    have S3 : Stp p H (upd H2 q (.tup [.ref b1, .ref b2])) := (S1.trans S2).post s0
    have A3 : MvsAt K (upd H2 q (.tup [.ref b1, .ref b2])) a ms := S3.mvs hH hA
    have Y3 : SysAt K C (upd H2 q (.tup [.ref b1, .ref b2])) sy many ms := S3.sys hH hS
    have R3 : TupZ (upd H2 q (.tup [.ref b1, .ref b2])) b1 (row.map V.int) := s0.tupZ (S2.tupZ S1.hand z1)
    have O3 : TupZ (upd H2 q (.tup [.ref b1, .ref b2])) b2 (oth.map V.int) := s0.tupZ z2
    clear s0
    generalize upd H2 q (.tup [.ref b1, .ref b2]) = H3 at S3 A3 Y3 R3 O3 ⊢
    have az : ∀ r : List Int, (allF ms many r).length = many := fun r => by
      unfold allF
      rw [List.length_map, List.length_range]
    have snoc : ∀ (D : Addr) (i : Nat) (H' : Hp), i < many → H' D = some (.lst ((allF ms i row).map V.int)) → ((allF ms i row).map V.int).length < sizeLine ∧ (upd H' D (.lst ((allF ms i row).map V.int ++ [.int (goneF ms row (i : Int))]))) D = some (.lst ((allF ms (i + 1) row).map V.int)) := fun D i H' hi h => by
      refine ⟨?_, ?_⟩
      · unfold allF
        rw [List.length_map, List.length_map, List.length_range]
        exact small1000 (by omega)
      · rw [upd_same, all_snoc, List.map_append] <;> rfl
    -- due
    refine ⟨_, rfl, (many : Int), rfl, by omega, by omega, fun D hD => ?_⟩
    refine lc_range (lo := 0) (n := many) (fun i H' => Same H3 H' ∧ H' D = some (.lst ((allF ms i row).map V.int))) ⟨Same.new hD, upd_same⟩ (fun i H' hi g => ?_) fun H' g => ?_
    · obtain ⟨t1, h1⟩ := g
      rw [Int.zero_add]
      obtain ⟨y1, y2⟩ := snoc D i H' hi h1
      exact ⟨rfl, _, rfl, _, rfl, _, rfl, a, b1, ms, row, many, (i : Int), rfl, A3.same t1, t1.sqT R3.sq, ok.ok.mv, k1.2, by omega, by omega, _, h1, y1, t1.mut hD, y2⟩
    obtain ⟨t1, h1⟩ := g
    refine ⟨D, _, rfl, .inl ⟨SqL.of h1, fun du hdu => ?_⟩⟩
    have t4 : Same H3 (upd H' du (.tup ((allF ms many row).map V.int))) := t1.trans (Same.new hdu)
    have g4 : (upd H' du (.tup ((allF ms many row).map V.int))) du = some (.tup ((allF ms many row).map V.int)) := upd_same
    generalize upd H' du (.tup ((allF ms many row).map V.int)) = H4 at t4 g4 ⊢
    clear t1 h1 hD hdu
    -- led_all, lot_behind
    refine ⟨_, rfl, _, rfl, sy, b1, many, ms, row, rfl, Y3.same t4, t4.sqT R3.sq, ok.ok, k1, fun l5 H5 s5 h5 => ?_⟩
    refine ⟨_, rfl, tupD _, tupD _, dp_tup (SqT.of h5), dp_tup (s5.sqT (SqT.of g4)), sh_tup _, sh_tup _, _, rfl, ?_⟩
    rw [eqv_tupD, decide_eq_true rfl]
    have t5 := t4.trans s5
    refine iteF ⟨_, rfl, _, rfl, sy, b1, many, ms, row, rfl, Y3.same t5, t5.sqT R3.sq, ok.ok, k1, fun l6 H6 ns s6 h6 p6 q6 => ?_⟩
    have t6 := t5.trans s6
    have g6 := s6 _ _ (s5 _ _ g4)
    refine ⟨_, rfl, du, _, rfl, SqT.of g6, by rw [az]; omega, fun st c hst hc => ?_⟩
    rw [az] at hc
    refine ⟨st, _, c, rfl, upd_same, by omega, fun ns2 r p1 p2 p3 hr' => ?_⟩
    refine ⟨r, _, rfl, .inl ⟨SqL.of upd_same, fun l7 hl7 => ?_⟩⟩
    have s7 := ((Same.new hst).trans (Same.new hr')).trans (Same.new (o := .tup (ns2.map V.int)) hl7)
    have e2 : ns = ns2 := sorted_ext p6 p1 fun z => by rw [q6 z, p2 z, decide_eq_true_iff]
    refine ⟨tupD ns, tupD ns2, dp_tup (s7.sqT (SqT.of h6)), dp_tup (SqT.of upd_same), sh_tup _, sh_tup _, _, rfl, ?_⟩
    rw [eqv_tupD, decide_eq_true e2]
    have t7 := t6.trans s7
    have g7 := s7 _ _ g6
    refine iteF ?_
    revert t7 g7
    generalize upd (upd (upd H6 st _) r _) l7 _ = H7
    intro t7 g7
    -- told
    refine ⟨_, rfl, (many : Int), rfl, by omega, by omega, fun D hD => ?_⟩
    refine lc_range (lo := 0) (n := many) (fun i H' => Same H7 H' ∧ H' D = some (.lst ((allF ms i row).map V.int))) ⟨Same.new hD, upd_same⟩ (fun i H' hi g => ?_) fun H8 g => ?_
    · obtain ⟨t1, h1⟩ := g
      rw [Int.zero_add]
      have t8 := t7.trans t1
      refine ⟨rfl, _, rfl, _, rfl, _, rfl, sy, b1, many, ms, row, (i : Int), rfl, Y3.same t8, t8.sqT R3.sq, ok.ok, k1, by omega, by omega, fun H2 t2 => ?_⟩
      obtain ⟨y1, y2⟩ := snoc D i H2 hi (t2 _ _ h1)
      exact ⟨_, t2 _ _ h1, y1, (t1.trans t2).mut hD, y2⟩
    obtain ⟨t8, h8⟩ := g
    have g8 := t8 _ _ g7
    have t8 := t7.trans t8
    refine ⟨_, rfl, _, rfl, du, _, rfl, .inr (SqT.of g8), fun l9 hl9 => ?_⟩
    have s9 : Same H8 (upd H8 l9 (.lst ((allF ms many row).map V.int))) := Same.new hl9
    refine ⟨lstD _, lstD _, dp_lst (SqL.of (s9 _ _ h8)), dp_lst (SqL.of upd_same), sh_lst _, sh_lst _, _, rfl, ?_⟩
    rw [eqv_lstD, decide_eq_true rfl]
    have t9 := t8.trans s9
    have g9 := s9 _ _ g8
    have h9 := s9 _ _ h8
    clear s9
    generalize upd H8 l9 (.lst ((allF ms many row).map V.int)) = H9 at t9 g9 h9 ⊢
    refine iteF ⟨_, rfl, D, rfl, ⟨_, SqL.of h9⟩, fun E hE => ?_⟩
    refine lc_list (K := K) (a := D) (xs := (allF ms many row).map V.int) (fun i H' => Same H9 H' ∧ H' E = some (.lst ((List.replicate i false).map V.bl))) ⟨Same.new hE, upd_same⟩ (fun i H' _ g => SqL.of (g.1 _ _ h9)) (fun i x H' hi g => ?_) fun H10 g => ?_
    · obtain ⟨u1, h1⟩ := g
      rw [List.getElem?_map] at hi
      obtain ⟨z, hz, rfl⟩ := Option.map_eq_some_iff.mp hi
      have hil := (List.getElem?_eq_some_iff.mp hz).1
      rw [az] at hil
      refine ⟨rfl, _, rfl, _, _, _, _, _, rfl, .ty "bool", .base (.int z), (show PySem.W.kitOne K (.type "int") (.type "bool") = some false from kit_ty (by decide +kernel)), _, h1, ?_, u1.mut hE, ?_⟩
      · rw [List.length_map, List.length_replicate]
        exact small1000 (by omega)
      · rw [upd_same, List.replicate_succ', List.map_append] <;> rfl
    obtain ⟨u10, h10⟩ := g
    refine ⟨E, _, rfl, SqL.of h10, _, rfl, ?_⟩
    rw [show (List.replicate ((allF ms many row).map V.int).length false).any id = false from by simp]
    have t10 := t9.trans u10
    have g10 := u10 _ _ g9
    refine iteF ?_
    -- the shares
    refine ⟨_, rfl, _, rfl, sy, b1, many, ms, row, rfl, Y3.same t10, t10.sqT R3.sq, ok, k1, fun l11 H11 s11 h11 => ?_⟩
    have t11 := t10.trans s11
    refine ⟨_, rfl, _, rfl, a, b1, ms, row, many, rfl, A3.same t11, t11.tupZ R3, ok, k1, fun l12 H12 _ s12 h12 => ?_⟩
    refine ⟨frD (shareF ms row), frD (shareF ms row), dp_fr (SqT.of (s12 _ _ h11)), dp_fr (SqT.of h12), sh_fr _, sh_fr _, _, rfl, ?_⟩
    rw [eqv_frD, decide_eq_true rfl]
    have t12 := t11.trans s12
    have g12 := s12 _ _ (s11 _ _ g10)
    refine iteF ⟨_, rfl, b1, _, rfl, .inr (t12.sqT R3.sq), _, rfl, b2, _, rfl, .inr (t12.sqT O3.sq), _, _, rfl, rfl, _, _, rfl, rfl, _, rfl, ite2 (fun _ => ?_) (fun hlen => ?_)⟩
    · exact k H12 (S3.post t12)
    have hlen : row.length + oth.length ≤ 400 := by
      rw [List.length_map, List.length_map] at hlen
      have z : ¬ (400 : Int) < (row.length : Nat) + (oth.length : Nat) := fun q => hlen (decide_eq_true q)
      omega
    have k12 : RowOk ms.length (row ++ oth) := ⟨by rw [List.length_append]; exact hlen, fun x hx => by
      rcases List.mem_append.mp hx with hx | hx
      · exact k1.2 x hx
      · exact k2.2 x hx⟩
    have cat : ∀ (Hn : Hp) (Q' : VK), Same H3 Hn → (∀ c H', Same Hn H' → SqT K H' c ((row ++ oth).map V.int) → Q' (.ref c) H') → rCatA K (.ref b1) (.ref b2) Hn Q' := fun Hn Q' tn kk => by
      refine ⟨b1, b2, _, _, rfl, rfl, tn.sqT R3.sq, tn.sqT O3.sq, ?_, fun e => ?_, fun _ e => ?_, fun _ _ c hc => ?_⟩
      · rw [List.length_map, List.length_map]
        exact Nat.le_of_lt (small1000 (by omega))
      · refine kk b2 Hn (Same.refl Hn) ?_
        rw [List.map_append, e, List.nil_append]
        exact tn.sqT O3.sq
      · refine kk b1 Hn (Same.refl Hn) ?_
        rw [List.map_append, e, List.append_nil]
        exact tn.sqT R3.sq
      · refine kk c _ (Same.new hc) ?_
        rw [List.map_append]
        exact SqT.of upd_same
    -- far
    refine ⟨_, rfl, _, rfl, sy, b2, many, ms, oth, rfl, Y3.same t12, t12.sqT O3.sq, ok.ok, k2, fun fa H13 s13 h13 => ?_⟩
    have t13 := t12.trans s13
    have g13 := s13 _ _ g12
    refine ⟨_, rfl, _, rfl, _, rfl, cat H13 _ t13 fun c H14 s14 hc => ?_⟩
    have t14 := t13.trans s14
    refine ⟨sy, c, many, ms, row ++ oth, rfl, Y3.same t14, hc, ok.ok, k12, fun l15 H15 s15 h15 => ?_⟩
    have t15 := t14.trans s15
    have g15 := s15 _ _ (s14 _ _ g13)
    have f15 := s15 _ _ (s14 _ _ h13)
    refine ⟨_, rfl, du, rfl, ⟨_, SqT.of g15⟩, fun E hE => ?_⟩
    refine lc_tup (K := K) (a := du) (xs := (allF ms many row).map V.int) (fun i H' => Same H15 H' ∧ H' E = some (.lst ((((allF ms many row).take i).map fun s => goneF ms oth s).map V.int))) ⟨Same.new hE, upd_same⟩ (fun i H' _ g => SqT.of (g.1 _ _ g15)) (fun i x H' hi g => ?_) fun H16 g => ?_
    · obtain ⟨u1, h1⟩ := g
      rw [List.getElem?_map] at hi
      obtain ⟨z, hz, rfl⟩ := Option.map_eq_some_iff.mp hi
      have hil := (List.getElem?_eq_some_iff.mp hz).1
      rw [az] at hil
      have zb : 0 ≤ z ∧ z < (many : Int) := by
        obtain ⟨j, hj, rfl⟩ := List.mem_map.mp (List.mem_of_getElem? hz)
        have := List.mem_range.mp hj
        exact gone_in ok.ok.mv row (j : Int) k1.2 ⟨by omega, by omega⟩
      have ez : (allF ms many oth)[z.toNat]? = some (goneF ms oth z) := by
        unfold allF
        rw [List.getElem?_map, List.getElem?_range (by omega)]
        show some (goneF ms oth ((z.toNat : Nat) : Int)) = _
        rw [Int.toNat_of_nonneg zb.1]
      refine ⟨rfl, _, rfl, _, rfl, fa, _, _, _, rfl, rfl, SqT.of (u1 _ _ f15), ints_ix zb.1 ez, _, h1, ?_, u1.mut hE, ?_⟩
      · rw [List.length_map, List.length_map, List.length_take]
        exact small1000 (by omega)
      · rw [upd_same, List.take_add_one, hz, List.map_append, List.map_append] <;> rfl
    obtain ⟨u16, h16⟩ := g
    rw [List.length_map, List.take_length] at h16
    refine ⟨E, _, rfl, .inl ⟨SqL.of h16, fun l17 hl17 => ?_⟩⟩
    have s17 := u16.trans (Same.new (o := .tup (((allF ms many row).map fun s => goneF ms oth s).map V.int)) hl17)
    have e17 : allF ms many (row ++ oth) = (allF ms many row).map fun s => goneF ms oth s := by
      unfold allF
      rw [List.map_map]
      exact List.map_congr_left fun j _ => gone_app ms row oth _
    refine ⟨tupD _, tupD _, dp_tup (s17.sqT (SqT.of h15)), dp_tup (SqT.of upd_same), sh_tup _, sh_tup _, _, rfl, ?_⟩
    rw [eqv_tupD, decide_eq_true e17]
    have t17 := t15.trans s17
    refine iteF ⟨_, rfl, _, rfl, _, rfl, cat _ _ t17 fun c2 H18 s18 hc2 => ?_⟩
    have t18 := t17.trans s18
    refine ⟨sy, c2, many, ms, row ++ oth, rfl, Y3.same t18, hc2, ok, k12, fun l19 H19 s19 h19 => ?_⟩
    have t19 := t18.trans s19
    refine ⟨_, rfl, _, rfl, a, b1, ms, row, many, rfl, A3.same t19, t19.tupZ R3, ok, k1, fun l20 H20 _ s20 h20 => ?_⟩
    have t20 := t19.trans s20
    refine ⟨_, rfl, _, rfl, a, b2, ms, oth, many, rfl, A3.same t20, t20.tupZ O3, ok, k2, fun l21 H21 _ s21 h21 => ?_⟩
    have t21 := t20.trans s21
    obtain ⟨w1, w2, w3, w4⟩ := share_pos ok k1.1
    obtain ⟨x1, x2, x3, x4⟩ := share_pos ok k2.1
    refine ⟨l20, l21, shareF ms row, shareF ms oth, rfl, SqT.of (s21 _ _ h20), SqT.of h21, w1, x1, w2, x2, w3, w4, x3, x4, fun l22 hl22 => ?_⟩
    have s22 := Same.new (o := .tup [.int (lowP ((shareF ms row).1 * (shareF ms oth).1) ((shareF ms row).2 * (shareF ms oth).2)).1, .int (lowP ((shareF ms row).1 * (shareF ms oth).1) ((shareF ms row).2 * (shareF ms oth).2)).2]) hl22
    refine ⟨frD (shareF ms (row ++ oth)), frD (lowP ((shareF ms row).1 * (shareF ms oth).1) ((shareF ms row).2 * (shareF ms oth).2)), dp_fr (s22.sqT (s21.sqT (s20.sqT (SqT.of h19)))), dp_fr (SqT.of upd_same), sh_fr _, sh_fr _, ?_⟩
    have fin := S3.post (t21.trans s22)
    rw [share_app ok] at fin ⊢
    rw [eqv_frD, decide_eq_true rfl]
    exact k _ fin
end
end Law
namespace Law
open PySem L2
section
variable {P : Program} {w : World} {K : PySem.W.Frag} {mg : Str → Option Value} {base : Heap}
def spLaw (K : PySem.W.Frag) : Sp := fun vs H Q _ => ∃ (a : Addr) (ns : List Int), vs = [.ref a] ∧ SqL K H a (ns.map V.int) ∧ ns.length ≤ 63 ∧ ∀ H', Q (.bl true) H'
abbrev nLaw : List Str := ["_law_script", "_law_hand_here", "_law_turn", "_law_many", "_law_moves_here", "_law_system", "_law_other", "_law_again"]
theorem scLaw : FnScope nLaw ["_law_script"] (defScope s_law) := ⟨rfl, rfl, rfl, by decide +kernel, rfl, by decide +kernel, by decide +kernel⟩
structure LwC (P : Program) (w : World) (K : PySem.W.Frag) (mg : Str → Option Value) (base : Heap) (C : Addr) : Prop where
  y : SysT K mg C
  hand : ∃ f fd, Cl P w K mg base CX0 1 "_law_hand" f fd ["_law_script"] (spHand K)
  draw : ∃ f fd, Cl P w K mg base CX0 1 "_law_draw" f fd ["_law_hand_here", "_law_many"] spDraw
  size : ∃ f fd, Cl P w K mg base CX0 3 "_law_size" f fd ["_law_hand_here"] spSize
  moves : ∃ f fd, Cl P w K mg base CX0 36 "_law_moves" f fd ["_law_hand_here", "_law_many", "_law_most"] (spMoves K)
  right : ∃ f fd, Cl P w K mg base CX0 36 "_law_is_right" f fd ["_law_hand_here", "_law_many", "_law_moves_here", "_law_system"] (spRight K C)
  init : ∃ f fd, Mk K C f ∧ FnOk P w K mg base CX0 5 f fd ["self", "many", "moves"] (spSInit K C) ∧ Binds K fd ["self", "many", "moves"] []
  eq : ∃ f fd, FnOk P w K mg base CX0 1 f fd ["self", "other"] (spSE2 K C) ∧ PySem.W.findIn K (.ref C) "__eq__" = some (some (.ref f)) ∧ PySem.W.isFn K (.ref f) = true ∧ Binds K fd ["self", "other"] []
  nf : PySem.W.notFirst K C (.type "tuple") = true
theorem mk_same {C : Addr} {H H' : Hp} {y dy : Addr} (hy : H y = none) (hdy : H dy = none) (kC : ∀ b o, b ≠ y → (upd (upd H dy (.own y)) y (.ins C dy [])) b = some o → H' b = some o) : Same H H' := fun b o e =>
  kC b o (ne_of_none e hy) (by rw [upd_ne (ne_of_none e hy), upd_ne (ne_of_none e hdy)]; exact e)
theorem mk_same0 {C : Addr} {H : Hp} {y dy : Addr} (hy : H y = none) (hdy : H dy = none) : Same H (upd (upd H dy (.own y)) y (.ins C dy [])) := fun b o e => by
  rw [upd_ne (ne_of_none e hy), upd_ne (ne_of_none e hdy)]
  exact e
theorem sh_mvs (ms : List Mv) : SeqAt.shaped (mvsD ms) = true := shaped_of (lay_mvsD ms) (by decide)
theorem ok_law {f C : Addr} {fd : FuncData} (F : Fun K "law" "law" s_law f fd) (T : Nm3 mg) (Z : LwC P w K mg base C) : FnOk P w K mg base CX0 38 f fd ["_law_script"] (spLaw K) := by
  obtain ⟨_, _, HD⟩ := Z.hand
  obtain ⟨_, _, D⟩ := Z.draw
  obtain ⟨_, _, SZ⟩ := Z.size
  obtain ⟨_, _, MV⟩ := Z.moves
  obtain ⟨_, _, RT⟩ := Z.right
  obtain ⟨fI, fdI, MK, GK, BK⟩ := Z.init
  obtain ⟨fE, fdE, GE, hs, hf, BE⟩ := Z.eq
  have Y := Z.y
  refine F.ok scLaw (fun vs H Q E h => ?_) (fun cdv A' outer s H vs Q E hr h => ?_)
  · obtain ⟨a, ns, rfl, _⟩ := h
    rfl
  · obtain ⟨a, ns, rfl, hN, h63, k⟩ := h
    have r1 := hr.mono (show 1 ≤ 37 by decide)
    have r3 := hr.mono (show 3 ≤ 37 by decide)
    have r6 := hr.mono (show 6 ≤ 37 by decide)
    have r36 := hr.mono (show 36 ≤ 37 by decide)
    refine ⟨_, pss_cons (ps_set (i := 1) scLaw.nd rfl (Or.inl rfl) (HD.call r1 (pa_cons (pv 0) pa_nil)))
      (pss_cons (ps_for PassesOwn.never rfl (pi_range1 (by rfl) T.range (pa_cons pe_int pa_nil)) (pg_name (i := 2) scLaw.nd rfl (Or.inl rfl))
        (pss_cons (ps_set (i := 3) scLaw.nd rfl (Or.inl rfl) (SZ.call r3 (pa_cons (pv 1) pa_nil)))
        (pss_cons (ps_set (i := 4) scLaw.nd rfl (Or.inl rfl) (MV.call r36 (pa_cons (pv 1) (pa_cons (pv 3) (pa_cons (pe_ifExp (pt_cmpR op_gt (D.call r1 (pa_cons (pv 1) (pa_cons pe_int pa_nil))) pe_int (nomark _)) pe_int pe_int) pa_nil)))))
        (pss_cons (ps_set (i := 5) scLaw.nd rfl (Or.inl rfl) (pe_make MK GK r6 (by rfl) Y.mgC BK .nil pass0 (pa_cons (pv 3) (pa_cons (pv 4) pa_nil))))
        (pss_cons (ps_if (PW.pt (pw_or (pt_cmpR op_ne (pe_fld (pv 5) rfl) (pv 3) (nomark _)) (pw_or (pt_cmpR (op_neD hr.units) (pe_fld (pv 5) rfl) (pv 4) (nomark _))
            (pw_or1 (pt_not (pt_cmpR (op_ownE GE hs hf BE Z.nf r1 bl_SE2) (pv 5) (pe_make MK GK r6 (by rfl) Y.mgC BK .nil pass0 (pa_cons (pv 3) (pa_cons (pv 4) pa_nil))) (nomark _))))))) (pss_one (ps_ret pe_bl)) pss_nil)
        (pss_cons (ps_set (i := 6) scLaw.nd rfl (Or.inl rfl) (MV.call r36 (pa_cons (pv 1) (pa_cons (pv 3) (pa_cons pe_int pa_nil)))))
        (pss_cons (ps_if (PW.pt (pw_or (pt_cmpR op_ne (pe_cmpR (op_ownE GE hs hf BE Z.nf r1 bl_SE2) (pe_make MK GK r6 (by rfl) Y.mgC BK .nil pass0 (pa_cons (pv 3) (pa_cons (pv 6) pa_nil))) (pv 5) (nomark _)) (pe_cmpR (op_eqD hr.units) (pv 6) (pv 4) (nomark _)) (nomark _))
            (pw_or (pt_cmpR (op_ownE GE hs hf BE Z.nf r1 bl_SE2) (pv 5) (pe_tup (pa_cons (pv 3) (pa_cons (pv 4) pa_nil))) (nomark _)) (pw_or1 (pt_cmpR (op_ownE GE hs hf BE Z.nf r1 bl_SE2) (pv 5) (pv 4) (nomark _)))))) (pss_one (ps_ret pe_bl)) pss_nil)
        (pss_one (ps_for PassesOwn.never rfl (pi_range1 (by rfl) T.range (pa_cons pe_int pa_nil)) (pg_name (i := 7) scLaw.nd rfl (Or.inl rfl))
          (pss_one (ps_if (pt_not (pt_val (RT.call r36 (pa_cons (pv 1) (pa_cons (pv 3) (pa_cons (pv 4) (pa_cons (pv 5) pa_nil))))))) (pss_one (ps_ret pe_bl)) pss_nil)))))))))))
      (pss_one (ps_ret pe_bl))), ?_⟩
    refine ⟨_, rfl, a, ns, rfl, hN, h63, fun p H1 hp s1 hH1 => ?_⟩
    refine ⟨3, rfl, by decide, by decide, ?_⟩
    refine for_range (lo := 0) (n := 3) (fun i σ H' => HandAt H' p ∧ ∃ u1 u2 u3 u4 u5 u6 : Option V, σ = [some (.ref a), some (.ref p), u1, u2, u3, u4, u5, u6]) ⟨hH1, _, _, _, _, _, _, rfl⟩ ?_ ?_
    · rintro i σ H2 hi ⟨hH2, u1, u2, u3, u4, u5, u6, rfl⟩
      refine ⟨_, rfl, p, rfl, hH2, fun n H3 n1 n12 S3 => ?_⟩
      refine ⟨_, rfl, _, rfl, _, rfl, p, 12, rfl, by decide, by decide, S3.hand, fun d H4 d0 d1 S4 => ⟨_, _, rfl, rfl, _, rfl, ite2 (fun _ => ?_) (fun _ => ?_)⟩⟩
      all_goals
        first
          | refine ⟨p, n, 6, rfl, n1, n12, by decide, by decide, S4.hand, fun l H5 ms S5 hA ok => ?_⟩
          | refine ⟨p, n, 24, rfl, n1, n12, by decide, by decide, S4.hand, fun l H5 ms S5 hA ok => ?_⟩
        have hH5 := S5.hand
        refine ⟨_, rfl, _, rfl, ?_⟩
        intro y dy hy hdy ney
        refine ⟨y, dy, n, l, ms, rfl, upd_same, hA.same (mk_same0 hy hdy), ok.ok, fun H6 k6 h6 => ⟨rfl, ?_⟩⟩
        have c6 : Same H5 H6 := mk_same hy hdy k6
        have Sy : SysAt K C H6 y n ms := ⟨dy, l, h6, hA.same c6⟩
        have hA6 := hA.same c6
        have hH6 := hH5.same c6
        refine ⟨_, rfl, y, C, dy, _, _, rfl, h6, Y.cl, Y.nK, sysF_many _ _, _, rfl, rfl, _, rfl, ?_⟩
        rw [decide_eq_true (show V.int (n : Int) = V.int (n : Int) from rfl)]
        refine iteF ⟨_, rfl, y, C, dy, _, _, rfl, h6, Y.cl, Y.nM, sysF_moves _ _, _, rfl, mvsD ms, mvsD ms, dp_mvsAt hA6, dp_mvsAt hA6, sh_mvs ms, sh_mvs ms, _, rfl, ?_⟩
        rw [eqv_mvsD, decide_eq_true rfl]
        refine iteF ⟨_, rfl, _, rfl, _, rfl, ?_⟩
        intro y2 dy2 hy2 hdy2 ney2
        refine ⟨y2, dy2, n, l, ms, rfl, upd_same, hA6.same (mk_same0 hy2 hdy2), ok.ok, fun H7 k7 h7 => ⟨rfl, ?_⟩⟩
        have c7 : Same H6 H7 := mk_same hy2 hdy2 k7
        have Sy2 : SysAt K C H7 y2 n ms := ⟨dy2, l, h7, hA6.same c7⟩
        have Sy7 := Sy.same c7
        have h67 := c7 _ _ h6
        have hA7 := hA6.same c7
        have hH7 := hH6.same c7
        refine ⟨y, y2, dy, _, rfl, rfl, h67, .inl ⟨dy2, _, h7⟩, y, y2, n, ms, rfl, Sy7, .inl ⟨n, ms, Sy2, _, rfl, ?_⟩⟩
        rw [decide_eq_true (show n = n from rfl), decide_eq_true (show ms = ms from rfl)]
        refine iteF ⟨_, rfl, _, rfl, p, n, 3, rfl, n1, n12, by decide, by decide, hH7, fun l2 H8 ms2 S8 hA8 ok8 => ?_⟩
        have Sy8 := S8.sys hH7 Sy7
        have nyp : y ≠ p := ne_of h67 hH7.dk.choose_spec (by intro z; cases z)
        have h68 := S8.keep _ _ nyp h67
        have hM8 := S8.mvs hH7 hA7
        refine ⟨_, rfl, _, rfl, ?_⟩
        intro y3 dy3 hy3 hdy3 ney3
        refine ⟨y3, dy3, n, l2, ms2, rfl, upd_same, hA8.same (mk_same0 hy3 hdy3), ok8.ok, fun H9 k9 h9 => ⟨rfl, ?_⟩⟩
        have c9 : Same H8 H9 := mk_same hy3 hdy3 k9
        have Sy3 : SysAt K C H9 y3 n ms2 := ⟨dy3, l2, h9, hA8.same c9⟩
        have Sy9 := Sy8.same c9
        have h69 := c9 _ _ h68
        have hM9 := hM8.same c9
        have hH9 := S8.hand.same c9
        refine ⟨_, rfl, y3, y, dy3, _, rfl, rfl, h9, .inl ⟨dy, _, h69⟩, y3, y, n, ms2, rfl, Sy3, .inl ⟨n, ms, Sy9, ?_⟩⟩
        refine ⟨_, rfl, _, rfl, mvsD ms2, mvsD ms, dp_mvsAt (hA8.same c9), dp_mvsAt hM9, sh_mvs ms2, sh_mvs ms, rfl, _, rfl, ?_⟩
        rw [eqv_mvsD, decide_eq_true (show n = n from rfl), Bool.true_and, decide_eq_true (show V.bl (decide (ms2 = ms)) = V.bl (decide (ms2 = ms)) from rfl)]
        refine iteF ⟨_, rfl, _, rfl, _, rfl, by show 2 ≤ sizeLine; decide, fun t ht => ?_⟩
        have cT : Same H9 (upd H9 t (.tup [.int (n : Int), .ref l])) := Same.new ht
        refine ⟨y, t, dy, _, rfl, rfl, cT _ _ h69, .inr ⟨_, SqT.of upd_same⟩, y, t, n, ms, rfl, Sy9.same cT, .inr ⟨⟨_, SqT.of upd_same⟩, _, rfl, iteF ?_⟩⟩
        have SyT := Sy9.same cT
        have h6T := cT _ _ h69
        have hMT := hM9.same cT
        have hHT := hH9.same cT
        clear cT
        generalize upd H9 t (.tup [.int (n : Int), .ref l]) = HT at SyT h6T hMT hHT ⊢
        obtain ⟨vT, sqT, _⟩ := id hMT
        refine ⟨_, rfl, _, rfl, y, l, dy, _, rfl, rfl, h6T, .inr ⟨_, sqT⟩, y, l, n, ms, rfl, SyT, .inr ⟨⟨_, sqT⟩, _, rfl, iteF ?_⟩⟩
        refine ⟨3, rfl, by decide, by decide, ?_⟩
        refine for_range (lo := 0) (n := 3) (fun j σ H' => Stp p HT H' ∧ ∃ u : Option V, σ = [some (.ref a), some (.ref p), some (.int (0 + (i : Int))), some (.int (n : Int)), some (.ref l), some (.ref y), some (.ref l2), u]) ⟨Stp.refl hHT, u6, rfl⟩ ?_ ?_
        · rintro j σ H' hj ⟨SJ, u, rfl⟩
          exact ⟨_, rfl, _, rfl, _, rfl, _, rfl, p, l, y, n, ms, rfl, SJ.hand, SJ.mvs hHT hMT, SJ.sys hHT SyT, ok, fun H'' S'' => ⟨_, rfl, iteF ⟨SJ.trans S'', _, rfl⟩⟩⟩
        · rintro σ H' ⟨SJ, u, rfl⟩
          exact ⟨SJ.hand, _, _, _, _, _, _, rfl⟩
    · rintro σ H' ⟨_, u1, u2, u3, u4, u5, u6, rfl⟩
      exact k H'
end
end Law
set_option maxHeartbeats 0
namespace Law
open PySem PySem.Spec PyProof.Rows L2
theorem ba3 {a b : Bool} (h : (a && b) = true) : a = true ∧ b = true := Bool.and_eq_true_iff.mp h
theorem optT_ok {o : Option Bool} (h : optT o = true) : o = some true := by
  cases o with
  | none => cases h
  | some b =>
    cases b with
    | true => rfl
    | false => cases h
section
variable {P : Program} {w : World} {K : PySem.W.Frag} {h : Heap} {mg : Str → Option Value} {base : Heap}
theorem facts {f : Addr} (tr : P.given.tree = none) (X : K.In h) (G : h.Ns mainGlobals mg) (hfa : mg ("law" : Str) = some (.ref f)) (c : He.SaysD fas fns K) (e : exK K = true) :
    ∃ fd : FuncData, (∀ (s : Shared) (v : Value), BindsTo s fd ⟨[v], []⟩ [("_law_script", v)]) ∧ ∀ base : Heap, K.In base → base.Ns mainGlobals mg → FnOk P w K mg base CX0 38 f fd ["_law_script"] (spLaw K) := by
  have eL := hfa.symm.trans (He.glo_ok X G (c.fact 32 (f := .glo "law") rfl))
  cases eL
  obtain ⟨e1, e2⟩ := ba3 e
  obtain ⟨e5, e6⟩ := ba3 e2
  obtain ⟨e6, e7⟩ := ba3 e6
  obtain ⟨e7, e8⟩ := ba3 e7
  obtain ⟨x1, x2⟩ := ba3 e5
  obtain ⟨x2, x3⟩ := ba3 x2
  obtain ⟨x3, x4⟩ := ba3 x3
  obtain ⟨y1, y2⟩ := ba3 e1
  have T1 : Nm mg := ⟨He.free_ok X G (c.fact 41 (f := .free "len") rfl), He.free_ok X G (c.fact 39 (f := .free "int") rfl), He.free_ok X G (c.fact 34 (f := .free "abs") rfl)⟩
  have T2 : Nm2 mg := ⟨He.free_ok X G (c.fact 40 (f := .free "isinstance") rfl), He.free_ok X G (c.fact 39 (f := .free "int") rfl), He.free_ok X G (c.fact 37 (f := .free "bool") rfl), He.free_ok X G (c.fact 47 (f := .free "tuple") rfl), He.free_ok X G (c.fact 41 (f := .free "len") rfl), He.free_ok X G (c.fact 35 (f := .free "all") rfl), He.free_ok X G (c.fact 46 (f := .free "sum") rfl), He.free_ok X G (c.fact 38 (f := .free "enumerate") rfl), PySem.W.mg_of X G (He.eqO_ok y1), PySem.W.mg_of X G (He.eqO_ok y2)⟩
  have T3 : Nm3 mg := ⟨He.free_ok X G (c.fact 43 (f := .free "range") rfl), He.free_ok X G (c.fact 46 (f := .free "sum") rfl), He.free_ok X G (c.fact 42 (f := .free "list") rfl), He.free_ok X G (c.fact 47 (f := .free "tuple") rfl), He.free_ok X G (c.fact 41 (f := .free "len") rfl), He.free_ok X G (c.fact 39 (f := .free "int") rfl), He.free_ok X G (c.fact 44 (f := .free "set") rfl), He.free_ok X G (c.fact 45 (f := .free "sorted") rfl), He.free_ok X G (c.fact 36 (f := .free "any") rfl), He.free_ok X G (c.fact 40 (f := .free "isinstance") rfl), He.free_ok X G (c.fact 37 (f := .free "bool") rfl)⟩
  have LG : Lg P K := ⟨e6, tr⟩
  have Y : SysT K mg (He.ga K "System") := ⟨He.cls_ok (c.fact 48 (f := .cls "System") rfl), He.noat_ok (c.fact 49 (f := .noat "System" "many") rfl), He.noat_ok (c.fact 50 (f := .noat "System" "moves") rfl), He.glo_ok X G (c.fact 12 (f := .glo "System") rfl),
    He.eqO_ok x1, He.eqO_ok x2, optT_ok x3, optT_ok x4⟩
  obtain ⟨fdii, Fii⟩ := c.def_ 0 rfl
  have FDii := Fii
  have Fii := funD_fun (st := s_is_integer) Fii
  have Bii := Fii.binds (ps := ["thing"]) fun _ _ _ _ _ _ us hl => match us, hl with | [_], _ => rfl
  have Mii := He.glo_ok X G (c.fact 0 (f := .glo "is_integer") rfl)
  obtain ⟨fdiw, Fiw⟩ := c.def_ 1 rfl
  have FDiw := Fiw
  have Fiw := funD_fun (st := s_is_within) Fiw
  have Biw := Fiw.binds (ps := ["low", "high", "thing"]) fun _ _ _ _ _ _ us hl => match us, hl with | [_, _, _], _ => rfl
  have Miw := He.glo_ok X G (c.fact 1 (f := .glo "is_within") rfl)
  obtain ⟨fdrb, Frb⟩ := c.def_ 2 rfl
  have FDrb := Frb
  have Frb := funD_fun (st := s_is_row_below) Frb
  have Brb := Frb.binds (ps := ["bound", "thing"]) fun _ _ _ _ _ _ us hl => match us, hl with | [_, _], _ => rfl
  have Mrb := He.glo_ok X G (c.fact 2 (f := .glo "is_row_below") rfl)
  obtain ⟨fdfr, Ffr⟩ := c.def_ 3 rfl
  have FDfr := Ffr
  have Ffr := funD_fun (st := s_is_fraction) Ffr
  have Bfr := Ffr.binds (ps := ["thing"]) fun _ _ _ _ _ _ us hl => match us, hl with | [_], _ => rfl
  have Mfr := He.glo_ok X G (c.fact 3 (f := .glo "is_fraction") rfl)
  obtain ⟨fdfn, Ffn⟩ := c.def_ 4 rfl
  have FDfn := Ffn
  have Ffn := funD_fun (st := s_fraction) Ffn
  have Bfn := Ffn.binds (ps := ["top", "bottom"]) fun _ _ _ _ _ _ us hl => match us, hl with | [_, _], _ => rfl
  have Mfn := He.glo_ok X G (c.fact 4 (f := .glo "fraction") rfl)
  obtain ⟨fdcb, Fcb⟩ := c.def_ 5 rfl
  have FDcb := Fcb
  have Fcb := funD_fun (st := s_common_bottom) Fcb
  have Bcb := Fcb.binds (ps := ["fractions"]) fun _ _ _ _ _ _ us hl => match us, hl with | [_], _ => rfl
  have Mcb := He.glo_ok X G (c.fact 5 (f := .glo "common_bottom") rfl)
  obtain ⟨fdto, Fto⟩ := c.def_ 6 rfl
  have FDto := Fto
  have Fto := funD_fun (st := s_tops_over) Fto
  have Bto := Fto.binds (ps := ["fractions", "bottom"]) fun _ _ _ _ _ _ us hl => match us, hl with | [_, _], _ => rfl
  have Mto := He.glo_ok X G (c.fact 6 (f := .glo "tops_over") rfl)
  obtain ⟨fdao, Fao⟩ := c.def_ 7 rfl
  have FDao := Fao
  have Fao := funD_fun (st := s_are_one_together) Fao
  have Bao := Fao.binds (ps := ["fractions"]) fun _ _ _ _ _ _ us hl => match us, hl with | [_], _ => rfl
  have Mao := He.glo_ok X G (c.fact 7 (f := .glo "are_one_together") rfl)
  obtain ⟨fdmv, Fmv⟩ := c.def_ 13 rfl
  have FDmv := Fmv
  have Fmv := funD_fun (st := s_is_move) Fmv
  have Bmv := Fmv.binds (ps := ["many", "thing"]) fun _ _ _ _ _ _ us hl => match us, hl with | [_, _], _ => rfl
  have Mmv := He.glo_ok X G (c.fact 13 (f := .glo "is_move") rfl)
  obtain ⟨fdir, Fir⟩ := c.def_ 14 rfl
  have FDir := Fir
  have Fir := funD_fun (st := s_is_row) Fir
  have Bir := Fir.binds (ps := ["system", "thing"]) fun _ _ _ _ _ _ us hl => match us, hl with | [_, _], _ => rfl
  have Mir := He.glo_ok X G (c.fact 14 (f := .glo "is_row") rfl)
  obtain ⟨fdld, Fld⟩ := c.def_ 15 rfl
  have FDld := Fld
  have Fld := funD_fun (st := s_led) Fld
  have Bld := Fld.binds (ps := ["system", "row", "state"]) fun _ _ _ _ _ _ us hl => match us, hl with | [_, _, _], _ => rfl
  have Mld := He.glo_ok X G (c.fact 15 (f := .glo "led") rfl)
  obtain ⟨fdal, Fal⟩ := c.def_ 16 rfl
  have FDal := Fal
  have Fal := funD_fun (st := s_led_all) Fal
  have Bal := Fal.binds (ps := ["system", "row"]) fun _ _ _ _ _ _ us hl => match us, hl with | [_, _], _ => rfl
  have Mal := He.glo_ok X G (c.fact 16 (f := .glo "led_all") rfl)
  obtain ⟨fdlo, Flo⟩ := c.def_ 17 rfl
  have FDlo := Flo
  have Flo := funD_fun (st := s_lot_behind) Flo
  have Blo := Flo.binds (ps := ["system", "row"]) fun _ _ _ _ _ _ us hl => match us, hl with | [_, _], _ => rfl
  have Mlo := He.glo_ok X G (c.fact 17 (f := .glo "lot_behind") rfl)
  obtain ⟨fdso, Fso⟩ := c.def_ 18 rfl
  have FDso := Fso
  have Fso := funD_fun (st := s_share_of) Fso
  have Bso := Fso.binds (ps := ["system", "row"]) fun _ _ _ _ _ _ us hl => match us, hl with | [_, _], _ => rfl
  have Mso := He.glo_ok X G (c.fact 18 (f := .glo "share_of") rfl)
  obtain ⟨fdha, Fha⟩ := c.def_ 19 rfl
  have FDha := Fha
  have Fha := funD_fun (st := s_law_hand) Fha
  have Bha := Fha.binds (ps := ["_law_script"]) fun _ _ _ _ _ _ us hl => match us, hl with | [_], _ => rfl
  have Mha := He.glo_ok X G (c.fact 19 (f := .glo "_law_hand") rfl)
  obtain ⟨fddr, Fdr⟩ := c.def_ 20 rfl
  have FDdr := Fdr
  have Fdr := funD_fun (st := s_law_draw) Fdr
  have Bdr := Fdr.binds (ps := ["_law_hand_here", "_law_many"]) fun _ _ _ _ _ _ us hl => match us, hl with | [_, _], _ => rfl
  have Mdr := He.glo_ok X G (c.fact 20 (f := .glo "_law_draw") rfl)
  obtain ⟨fdan, Fan⟩ := c.def_ 21 rfl
  have FDan := Fan
  have Fan := funD_fun (st := s_law_any) Fan
  have Ban := Fan.binds (ps := ["_law_hand_here", "_law_things"]) fun _ _ _ _ _ _ us hl => match us, hl with | [_, _], _ => rfl
  have Man := He.glo_ok X G (c.fact 21 (f := .glo "_law_any") rfl)
  obtain ⟨fdlw, Flw⟩ := c.def_ 22 rfl
  have FDlw := Flw
  have Flw := funD_fun (st := s_law_low) Flw
  have Blw := Flw.binds (ps := ["_law_top", "_law_bottom"]) fun _ _ _ _ _ _ us hl => match us, hl with | [_, _], _ => rfl
  have Mlw := He.glo_ok X G (c.fact 22 (f := .glo "_law_low") rfl)
  obtain ⟨fdtm, Ftm⟩ := c.def_ 23 rfl
  have FDtm := Ftm
  have Ftm := funD_fun (st := s_law_times) Ftm
  have Btm := Ftm.binds (ps := ["_law_one", "_law_other"]) fun _ _ _ _ _ _ us hl => match us, hl with | [_, _], _ => rfl
  have Mtm := He.glo_ok X G (c.fact 23 (f := .glo "_law_times") rfl)
  obtain ⟨fdsh, Fsh⟩ := c.def_ 24 rfl
  have FDsh := Fsh
  have Fsh := funD_fun (st := s_law_shares) Fsh
  have Bsh := Fsh.binds (ps := ["_law_hand_here", "_law_many"]) fun _ _ _ _ _ _ us hl => match us, hl with | [_, _], _ => rfl
  have Msh := He.glo_ok X G (c.fact 24 (f := .glo "_law_shares") rfl)
  obtain ⟨fdle, Fle⟩ := c.def_ 25 rfl
  have FDle := Fle
  have Fle := funD_fun (st := s_law_leads) Fle
  have Ble := Fle.binds (ps := ["_law_hand_here", "_law_many"]) fun _ _ _ _ _ _ us hl => match us, hl with | [_, _], _ => rfl
  have Mle := He.glo_ok X G (c.fact 25 (f := .glo "_law_leads") rfl)
  obtain ⟨fdmo, Fmo⟩ := c.def_ 26 rfl
  have FDmo := Fmo
  have Fmo := funD_fun (st := s_law_moves) Fmo
  have Bmo := Fmo.binds (ps := ["_law_hand_here", "_law_many", "_law_most"]) fun _ _ _ _ _ _ us hl => match us, hl with | [_, _, _], _ => rfl
  have Mmo := He.glo_ok X G (c.fact 26 (f := .glo "_law_moves") rfl)
  obtain ⟨fdsz, Fsz⟩ := c.def_ 27 rfl
  have FDsz := Fsz
  have Fsz := funD_fun (st := s_law_size) Fsz
  have Bsz := Fsz.binds (ps := ["_law_hand_here"]) fun _ _ _ _ _ _ us hl => match us, hl with | [_], _ => rfl
  have Msz := He.glo_ok X G (c.fact 27 (f := .glo "_law_size") rfl)
  obtain ⟨fdgo, Fgo⟩ := c.def_ 28 rfl
  have FDgo := Fgo
  have Fgo := funD_fun (st := s_law_gone) Fgo
  have Bgo := Fgo.binds (ps := ["_law_moves_here", "_law_row_here", "_law_state"]) fun _ _ _ _ _ _ us hl => match us, hl with | [_, _, _], _ => rfl
  have Mgo := He.glo_ok X G (c.fact 28 (f := .glo "_law_gone") rfl)
  obtain ⟨fdro, Fro⟩ := c.def_ 29 rfl
  have FDro := Fro
  have Fro := funD_fun (st := s_law_row) Fro
  have Bro := Fro.binds (ps := ["_law_hand_here", "_law_moves_here"]) fun _ _ _ _ _ _ us hl => match us, hl with | [_, _], _ => rfl
  have Mro := He.glo_ok X G (c.fact 29 (f := .glo "_law_row") rfl)
  obtain ⟨fdsl, Fsl⟩ := c.def_ 30 rfl
  have FDsl := Fsl
  have Fsl := funD_fun (st := s_law_share) Fsl
  have Bsl := Fsl.binds (ps := ["_law_moves_here", "_law_row_here"]) fun _ _ _ _ _ _ us hl => match us, hl with | [_, _], _ => rfl
  have Msl := He.glo_ok X G (c.fact 30 (f := .glo "_law_share") rfl)
  obtain ⟨fdri, Fri⟩ := c.def_ 31 rfl
  have FDri := Fri
  have Fri := funD_fun (st := s_law_is_right) Fri
  have Bri := Fri.binds (ps := ["_law_hand_here", "_law_many", "_law_moves_here", "_law_system"]) fun _ _ _ _ _ _ us hl => match us, hl with | [_, _, _, _], _ => rfl
  have Mri := He.glo_ok X G (c.fact 31 (f := .glo "_law_is_right") rfl)
  obtain ⟨fdla, Fla⟩ := c.def_ 32 rfl
  have FDla := Fla
  have Fla := funD_fun (st := s_law) Fla
  have Bla := Fla.binds (ps := ["_law_script"]) fun _ _ _ _ _ _ us hl => match us, hl with | [_], _ => rfl
  have Mla := He.glo_ok X G (c.fact 32 (f := .glo "law") rfl)
  obtain ⟨fdsi, Fsi⟩ := c.def_ 11 rfl
  have FDsi := Fsi
  have Fsi := funD_fun (st := s_System_init) Fsi
  have Bsi := Fsi.binds (ps := ["self", "many", "moves"]) fun _ _ _ _ _ _ us hl => match us, hl with | [_, _, _], _ => rfl
  obtain ⟨fdse, Fse⟩ := c.def_ 12 rfl
  have FDse := Fse
  have Fse := funD_fun (st := s_System_eq) Fse
  have Bse := Fse.binds (ps := ["self", "other"]) fun _ _ _ _ _ _ us hl => match us, hl with | [_, _], _ => rfl
  have MK := He.mkr_ok (c.fact 51 (f := .mkr "System") rfl)
  have ME := He.meth_ok (c.fact 52 (f := .meth "System" "__eq__") rfl)
  have bla := FunD.bindsA (ps := ["_law_script"]) FDla fun _ _ _ _ _ _ us hl => match us, hl with | [_], _ => rfl
  refine ⟨fdla, fun s v => bla s [v] rfl, fun base KB GB => ?_⟩
  have cii : Cl P w K mg base CX0 1 "is_integer" _ fdii ["thing"] (spIsInt K) := ⟨ok_isint Fii T2, Bii, Mii, Fii.kp⟩
  have ciw : Cl P w K mg base CX0 2 "is_within" _ fdiw ["low", "high", "thing"] (spWithin K) := ⟨ok_within Fiw cii, Biw, Miw, Fiw.kp⟩
  have crb : Cl P w K mg base CX0 3 "is_row_below" _ fdrb ["bound", "thing"] (spRowB K) := ⟨ok_rowb Frb T2 ciw, Brb, Mrb, Frb.kp⟩
  have cfr : Cl P w K mg base CX0 2 "is_fraction" _ fdfr ["thing"] (spFrac K) := ⟨ok_frac Ffr T2 cii, Bfr, Mfr, Ffr.kp⟩
  have cfn : Cl P w K mg base CX0 34 "fraction" _ fdfn ["top", "bottom"] spLow := ⟨ok_fraction Ffn T2 LG, Bfn, Mfn, Ffn.kp⟩
  have ccb : Cl P w K mg base CX0 1 "common_bottom" _ fdcb ["fractions"] (spComB K) := ⟨ok_comb Fcb T2, Bcb, Mcb, Fcb.kp⟩
  have cto : Cl P w K mg base CX0 1 "tops_over" _ fdto ["fractions", "bottom"] (spTops K) := ⟨ok_tops Fto, Bto, Mto, Fto.kp⟩
  have cao : Cl P w K mg base CX0 2 "are_one_together" _ fdao ["fractions"] (spOne K) := ⟨ok_one Fao T2 ccb cto, Bao, Mao, Fao.kp⟩
  have cmv : Cl P w K mg base CX0 4 "is_move" _ fdmv ["many", "thing"] (spMove K) := ⟨ok_move Fmv T2 cfr crb, Bmv, Mmv, Fmv.kp⟩
  have cir : Cl P w K mg base CX0 4 "is_row" _ fdir ["system", "thing"] (spIsRow K (He.ga K "System")) := ⟨ok_isrow Fir T3 Y crb, Bir, Mir, Fir.kp⟩
  have cld : Cl P w K mg base CX0 5 "led" _ fdld ["system", "row", "state"] (spLed K (He.ga K "System")) := ⟨ok_led Fld Y cir ciw, Bld, Mld, Fld.kp⟩
  have cal : Cl P w K mg base CX0 6 "led_all" _ fdal ["system", "row"] (spAll K (He.ga K "System")) := ⟨ok_all Fal T3 Y cir cld, Bal, Mal, Fal.kp⟩
  have clo : Cl P w K mg base CX0 7 "lot_behind" _ fdlo ["system", "row"] (spLot K (He.ga K "System")) := ⟨ok_lot Flo T3 cal, Blo, Mlo, Flo.kp⟩
  have cso : Cl P w K mg base CX0 35 "share_of" _ fdso ["system", "row"] (spShareOf K (He.ga K "System")) := ⟨ok_shareof Fso Y cir cfn, Bso, Mso, Fso.kp⟩
  have cha : Cl P w K mg base CX0 1 "_law_hand" _ fdha ["_law_script"] (spHand K) := ⟨ok_hand Fha T1, Bha, Mha, Fha.kp⟩
  have cdr : Cl P w K mg base CX0 1 "_law_draw" _ fddr ["_law_hand_here", "_law_many"] spDraw := ⟨ok_draw Fdr T1, Bdr, Mdr, Fdr.kp⟩
  have can : Cl P w K mg base CX0 2 "_law_any" _ fdan ["_law_hand_here", "_law_things"] (spAny K) := ⟨ok_any Fan T1 cdr, Ban, Man, Fan.kp⟩
  have clw : Cl P w K mg base CX0 34 "_law_low" _ fdlw ["_law_top", "_law_bottom"] spLow := ⟨ok_low Flw T1 LG, Blw, Mlw, Flw.kp⟩
  have ctm : Cl P w K mg base CX0 35 "_law_times" _ fdtm ["_law_one", "_law_other"] (spTimes K) := ⟨ok_times Ftm clw, Btm, Mtm, Ftm.kp⟩
  have csh : Cl P w K mg base CX0 35 "_law_shares" _ fdsh ["_law_hand_here", "_law_many"] (spShares K) := ⟨ok_shares Fsh T3 cdr can clw, Bsh, Msh, Fsh.kp⟩
  have cle : Cl P w K mg base CX0 3 "_law_leads" _ fdle ["_law_hand_here", "_law_many"] (spLeads K) := ⟨ok_leads Fle T3 cdr can, Ble, Mle, Fle.kp⟩
  have cmo : Cl P w K mg base CX0 36 "_law_moves" _ fdmo ["_law_hand_here", "_law_many", "_law_most"] (spMoves K) := ⟨ok_moves Fmo T3 cdr csh cle, Bmo, Mmo, Fmo.kp⟩
  have csz : Cl P w K mg base CX0 3 "_law_size" _ fdsz ["_law_hand_here"] spSize := ⟨ok_size Fsz cdr can, Bsz, Msz, Fsz.kp⟩
  have cgo : Cl P w K mg base CX0 1 "_law_gone" _ fdgo ["_law_moves_here", "_law_row_here", "_law_state"] (spGone K) := ⟨ok_gone Fgo, Bgo, Mgo, Fgo.kp⟩
  have cro : Cl P w K mg base CX0 3 "_law_row" _ fdro ["_law_hand_here", "_law_moves_here"] (spRow K) := ⟨ok_row Fro T3 cdr can, Bro, Mro, Fro.kp⟩
  have csl : Cl P w K mg base CX0 35 "_law_share" _ fdsl ["_law_moves_here", "_law_row_here"] (spShareL K) := ⟨ok_shareL Fsl T3 clw, Bsl, Msl, Fsl.kp⟩
  have cri : Cl P w K mg base CX0 36 "_law_is_right" _ fdri ["_law_hand_here", "_law_many", "_law_moves_here", "_law_system"] (spRight K (He.ga K "System")) := ⟨ok_right Fri T3 ⟨⟨_, _, cro⟩, ⟨_, _, cgo⟩, ⟨_, _, csl⟩, ⟨_, _, ctm⟩, ⟨_, _, cal⟩, ⟨_, _, clo⟩, ⟨_, _, cld⟩, ⟨_, _, cso⟩⟩, Bri, Mri, Fri.kp⟩
  exact ok_law Fla T3 ⟨Y, ⟨_, fdha, cha⟩, ⟨_, fddr, cdr⟩, ⟨_, fdsz, csz⟩, ⟨_, fdmo, cmo⟩, ⟨_, fdri, cri⟩, ⟨_, fdsi, MK, ok_sinit Fsi T2 Y ciw cmv cao, Bsi⟩,
    ⟨_, fdse, ok_seq2 Fse T2 Y (of_decide_eq_true e7), ME.at_, ME.fn, Bse⟩, e8⟩
end
end Law
open PySem PySem.W PySem.Calls PyProof.Rows
theorem PySem.Challenge.cw_asifforever_k01_whole_rows_led_holds : PySem.Challenge.rw_asifforever_k01_whole_rows_led.Holds := by
  w_on; o_law
  refine HandSHeadRun.head_imp (r := OpenLaw.row PySem.Challenge.rw_asifforever_k01_whole_rows_led) (q := view (OpenLaw.row PySem.Challenge.rw_asifforever_k01_whole_rows_led).prog [0, 37]) (H := Law.hk) (ob := Law.ob) (M := 13000) (loose := Law.names) (d := HandSHeadRun.topDef (OpenLaw.row PySem.Challenge.rw_asifforever_k01_whole_rows_led).prog 37) (kwd := []) Law.ob_eq
    Law.run (by kernel_rfl) (by kernel_rfl) (by kernel_rfl) (by rfl) (by first | assumption | decide +kernel) (by decide +kernel) ⟨rfl, rfl, rfl, rfl, rfl, by decide +kernel⟩ ?hw ?hc
  case hw => w_witness2
  case hc =>
    refine L2.walk_ofE (l := PySem.Challenge.rw_asifforever_k01_whole_rows_led) (n := 63) (k := 38) (x := "_law_script") (CX := L2.CX0) rfl (by decide) (by kernel_rfl) ⟨rfl, by decide, by decide⟩ ?F (fun _ _ _ _ z => z)
    intro w mg fa h Y G hmg0
    obtain ⟨K, KX, c, e⟩ := Y
    have hmg : mg ("law" : PySem.Str) = some (.ref fa) := by
      have e : (HandSHeadRun.topDef (OpenLaw.row PySem.Challenge.rw_asifforever_k01_whole_rows_led).prog 37).name = ("law" : PySem.Str) := by kernel_rfl
      rw [← e]
      exact hmg0
    obtain ⟨fd, hb, hF⟩ := Law.facts (P := (PySem.Challenge.rw_asifforever_k01_whole_rows_led).prog) (w := w) (by rfl) KX G hmg c e
    exact ⟨K, fd, Law.spLaw K, KX, hb, fun H a ns hl _ hS => ⟨a, ns, rfl, hS, hl, fun _ => rfl⟩, hF⟩

