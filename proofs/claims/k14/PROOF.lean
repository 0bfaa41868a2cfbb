import PyProof.Rows.All
import Wide.All
import OpenK.AllK
import Wide.FinOn
import KE.KExcIs
import HandS.ForMost
import HandS.Evl
import HandS.IsInst
import HandS.ExcInit
import HandS.ExcIs
import HandS.DeepEq
import HandS.OwnEq
import HandS.SetFor
import KE.GoesMore
import PyProof.Draws
import HandS.Walk
import HandS.Wide
import HandS.Gcd
import KE.KStateDown
import HandS.Defaults
import HandS.Head0
import HandS.Head1
import HandS.Head2
import HandS.Head3
import HandS.HeadEnd
import HandS.HeadHook1
import HandS.HeadHook2
import PyProof.NoPylong
import HandS.Conv
import HandS.TupMul
import HandS.TupAny
import HandS.Strs
import HandS.List
import HandS.Style
import PySem.Challenge.RW_asifforever_k14_whole_drawers_texts_and
import HandS.StrMore
import HandS.WordsExc
set_option Elab.async false
set_option linter.all false
set_option maxRecDepth 100000
set_option maxHeartbeats 4000000
set_option exponentiation.threshold 200000
namespace Law
open PySem L2
def top (i : Nat) : Stmt := PySem.Challenge.pw_asifforever_k14_whole_drawers_texts_and.main.body.getD i (.Pass ⟨0, 0, 0, 0⟩)
abbrev s_is_integer : Stmt := top 2
abbrev s_is_within : Stmt := top 3
abbrev s_is_row_below : Stmt := top 4
abbrev s_lot_of : Stmt := top 5
abbrev s_is_fraction : Stmt := top 6
abbrev s_common_bottom : Stmt := top 7
abbrev s_tops_over : Stmt := top 8
abbrev s_are_one_together : Stmt := top 9
abbrev s_number_of_text : Stmt := top 10
abbrev s_BadSystem_init : Stmt := inClass (top 13) 0
abbrev s_BadCoin_init : Stmt := inClass (top 14) 0
abbrev s_TooMany_init : Stmt := inClass (top 15) 0
abbrev s_NoCoins_init : Stmt := inClass (top 16) 0
abbrev s_NoPlan_init : Stmt := inClass (top 17) 0
abbrev s_NoMove_init : Stmt := inClass (top 18) 0
abbrev s_System_init : Stmt := inClass (top 20) 0
abbrev s_System_eq : Stmt := inClass (top 20) 1
abbrev s_is_move : Stmt := top 21
abbrev s_is_row : Stmt := top 22
abbrev s_is_plan : Stmt := top 24
abbrev s_looks : Stmt := top 25
abbrev s_led_ahead : Stmt := top 26
abbrev s_led_by_plan : Stmt := top 27
abbrev s_drawn : Stmt := top 28
abbrev s_Drawer_init : Stmt := inClass (top 29) 0
abbrev s_Drawer_read : Stmt := inClass (top 29) 1
abbrev s_Drawer_state : Stmt := inClass (top 29) 2
abbrev s_Drawer_depth : Stmt := inClass (top 29) 3
abbrev s_Drawer_lot : Stmt := inClass (top 29) 4
abbrev s_Drawer_coins : Stmt := inClass (top 29) 5
abbrev s_Drawer_copy : Stmt := inClass (top 29) 6
abbrev s_drawer_text : Stmt := top 30
abbrev s_drawer_of : Stmt := top 31
abbrev s_is_drawn : Stmt := top 32
abbrev s_law_hand : Stmt := top 34
abbrev s_law_draw : Stmt := top 35
abbrev s_law_any : Stmt := top 36
abbrev s_law_low : Stmt := top 37
abbrev s_law_leads : Stmt := top 38
abbrev s_law_world : Stmt := top 39
abbrev s_law_made : Stmt := top 40
abbrev s_law_behind : Stmt := top 41
abbrev s_law_lot : Stmt := top 42
abbrev s_law_drawn : Stmt := top 43
abbrev s_law_late : Stmt := top 44
abbrev s_law_stands : Stmt := top 45
abbrev s_law_first_wrong : Stmt := top 46
abbrev s_law_bent : Stmt := top 47
abbrev s_law_read : Stmt := top 48
abbrev s_law_is_read : Stmt := top 49
abbrev s_law_is_due : Stmt := top 50
abbrev s_law_tells : Stmt := top 51
abbrev s_law_are_judged : Stmt := top 52
abbrev s_law : Stmt := top 53
end Law
namespace Law
open PySem PySem.Spec PyProof.Rows L2
/-! ### the head's Hook: facts of K by names, and one more Bool -/
abbrev AlM : Type := He.AlD × Bool
def obsM (n : Nat) (fa : List He.Fa) (fn : List He.DefD) (ex : PySem.W.Frag → Bool) (g : Addr → Option Obj) : AlM := (He.obsD fa fn (He.frG g (He.asD g n)), ex (He.frG g (He.asD g n)))
def hookM (n : Nat) (fa : List He.Fa) (fn : List He.DefD) (ex : PySem.W.Frag → Bool) : PySem.W.Hook where
  α := AlM
  obs := fun s => obsM n fa fn ex s.heap.get?
  val := fun _ => (He.valD fn, true)
  says := fun _ h => ∃ K : PySem.W.Frag, K.In h ∧ He.SaysD fa fn K ∧ ex K = true
  of := fun _ _ e => ⟨_, He.frG_in, congrArg (fun z : AlM => z.1) e, congrArg (fun z : AlM => z.2) e⟩
  keeps := fun _ _ _ ⟨K, hK, c⟩ k => ⟨K, PySem.W.Frag.In.keeps hK k, c⟩
theorem obsM_eq {n : Nat} {fa : List He.Fa} {fn : List He.DefD} {ex : PySem.W.Frag → Bool} {g : Addr → Option Obj} {s : Shared} (h : ∀ a, g a = s.heap.get? a) : obsM n fa fn ex g = (hookM n fa fn ex).obs s := by
  have e : g = s.heap.get? := funext h
  rw [e] <;> rfl
theorem funD_fun {K : PySem.W.Frag} {x qual : Str} {st : Stmt} {f : Addr} {fd : FuncData} (F : FunD K x qual (defArgs st) (defBody st) (defScope st) [] [] f fd) : Fun K x qual st f fd := by
  obtain ⟨⟨oc, od, dV, kV, doc, pm, an, cdv, ct, osl, h1, h2, h3, h4, _⟩, kp⟩ := F
  rcases h4 with ⟨_, rfl⟩ | ⟨h, _⟩
  · exact ⟨⟨oc, od, kV, doc, pm, an, cdv, ct, osl, h1, h2, h3⟩, kp⟩
  · exact absurd rfl h
end Law
namespace Law
open PySem PySem.Spec PyProof.Rows L2
/-! ### facts of the classes, as Bools of K -/
def clsB (K : PySem.W.Frag) (C : Addr) : Bool := match K.lookup C with
  | some ⟨.type "type", _, .cls cd, sl⟩ => (match cd.mro, sl.toList with
    | .ref C' :: bm, [_, _, _, _, some (.builtin n), _] => decide (C' = C) && (decide (n = "ValueError.__new__") && (!cd.hasDel && (cd.hasDict && PySem.HandSPX.refsVE bm)))
    | _, _ => false)
  | _ => false
def optT (o : Option Bool) : Bool := match o with
  | some b => b
  | none => false
def exvB (K : PySem.W.Frag) (C : Addr) : Bool :=
  clsB K C && (He.eqO (PySem.W.findIn K (.ref C) "__setattr__") (some (some (.builtin "object.__setattr__"))) && (optT (PySem.W.subIn K (.ref C) (.type "BaseException")) && (decide (PySem.W.typeIn K (.ref C) = some (.type "type")) && (PySem.W.keepIn K (.ref C) &&
  ((PySem.W.clsIn K C).isSome && (He.eqO (PySem.W.findIn K (.ref C) "__getattribute__") (some (some (.builtin "BaseException.__getattribute__"))) && (He.eqO (PySem.W.findIn K (.ref C) "__getattr__") (some none) && (He.eqO (PySem.W.findIn K (.ref C) "__class__") (some (some (.builtin "object.__class__"))) &&
  (He.eqO (PySem.W.specialIn K (.builtin "object.__class__") "__get__") (some (some (.builtin "getset_descriptor.__get__"))) && (optT (PySem.W.takesIn K (.builtin "object.__class__")) && (optT (PySem.W.mroIn K C (.type "object")) && PySem.W.hasDictIn K C)))))))))))
def iniB (K : PySem.W.Frag) (C : Addr) : Bool := He.eqO (PySem.W.findIn K (.ref C) "__init__") (some (some (.ref (He.ma K C "__init__")))) && decide (PySem.W.typeIn K (.ref (He.ma K C "__init__")) = some (.type "function"))
def mroB (K : PySem.W.Frag) (C D : Addr) : Bool := decide ((PySem.W.clsIn K C).map (·.mro) = some [.ref C, .ref D, .type "ValueError", .type "Exception", .type "BaseException", .type "object"])
/-- an own plain class's instances are asked for their class as usual -/
def insB (K : PySem.W.Frag) (C : Addr) : Bool := He.eqO (PySem.W.findIn K (.ref C) "__class__") (some (some (.builtin "object.__class__"))) && (He.eqO (PySem.W.specialIn K (.builtin "object.__class__") "__get__") (some (some (.builtin "getset_descriptor.__get__"))) && (optT (PySem.W.takesIn K (.builtin "object.__class__")) && optT (PySem.W.mroIn K C (.type "object"))))
def gclB (K : PySem.W.Frag) : Bool := He.eqO (PySem.W.nsIn K mainGlobals "gcd") (some (some (.builtin "math.gcd"))) && He.eqO (PySem.W.nsIn K mainGlobals "lcm") (some (some (.builtin "math.lcm")))
def exK (K : PySem.W.Frag) : Bool := gclB K && ((insB K (He.ga K "System") && insB K (He.ga K "Drawer")) && (exvB K (He.ga K "BadCoin") && (mroB K (He.ga K "BadCoin") (He.ga K "DrawError") && (iniB K (He.ga K "BadCoin") && decide (PySem.W.kitOne K (.ref (He.ga K "System")) (.type "tuple") = some false)))))
end Law
set_option maxHeartbeats 0
namespace Law
open PySem PySem.Spec PyProof.Rows L2
def fns : List He.DefD := [
  ⟨("is_integer", none), "is_integer", "is_integer", defArgs s_is_integer, defBody s_is_integer, defScope s_is_integer, [], []⟩,
  ⟨("is_within", none), "is_within", "is_within", defArgs s_is_within, defBody s_is_within, defScope s_is_within, [], []⟩,
  ⟨("is_row_below", none), "is_row_below", "is_row_below", defArgs s_is_row_below, defBody s_is_row_below, defScope s_is_row_below, [], []⟩,
  ⟨("lot_of", none), "lot_of", "lot_of", defArgs s_lot_of, defBody s_lot_of, defScope s_lot_of, [], []⟩,
  ⟨("is_fraction", none), "is_fraction", "is_fraction", defArgs s_is_fraction, defBody s_is_fraction, defScope s_is_fraction, [], []⟩,
  ⟨("common_bottom", none), "common_bottom", "common_bottom", defArgs s_common_bottom, defBody s_common_bottom, defScope s_common_bottom, [], []⟩,
  ⟨("tops_over", none), "tops_over", "tops_over", defArgs s_tops_over, defBody s_tops_over, defScope s_tops_over, [], []⟩,
  ⟨("are_one_together", none), "are_one_together", "are_one_together", defArgs s_are_one_together, defBody s_are_one_together, defScope s_are_one_together, [], []⟩,
  ⟨("number_of_text", none), "number_of_text", "number_of_text", defArgs s_number_of_text, defBody s_number_of_text, defScope s_number_of_text, [], []⟩,
  ⟨("BadSystem", some "__init__"), "__init__", "BadSystem.__init__", defArgs s_BadSystem_init, defBody s_BadSystem_init, defScope s_BadSystem_init, [], []⟩,
  ⟨("BadCoin", some "__init__"), "__init__", "BadCoin.__init__", defArgs s_BadCoin_init, defBody s_BadCoin_init, defScope s_BadCoin_init, [], []⟩,
  ⟨("TooMany", some "__init__"), "__init__", "TooMany.__init__", defArgs s_TooMany_init, defBody s_TooMany_init, defScope s_TooMany_init, [], []⟩,
  ⟨("NoCoins", some "__init__"), "__init__", "NoCoins.__init__", defArgs s_NoCoins_init, defBody s_NoCoins_init, defScope s_NoCoins_init, [], []⟩,
  ⟨("NoPlan", some "__init__"), "__init__", "NoPlan.__init__", defArgs s_NoPlan_init, defBody s_NoPlan_init, defScope s_NoPlan_init, [], []⟩,
  ⟨("NoMove", some "__init__"), "__init__", "NoMove.__init__", defArgs s_NoMove_init, defBody s_NoMove_init, defScope s_NoMove_init, [], []⟩,
  ⟨("System", some "__init__"), "__init__", "System.__init__", defArgs s_System_init, defBody s_System_init, defScope s_System_init, [], []⟩,
  ⟨("System", some "__eq__"), "__eq__", "System.__eq__", defArgs s_System_eq, defBody s_System_eq, defScope s_System_eq, [], []⟩,
  ⟨("is_move", none), "is_move", "is_move", defArgs s_is_move, defBody s_is_move, defScope s_is_move, [], []⟩,
  ⟨("is_row", none), "is_row", "is_row", defArgs s_is_row, defBody s_is_row, defScope s_is_row, [], []⟩,
  ⟨("is_plan", none), "is_plan", "is_plan", defArgs s_is_plan, defBody s_is_plan, defScope s_is_plan, [], []⟩,
  ⟨("looks", none), "looks", "looks", defArgs s_looks, defBody s_looks, defScope s_looks, [], []⟩,
  ⟨("led_ahead", none), "led_ahead", "led_ahead", defArgs s_led_ahead, defBody s_led_ahead, defScope s_led_ahead, [], []⟩,
  ⟨("led_by_plan", none), "led_by_plan", "led_by_plan", defArgs s_led_by_plan, defBody s_led_by_plan, defScope s_led_by_plan, [], []⟩,
  ⟨("drawn", none), "drawn", "drawn", defArgs s_drawn, defBody s_drawn, defScope s_drawn, [], []⟩,
  ⟨("Drawer", some "__init__"), "__init__", "Drawer.__init__", defArgs s_Drawer_init, defBody s_Drawer_init, defScope s_Drawer_init, [], []⟩,
  ⟨("Drawer", some "read"), "read", "Drawer.read", defArgs s_Drawer_read, defBody s_Drawer_read, defScope s_Drawer_read, [], []⟩,
  ⟨("Drawer", some "state"), "state", "Drawer.state", defArgs s_Drawer_state, defBody s_Drawer_state, defScope s_Drawer_state, [], []⟩,
  ⟨("Drawer", some "depth"), "depth", "Drawer.depth", defArgs s_Drawer_depth, defBody s_Drawer_depth, defScope s_Drawer_depth, [], []⟩,
  ⟨("Drawer", some "lot"), "lot", "Drawer.lot", defArgs s_Drawer_lot, defBody s_Drawer_lot, defScope s_Drawer_lot, [], []⟩,
  ⟨("Drawer", some "coins"), "coins", "Drawer.coins", defArgs s_Drawer_coins, defBody s_Drawer_coins, defScope s_Drawer_coins, [], []⟩,
  ⟨("Drawer", some "copy"), "copy", "Drawer.copy", defArgs s_Drawer_copy, defBody s_Drawer_copy, defScope s_Drawer_copy, [], []⟩,
  ⟨("drawer_text", none), "drawer_text", "drawer_text", defArgs s_drawer_text, defBody s_drawer_text, defScope s_drawer_text, [], []⟩,
  ⟨("drawer_of", none), "drawer_of", "drawer_of", defArgs s_drawer_of, defBody s_drawer_of, defScope s_drawer_of, [], []⟩,
  ⟨("is_drawn", none), "is_drawn", "is_drawn", defArgs s_is_drawn, defBody s_is_drawn, defScope s_is_drawn, [], []⟩,
  ⟨("_law_hand", none), "_law_hand", "_law_hand", defArgs s_law_hand, defBody s_law_hand, defScope s_law_hand, [], []⟩,
  ⟨("_law_draw", none), "_law_draw", "_law_draw", defArgs s_law_draw, defBody s_law_draw, defScope s_law_draw, [], []⟩,
  ⟨("_law_any", none), "_law_any", "_law_any", defArgs s_law_any, defBody s_law_any, defScope s_law_any, [], []⟩,
  ⟨("_law_low", none), "_law_low", "_law_low", defArgs s_law_low, defBody s_law_low, defScope s_law_low, [], []⟩,
  ⟨("_law_leads", none), "_law_leads", "_law_leads", defArgs s_law_leads, defBody s_law_leads, defScope s_law_leads, [], []⟩,
  ⟨("_law_world", none), "_law_world", "_law_world", defArgs s_law_world, defBody s_law_world, defScope s_law_world, [], []⟩,
  ⟨("_law_made", none), "_law_made", "_law_made", defArgs s_law_made, defBody s_law_made, defScope s_law_made, [], []⟩,
  ⟨("_law_behind", none), "_law_behind", "_law_behind", defArgs s_law_behind, defBody s_law_behind, defScope s_law_behind, [], []⟩,
  ⟨("_law_lot", none), "_law_lot", "_law_lot", defArgs s_law_lot, defBody s_law_lot, defScope s_law_lot, [], []⟩,
  ⟨("_law_drawn", none), "_law_drawn", "_law_drawn", defArgs s_law_drawn, defBody s_law_drawn, defScope s_law_drawn, [], []⟩,
  ⟨("_law_late", none), "_law_late", "_law_late", defArgs s_law_late, defBody s_law_late, defScope s_law_late, [], []⟩,
  ⟨("_law_stands", none), "_law_stands", "_law_stands", defArgs s_law_stands, defBody s_law_stands, defScope s_law_stands, [], []⟩,
  ⟨("_law_first_wrong", none), "_law_first_wrong", "_law_first_wrong", defArgs s_law_first_wrong, defBody s_law_first_wrong, defScope s_law_first_wrong, [], []⟩,
  ⟨("_law_bent", none), "_law_bent", "_law_bent", defArgs s_law_bent, defBody s_law_bent, defScope s_law_bent, [], []⟩,
  ⟨("_law_read", none), "_law_read", "_law_read", defArgs s_law_read, defBody s_law_read, defScope s_law_read, [], []⟩,
  ⟨("_law_is_read", none), "_law_is_read", "_law_is_read", defArgs s_law_is_read, defBody s_law_is_read, defScope s_law_is_read, [], []⟩,
  ⟨("_law_is_due", none), "_law_is_due", "_law_is_due", defArgs s_law_is_due, defBody s_law_is_due, defScope s_law_is_due, [], []⟩,
  ⟨("_law_tells", none), "_law_tells", "_law_tells", defArgs s_law_tells, defBody s_law_tells, defScope s_law_tells, [], []⟩,
  ⟨("_law_are_judged", none), "_law_are_judged", "_law_are_judged", defArgs s_law_are_judged, defBody s_law_are_judged, defScope s_law_are_judged, [], []⟩,
  ⟨("law", none), "law", "law", defArgs s_law, defBody s_law, defScope s_law, [], []⟩]
def fas : List He.Fa := [
  .glo "is_integer", .glo "is_within", .glo "is_row_below", .glo "lot_of", .glo "is_fraction", .glo "common_bottom", .glo "tops_over", .glo "are_one_together", .glo "number_of_text", .glo "DrawError", .glo "BadSystem", .glo "BadCoin", .glo "TooMany", .glo "NoCoins", .glo "NoPlan", .glo "NoMove", .glo "System", .glo "is_move", .glo "is_row", .glo "is_plan", .glo "looks", .glo "led_ahead", .glo "led_by_plan", .glo "drawn", .glo "Drawer", .glo "drawer_text", .glo "drawer_of", .glo "is_drawn", .glo "_law_hand", .glo "_law_draw", .glo "_law_any", .glo "_law_low", .glo "_law_leads", .glo "_law_world", .glo "_law_made", .glo "_law_behind", .glo "_law_lot", .glo "_law_drawn", .glo "_law_late", .glo "_law_stands", .glo "_law_first_wrong", .glo "_law_bent", .glo "_law_read", .glo "_law_is_read", .glo "_law_is_due", .glo "_law_tells", .glo "_law_are_judged", .glo "law", .free "ValueError", .free "abs", .free "all", .free "bool", .free "enumerate", .free "int", .free "isinstance", .free "len", .free "list", .free "range", .free "set", .free "sorted", .free "str", .free "sum", .free "tuple", .cls "System", .noat "System" "many", .noat "System" "moves", .mkr "System", .cls "Drawer", .noat "Drawer" "_system", .noat "Drawer" "_coins", .noat "Drawer" "_leads", .noat "Drawer" "_depth", .mkr "Drawer", .meth "Drawer" "read", .meth "Drawer" "state", .meth "Drawer" "depth", .meth "Drawer" "lot", .meth "Drawer" "coins", .meth "Drawer" "copy", .noat "BadCoin" "number", .exm "BadCoin" "DrawError" true]
-- defs: 0 is_integer, 1 is_within, 2 is_row_below, 3 lot_of, 4 is_fraction, 5 common_bottom, 6 tops_over, 7 are_one_together, 8 number_of_text, 9 BadSystem.__init__, 10 BadCoin.__init__, 11 TooMany.__init__, 12 NoCoins.__init__, 13 NoPlan.__init__, 14 NoMove.__init__, 15 System.__init__, 16 System.__eq__, 17 is_move, 18 is_row, 19 is_plan, 20 looks, 21 led_ahead, 22 led_by_plan, 23 drawn, 24 Drawer.__init__, 25 Drawer.read, 26 Drawer.state, 27 Drawer.depth, 28 Drawer.lot, 29 Drawer.coins, 30 Drawer.copy, 31 drawer_text, 32 drawer_of, 33 is_drawn, 34 _law_hand, 35 _law_draw, 36 _law_any, 37 _law_low, 38 _law_leads, 39 _law_world, 40 _law_made, 41 _law_behind, 42 _law_lot, 43 _law_drawn, 44 _law_late, 45 _law_stands, 46 _law_first_wrong, 47 _law_bent, 48 _law_read, 49 _law_is_read, 50 _law_is_due, 51 _law_tells, 52 _law_are_judged, 53 law
-- facts: 0 .glo "is_integer", 1 .glo "is_within", 2 .glo "is_row_below", 3 .glo "lot_of", 4 .glo "is_fraction", 5 .glo "common_bottom", 6 .glo "tops_over", 7 .glo "are_one_together", 8 .glo "number_of_text", 9 .glo "DrawError", 10 .glo "BadSystem", 11 .glo "BadCoin", 12 .glo "TooMany", 13 .glo "NoCoins", 14 .glo "NoPlan", 15 .glo "NoMove", 16 .glo "System", 17 .glo "is_move", 18 .glo "is_row", 19 .glo "is_plan", 20 .glo "looks", 21 .glo "led_ahead", 22 .glo "led_by_plan", 23 .glo "drawn", 24 .glo "Drawer", 25 .glo "drawer_text", 26 .glo "drawer_of", 27 .glo "is_drawn", 28 .glo "_law_hand", 29 .glo "_law_draw", 30 .glo "_law_any", 31 .glo "_law_low", 32 .glo "_law_leads", 33 .glo "_law_world", 34 .glo "_law_made", 35 .glo "_law_behind", 36 .glo "_law_lot", 37 .glo "_law_drawn", 38 .glo "_law_late", 39 .glo "_law_stands", 40 .glo "_law_first_wrong", 41 .glo "_law_bent", 42 .glo "_law_read", 43 .glo "_law_is_read", 44 .glo "_law_is_due", 45 .glo "_law_tells", 46 .glo "_law_are_judged", 47 .glo "law", 48 .free "ValueError", 49 .free "abs", 50 .free "all", 51 .free "bool", 52 .free "enumerate", 53 .free "int", 54 .free "isinstance", 55 .free "len", 56 .free "list", 57 .free "range", 58 .free "set", 59 .free "sorted", 60 .free "str", 61 .free "sum", 62 .free "tuple", 63 .cls "System", 64 .noat "System" "many", 65 .noat "System" "moves", 66 .mkr "System", 67 .cls "Drawer", 68 .noat "Drawer" "_system", 69 .noat "Drawer" "_coins", 70 .noat "Drawer" "_leads", 71 .noat "Drawer" "_depth", 72 .mkr "Drawer", 73 .meth "Drawer" "read", 74 .meth "Drawer" "state", 75 .meth "Drawer" "depth", 76 .meth "Drawer" "lot", 77 .meth "Drawer" "coins", 78 .meth "Drawer" "copy", 79 .noat "BadCoin" "number", 80 .exm "BadCoin" "DrawError" true
def names0 : List PySem.Str := ["is_integer", "is_within", "is_row_below", "lot_of", "is_fraction", "common_bottom", "tops_over", "are_one_together", "number_of_text", "DrawError", "BadSystem", "BadCoin"]
def names1 : List PySem.Str := ["TooMany", "NoCoins", "NoPlan", "NoMove", "System", "is_move", "is_row", "is_plan", "looks", "led_ahead", "led_by_plan", "drawn"]
def names2 : List PySem.Str := ["Drawer", "drawer_text", "drawer_of", "is_drawn", "_law_hand", "_law_draw", "_law_any", "_law_low", "_law_leads", "_law_world", "_law_made", "_law_behind"]
def names3 : List PySem.Str := ["_law_lot", "_law_drawn", "_law_late", "_law_stands", "_law_first_wrong", "_law_bent", "_law_read", "_law_is_read", "_law_is_due", "_law_tells", "_law_are_judged"]
def names : List PySem.Str := names0 ++ names1 ++ names2 ++ names3
abbrev R : PySem.W.OpenRow := PySem.W.OpenLaw.row PySem.Challenge.rw_asifforever_k14_whole_drawers_texts_and
abbrev hk : PySem.W.Hook := hookM 4 fas fns exK
def ob (s : PySem.W.SharedT) : AlM := obsM 4 fas fns exK (HandSHeadRun.getT s)
theorem ob_eq (s : PySem.W.SharedT) : ob s = hk.obs s.abs := obsM_eq (HandSHeadRun.getT_eq s)
theorem run (w : World) : HandSHeadRun.RunEqI R (PySem.W.view R.prog [0, 53]) hk ob 14000 names w := by
  unfold HandSHeadRun.RunEqI
  kernel_rfl
end Law
set_option maxHeartbeats 4000000
namespace Law
open PySem L2
/-- what is asked of the module's names -/
structure NmA (mg : Str → Option Value) : Prop where
  abs : mg "abs" = none
  all : mg "all" = none
  bool : mg "bool" = none
  enum : mg "enumerate" = none
  int : mg "int" = none
  isi : mg "isinstance" = none
  len : mg "len" = none
  list : mg "list" = none
  range : mg "range" = none
  set : mg "set" = none
  sorted : mg "sorted" = none
  str : mg "str" = none
  sum : mg "sum" = none
  tuple : mg "tuple" = none
  gcd : mg "gcd" = some (.builtin "math.gcd")
  lcm : mg "lcm" = some (.builtin "math.lcm")
end Law
namespace Law
open PySem L2
theorem sne {x y : Str} (h : ¬ x = y) : ¬ ((Sum.inr x : Key) = Sum.inr y) := fun z => h (Sum.inr.inj z)
theorem n01 : ¬ ((Sum.inr ("cells" : Str) : Key) = Sum.inr ("at" : Str)) := sne (by decide +kernel)
theorem n02 : ¬ ((Sum.inr ("cells" : Str) : Key) = Sum.inr ("left" : Str)) := sne (by decide +kernel)
theorem n03 : ¬ ((Sum.inr ("cells" : Str) : Key) = Sum.inr ("seed" : Str)) := sne (by decide +kernel)
theorem n04 : ¬ ((Sum.inr ("cells" : Str) : Key) = Sum.inr ("turn" : Str)) := sne (by decide +kernel)
theorem n12 : ¬ ((Sum.inr ("at" : Str) : Key) = Sum.inr ("left" : Str)) := sne (by decide +kernel)
theorem n13 : ¬ ((Sum.inr ("at" : Str) : Key) = Sum.inr ("seed" : Str)) := sne (by decide +kernel)
theorem n14 : ¬ ((Sum.inr ("at" : Str) : Key) = Sum.inr ("turn" : Str)) := sne (by decide +kernel)
theorem n23 : ¬ ((Sum.inr ("left" : Str) : Key) = Sum.inr ("seed" : Str)) := sne (by decide +kernel)
theorem n24 : ¬ ((Sum.inr ("left" : Str) : Key) = Sum.inr ("turn" : Str)) := sne (by decide +kernel)
theorem n34 : ¬ ((Sum.inr ("seed" : Str) : Key) = Sum.inr ("turn" : Str)) := sne (by decide +kernel)
/-- the hand's dict: its cells' list, and its four ints -/
def hdK (ca : Addr) (a g s t : Int) : List (Key × V) :=
  [(Sum.inr ("cells" : Str), .ref ca), (Sum.inr ("at" : Str), .int a), (Sum.inr ("left" : Str), .int g), (Sum.inr ("seed" : Str), .int s), (Sum.inr ("turn" : Str), .int t)]
section
variable (ca : Addr) (a g s t x : Int)
theorem get_cells : valV (hdK ca a g s t) (Sum.inr ("cells" : Str)) = some (.ref ca) := valV_pos rfl
theorem get_at : valV (hdK ca a g s t) (Sum.inr ("at" : Str)) = some (.int a) := (valV_neg n01).trans (valV_pos rfl)
theorem get_great : valV (hdK ca a g s t) (Sum.inr ("left" : Str)) = some (.int g) := (valV_neg n02).trans ((valV_neg n12).trans (valV_pos rfl))
theorem get_seed : valV (hdK ca a g s t) (Sum.inr ("seed" : Str)) = some (.int s) := (valV_neg n03).trans ((valV_neg n13).trans ((valV_neg n23).trans (valV_pos rfl)))
theorem get_turn : valV (hdK ca a g s t) (Sum.inr ("turn" : Str)) = some (.int t) := (valV_neg n04).trans ((valV_neg n14).trans ((valV_neg n24).trans ((valV_neg n34).trans (valV_pos rfl))))
theorem put_of {kvs : List (Key × V)} {k : Key} {v w : V} (h : valV kvs k = some w) : putK kvs k v = kvs.map (fun kv => if kv.1 = k then (kv.1, v) else kv) := by
  unfold putK
  rw [if_pos (by rw [valV_any, h]; rfl)]
theorem put_at : putK (hdK ca a g s t) (Sum.inr ("at" : Str)) (.int x) = hdK ca x g s t := by
  rw [put_of (get_at ca a g s t)]
  simp only [hdK, List.map_cons, List.map_nil, n01, if_neg, if_false, if_true, n12, n13, n14, Ne.symm n12, Ne.symm n13, Ne.symm n14, not_false_eq_true]
theorem put_great : putK (hdK ca a g s t) (Sum.inr ("left" : Str)) (.int x) = hdK ca a x s t := by
  rw [put_of (get_great ca a g s t)]
  simp only [hdK, List.map_cons, List.map_nil, if_neg, if_false, if_true, n02, n12, Ne.symm n23, Ne.symm n24, not_false_eq_true]
theorem put_seed : putK (hdK ca a g s t) (Sum.inr ("seed" : Str)) (.int x) = hdK ca a g x t := by
  rw [put_of (get_seed ca a g s t)]
  simp only [hdK, List.map_cons, List.map_nil, if_neg, if_false, if_true, n03, n13, n23, Ne.symm n34, not_false_eq_true]
theorem put_turn : putK (hdK ca a g s t) (Sum.inr ("turn" : Str)) (.int x) = hdK ca a g s x := by
  rw [put_of (get_turn ca a g s t)]
  simp only [hdK, List.map_cons, List.map_nil, if_neg, if_false, if_true, n04, n14, n24, n34, not_false_eq_true]
end
section
variable {H : Hp} {p ca : Addr} {a g s t : Int} (h : H p = some (.dK (hdK ca a g s t)))
include h
theorem gt_cells : DGet H p (.str "cells") (some (.ref ca)) := by
  have q := DGet.k (k := Sum.inr ("cells" : Str)) h
  rw [get_cells] at q
  exact q
theorem gt_at : DGet H p (.str "at") (some (.int a)) := by
  have q := DGet.k (k := Sum.inr ("at" : Str)) h
  rw [get_at] at q
  exact q
theorem gt_great : DGet H p (.str "left") (some (.int g)) := by
  have q := DGet.k (k := Sum.inr ("left" : Str)) h
  rw [get_great] at q
  exact q
theorem gt_seed : DGet H p (.str "seed") (some (.int s)) := by
  have q := DGet.k (k := Sum.inr ("seed" : Str)) h
  rw [get_seed] at q
  exact q
theorem gt_turn : DGet H p (.str "turn") (some (.int t)) := by
  have q := DGet.k (k := Sum.inr ("turn" : Str)) h
  rw [get_turn] at q
  exact q
theorem pt_at (x : Int) : DPut H p (.str "at") (.int x) (upd H p (.dK (hdK ca x g s t))) := by
  have q := DPut.k (k := Sum.inr ("at" : Str)) (v := .int x) h (show 5 < sizeLine by decide)
  rw [put_at] at q
  exact q
theorem pt_great (x : Int) : DPut H p (.str "left") (.int x) (upd H p (.dK (hdK ca a x s t))) := by
  have q := DPut.k (k := Sum.inr ("left" : Str)) (v := .int x) h (show 5 < sizeLine by decide)
  rw [put_great] at q
  exact q
theorem pt_seed (x : Int) : DPut H p (.str "seed") (.int x) (upd H p (.dK (hdK ca a g x t))) := by
  have q := DPut.k (k := Sum.inr ("seed" : Str)) (v := .int x) h (show 5 < sizeLine by decide)
  rw [put_seed] at q
  exact q
theorem pt_turn (x : Int) : DPut H p (.str "turn") (.int x) (upd H p (.dK (hdK ca a g s x))) := by
  have q := DPut.k (k := Sum.inr ("turn" : Str)) (v := .int x) h (show 5 < sizeLine by decide)
  rw [put_turn] at q
  exact q
end
/-- a hand stands at p -/
def HandAt (H : Hp) (p : Addr) : Prop := ∃ (ca : Addr) (cells : List Int) (a : Nat) (g s t : Int), H p = some (.dK (hdK ca a g s t)) ∧ H ca = some (.lst (cells.map V.int)) ∧ cells.length ≤ 63 ∧ a ≤ cells.length ∧ (∀ c ∈ cells, 0 ≤ c) ∧ 0 ≤ g ∧ 0 ≤ s ∧ 0 ≤ t
/-- its cells stand at c -/
def CellOf (H : Hp) (p c : Addr) : Prop := ∃ a g s t, H p = some (.dK (hdK c a g s t))
/-- what a draw may do: the hand stands again, nothing else has changed -/
structure Stp (p : Addr) (H H' : Hp) : Prop where
  keep : ∀ b o, b ≠ p → H b = some o → H' b = some o
  cell : ∀ c, CellOf H p c → CellOf H' p c
  hand : HandAt H' p
theorem Stp.refl {p : Addr} {H : Hp} (h : HandAt H p) : Stp p H H := ⟨fun _ _ _ e => e, fun _ e => e, h⟩
theorem Stp.trans {p : Addr} {H H1 H2 : Hp} (a : Stp p H H1) (b : Stp p H1 H2) : Stp p H H2 := ⟨fun c o n e => b.keep c o n (a.keep c o n e), fun c e => b.cell c (a.cell c e), b.hand⟩
theorem hdK_inj {ca cb : Addr} {a g s t a' g' s' t' : Int} (h : hdK ca a g s t = hdK cb a' g' s' t') : ca = cb := by
  unfold hdK at h
  injection h with h1 _
  injection h1 with _ h2
  injection h2
theorem cell_eq {H : Hp} {p ca c : Addr} {a g s t : Int} (hp : H p = some (.dK (hdK ca a g s t))) (h : CellOf H p c) : c = ca := by
  obtain ⟨a', g', s', t', h⟩ := h
  rw [hp] at h
  have h1 := Option.some.inj h
  injection h1 with h2
  exact (hdK_inj h2).symm
theorem cell_to {H H' : Hp} {p ca : Addr} {a g s t a' g' s' t' : Int} (hp : H p = some (.dK (hdK ca a g s t))) (hp' : H' p = some (.dK (hdK ca a' g' s' t'))) : ∀ c, CellOf H p c → CellOf H' p c := fun c hc => by
  rw [cell_eq hp hc]
  exact ⟨a', g', s', t', hp'⟩
/-- an object that stood not there at the start may change, whatever has been drawn since -/
theorem Stp.mut {p D : Addr} {H H' : Hp} {o : HO} (h : HandAt H p) (S : Stp p H H') (hD : H D = none) : Stp p H (upd H' D o) := by
  obtain ⟨ca, cells, a, g, s, t, hp, hc, _⟩ := h
  obtain ⟨cb, cells', a', g', s', t', hp', hc', r⟩ := S.hand
  have e : ca = cb := cell_eq hp' (S.cell ca ⟨a, g, s, t, hp⟩)
  have n1 : p ≠ D := ne_of_none hp hD
  have n2 : cb ≠ D := e ▸ ne_of_none hc hD
  exact ⟨fun b o n e => by rw [upd_ne (ne_of_none e hD)]; exact S.keep b o n e, fun c hc => by
    obtain ⟨x1, x2, x3, x4, x5⟩ := S.cell c hc
    exact ⟨x1, x2, x3, x4, by rw [upd_ne n1]; exact x5⟩, cb, cells', a', g', s', t', by rw [upd_ne n1]; exact hp', by rw [upd_ne n2]; exact hc', r⟩
def spDraw : Sp := fun vs H Q _ => ∃ (p : Addr) (m : Int), vs = [.ref p, .int m] ∧ 0 < m ∧ m < 1099511627776 ∧ HandAt H p ∧ ∀ (d : Int) (H' : Hp), 0 ≤ d → d < m → Stp p H H' → Q (.int d) H'
/-- what is asked of the module's names -/
theorem map_at {cells : List Int} {a : Nat} (h : a < cells.length) : ∃ c, cells[a]? = some c ∧ c ∈ cells ∧ atI (cells.map V.int) (a : Int) = some (V.int c) := by
  refine ⟨cells[a], List.getElem?_eq_getElem h, List.getElem_mem h, ?_⟩
  unfold atI
  rw [Evl.ixN_nat (by rw [List.length_map]; exact h)]
  show (cells.map V.int)[a]? = _
  rw [List.getElem?_map, List.getElem?_eq_getElem h] <;> rfl
section
variable {P : Program} {w : World} {K : PySem.W.Frag} {mg : Str → Option Value} {base : Heap}
end
end Law

namespace Law
open PySem L2
section
variable {P : Program} {w : World} {K : PySem.W.Frag} {mg : Str → Option Value} {base : Heap}
abbrev nLawDraw : List Str := ["hand", "many", "cell", "digit", "number"]
theorem scLawDraw : FnScope nLawDraw ["hand", "many"] (defScope s_law_draw) := ⟨rfl, rfl, rfl, by decide +kernel, rfl, by decide +kernel, by decide +kernel⟩
theorem ok_draw {f : Addr} {fd : FuncData} (F : Fun K "_law_draw" "_law_draw" s_law_draw f fd) (T : NmA mg) : FnOk P w K mg base CX0 1 f fd ["hand", "many"] spDraw := by
  refine F.ok scLawDraw (fun vs H Q E h => ?_) (fun cdv A' outer s H vs Q E hr h => ?_)
  · obtain ⟨p, m, rfl, _⟩ := h
    rfl
  · obtain ⟨p, m, rfl, hm0, hm1, hH, k⟩ := h
    have hu := hu_of hr
    refine ⟨_, Evl.pss_cut (ps_if (PW.pt (pw_and (pt_cmpR op_eq (pe_dget hu (pv 0) pe_str (fun _ _ => rfl)) pe_int (nomark _)) (pw_and1 (pt_cmpR op_lt (pe_dget hu (pv 0) pe_str (fun _ _ => rfl)) (pe_callB call_len_seq (by rfl) T.len PySem.boot_len (pa_cons (pe_dget hu (pv 0) pe_str (fun _ _ => rfl)) pa_nil)) (nomark _)))))
        (pss_cons (ps_set (i := 2) scLawDraw.nd rfl (Or.inl rfl) (pe_ix ix_list (pe_dget hu (pv 0) pe_str (fun _ _ => rfl)) (pe_dget hu (pv 0) pe_str (fun _ _ => rfl)) (fun _ _ => rfl)))
        (pss_cons (ps_dput hu (pv 0) pe_str (pe_op op_add (pe_dget hu (pv 0) pe_str (fun _ _ => rfl)) pe_int) rfl)
        (pss_cons (ps_dput hu (pv 0) pe_str (pe_op op_mod (pe_callTy call_int1 (by rfl) T.int (by decide +kernel) (pa_cons (pe_op op_add (pe_op op_add (pe_op op_mul (pe_dget hu (pv 0) pe_str (fun _ _ => rfl)) pe_int) (pv 2)) pe_int) pa_nil)) pe_int) rfl)
        (pss_one (ps_dput hu (pv 0) pe_str (pe_ifExp (pt_cmpR op_ge (pv 2) (pe_op op_pow pe_int pe_int) (nomark _)) (pv 2) pe_int) rfl))))) pss_nil)
      (pss_cons (ps_if (pt_cmpR op_gt (pe_dget hu (pv 0) pe_str (fun _ _ => rfl)) pe_int (nomark _))
        (pss_cons (ps_set (i := 3) scLawDraw.nd rfl (Or.inl rfl) (pe_op op_mod (pe_callTy call_int1 (by rfl) T.int (by decide +kernel) (pa_cons (pe_dget hu (pv 0) pe_str (fun _ _ => rfl)) pa_nil)) (pv 1)))
        (pss_cons (ps_dput hu (pv 0) pe_str (pe_op op_fdivW (pe_dget hu (pv 0) pe_str (fun _ _ => rfl)) (pv 1)) rfl)
        (pss_one (ps_ret (pv 3))))) pss_nil)
      (pss_cons (ps_dput hu (pv 0) pe_str (pe_op op_add (pe_dget hu (pv 0) pe_str (fun _ _ => rfl)) pe_int) rfl)
      (pss_cons (ps_set (i := 4) scLawDraw.nd rfl (Or.inl rfl) (pe_op op_mod (pe_callTy call_int1 (by rfl) T.int (by decide +kernel) (pa_cons (pe_op op_mul (pe_callTy call_int1 (by rfl) T.int (by decide +kernel) (pa_cons (pe_op op_add (pe_dget hu (pv 0) pe_str (fun _ _ => rfl)) (pe_op op_mul pe_int (pe_dget hu (pv 0) pe_str (fun _ _ => rfl)))) pa_nil)) pe_int) pa_nil)) pe_int))
      (pss_cons (ps_set (i := 4) scLawDraw.nd rfl (Or.inl rfl) (pe_op op_mod (pe_callTy call_int1 (by rfl) T.int (by decide +kernel) (pa_cons (pe_op op_mul (pv 4) (pe_op op_add (pe_op op_fdiv (pv 4) pe_int) pe_int)) pa_nil)) pe_int))
      (pss_cons (ps_set (i := 4) scLawDraw.nd rfl (Or.inl rfl) (pe_op op_mod (pe_callTy call_int1 (by rfl) T.int (by decide +kernel) (pa_cons (pe_op op_add (pe_op op_mul (pv 4) (pe_op op_add (pe_op op_fdiv (pv 4) pe_int) pe_int)) (pe_dget hu (pv 0) pe_str (fun _ _ => rfl))) pa_nil)) pe_int))
      (pss_one (ps_ret (pe_op op_mod (pe_callTy call_int1 (by rfl) T.int (by decide +kernel) (pa_cons (pe_op op_fdiv (pv 4) pe_int) pa_nil)) (pv 1))))))))), ?_⟩
    refine ⟨fun σ' H' => ∃ cv : Option V, σ' = [some (.ref p), some (.int m), cv, none, none] ∧ Stp p H H', ?_, ?_⟩
    · obtain ⟨ca, cells, a, g, s0, t, hp, hca, h63, ha, hc, hg, hs, ht⟩ := id hH
      have npc : ca ≠ p := ne_of hca hp (by intro z; cases z)
      have stop : ∃ cv : Option V, start nLawDraw [.ref p, .int m] = [some (.ref p), some (.int m), cv, none, none] ∧ Stp p H H := ⟨none, rfl, Stp.refl hH⟩
      refine ⟨_, rfl, p, _, rfl, gt_great hp, rfl, _, rfl, ite2 (fun hg0 => ?_) (fun _ => stop)⟩
      refine ⟨_, rfl, p, _, rfl, gt_at hp, _, rfl, p, _, rfl, gt_cells hp, ca, _, rfl, .inl (SqL.of hca), _, _, rfl, rfl, _, rfl, ite2 (fun hlt => ?_) (fun _ => stop)⟩
      have hlt' : a < cells.length := by
        have z := of_decide_eq_true hlt
        rw [List.length_map] at z
        omega
      obtain ⟨c, hc1, hc2, hc3⟩ := map_at hlt'
      have c0 := hc c hc2
      refine ⟨_, rfl, p, _, rfl, gt_cells hp, _, rfl, p, _, rfl, gt_at hp, ca, _, _, _, rfl, rfl, SqL.of hca, hc3, ?_⟩
      refine ⟨_, rfl, p, _, rfl, gt_at hp, _, _, rfl, rfl, _, rfl, p, _, rfl, pt_at hp _, ?_⟩
      refine ⟨_, rfl, p, _, rfl, gt_seed upd_same, _, _, rfl, rfl, .inr ⟨by decide, by decide⟩, _, rfl, _, _, rfl, rfl, _, _, rfl, rfl, .inl ⟨_, rfl, _, _, rfl, rfl, (by show (0 : Int) < 2147483629; decide), _, rfl, p, _, rfl, pt_seed upd_same _, ?_⟩⟩
      rw [upd_upd]
      refine ⟨_, rfl, _, _, rfl, rfl, ⟨by decide, by decide, by decide⟩, _, _, rfl, rfl, _, rfl, ite2 (fun _ => ?_) (fun _ => ?_)⟩
      · refine ⟨_, rfl, _, rfl, p, _, rfl, pt_great upd_same _, ?_⟩
        rw [upd_upd]
        exact ⟨_, rfl, fun b o n e => by rw [upd_ne n]; exact e, cell_to hp upd_same, ca, cells, a + 1, _, _, _, upd_same, by rw [upd_ne npc]; exact hca, h63, hlt', hc, c0, Int.emod_nonneg _ (by decide), ht⟩
      · refine ⟨_, rfl, p, _, rfl, pt_great upd_same _, ?_⟩
        rw [upd_upd]
        exact ⟨_, rfl, fun b o n e => by rw [upd_ne n]; exact e, cell_to hp upd_same, ca, cells, a + 1, _, _, _, upd_same, by rw [upd_ne npc]; exact hca, h63, hlt', hc, by decide, Int.emod_nonneg _ (by decide), ht⟩
    · rintro σ' H' ⟨cv, rfl, S1⟩
      obtain ⟨ca, cells, a, g, s0, t, hp, hca, h63, ha, hc, hg, hs, ht⟩ := S1.hand
      have npc : ca ≠ p := ne_of hca hp (by intro z; cases z)
      refine ⟨_, rfl, p, _, rfl, gt_great hp, _, _, rfl, rfl, _, rfl, ite2 (fun hg0 => ?_) (fun _ => ?_)⟩
      · refine ⟨_, rfl, p, _, rfl, gt_great hp, .inl ⟨_, rfl, _, rfl, _, _, rfl, rfl, hm0, ?_⟩⟩
        refine ⟨_, rfl, p, _, rfl, gt_great hp, _, rfl, _, _, rfl, rfl, wide_div (b := 40) hm0 (by omega) (by decide) (by decide), _, rfl, p, _, rfl, pt_great hp _, _, rfl, ?_⟩
        exact k _ _ (Int.emod_nonneg _ (by omega)) (Int.emod_lt_of_pos _ hm0) ⟨fun b o n e => by rw [upd_ne n]; exact S1.keep b o n e, fun c hc => cell_to hp upd_same c (S1.cell c hc), ca, cells, a, _, _, _, upd_same, by rw [upd_ne npc]; exact hca, h63, ha, hc, Int.ediv_nonneg hg (by omega), hs, ht⟩
      · refine ⟨_, rfl, p, _, rfl, gt_turn hp, _, _, rfl, rfl, _, rfl, p, _, rfl, pt_turn hp _, ?_⟩
        refine ⟨_, rfl, p, _, rfl, gt_seed upd_same, _, rfl, p, _, rfl, gt_turn upd_same, _, _, rfl, rfl, .inl ⟨by decide, by decide⟩, _, _, rfl, rfl, .inl ⟨_, rfl, _, _, rfl, rfl, .inr ⟨by decide, by decide⟩, .inl ⟨_, rfl, _, _, rfl, rfl, (by show (0 : Int) < 2147483647; decide), ?_⟩⟩⟩
        generalize hx : ((s0 + 7927 * (t + 1)) * 48271) % 2147483647 = x
        have x0 : 0 ≤ x := by rw [← hx]; exact Int.emod_nonneg _ (by decide)
        have x1 : x < 2147483647 := by rw [← hx]; exact Int.emod_lt_of_pos _ (by decide)
        refine ⟨_, rfl, _, rfl, _, _, rfl, rfl, ⟨by decide, by decide⟩, _, _, rfl, rfl, _, _, rfl, rfl, .inl ⟨by omega, by omega⟩, .inl ⟨_, rfl, _, _, rfl, rfl, (by show (0 : Int) < 2147483587; decide), ?_⟩⟩
        generalize hy : (x * (x / 1013 + 69623)) % 2147483587 = y
        have y0 : 0 ≤ y := by rw [← hy]; exact Int.emod_nonneg _ (by decide)
        have y1 : y < 2147483587 := by rw [← hy]; exact Int.emod_lt_of_pos _ (by decide)
        refine ⟨_, rfl, _, rfl, _, _, rfl, rfl, ⟨by decide, by decide⟩, _, _, rfl, rfl, _, _, rfl, rfl, .inl ⟨by omega, by omega⟩, _, rfl, p, _, rfl, gt_turn upd_same, _, _, rfl, rfl, .inl ⟨_, rfl, _, _, rfl, rfl, (by show (0 : Int) < 2147483399; decide), ?_⟩⟩
        refine ⟨_, rfl, _, _, rfl, rfl, ⟨by decide, by decide⟩, .inl ⟨_, rfl, _, rfl, _, _, rfl, rfl, hm0, ?_⟩⟩
        exact k _ _ (Int.emod_nonneg _ (by omega)) (Int.emod_lt_of_pos _ hm0) ⟨fun b o n e => by rw [upd_ne n]; exact S1.keep b o n e, fun c hc => cell_to hp upd_same c (S1.cell c hc), ca, cells, a, _, _, _, upd_same, by rw [upd_ne npc]; exact hca, h63, ha, hc, hg, hs, by omega⟩
end
end Law

namespace Law
open PySem L2
section
variable {P : Program} {w : World} {K : PySem.W.Frag} {mg : Str → Option Value} {base : Heap}
theorem cut63 {xs : List V} (h : xs.length ≤ 63) : cutV xs none (some 63) = xs := by
  unfold cutV
  show (xs.drop 0).take (HT.sIx xs.length xs.length (some ((63 : Nat) : Int)) - 0) = xs
  rw [HT.sIx_nat, Nat.min_eq_right (by omega), Nat.sub_zero, List.drop_zero, List.take_length]
theorem merge_app : ∀ (more acc : List (Key × V)), ((acc ++ more).map (·.1)).Nodup → mergeK acc more = acc ++ more
  | [], acc, _ => (List.append_nil acc).symm
  | p :: r, acc, h => by
    have hn : valV acc p.1 = none := by
      unfold valV
      rw [List.find?_eq_none.mpr]
      · rfl
      · intro kv hkv e
        rw [List.map_append, List.nodup_append] at h
        exact h.2.2 kv.1 (List.mem_map_of_mem hkv) p.1 (List.mem_map_of_mem List.mem_cons_self) (of_decide_eq_true e)
    have e : putK acc p.1 p.2 = acc ++ [p] := putK_new _ hn
    show mergeK (putK acc p.1 p.2) r = acc ++ p :: r
    rw [e, merge_app r (acc ++ [p]) (by rw [List.append_assoc]; exact h), List.append_assoc] <;> rfl
theorem hd_keys : ([Sum.inr ("cells" : Str), Sum.inr ("at" : Str), Sum.inr ("left" : Str), Sum.inr ("seed" : Str), Sum.inr ("turn" : Str)] : List Key).Nodup := by decide +kernel
theorem merge_hd (ca : Addr) (a g s t : Int) : mergeK [] (hdK ca a g s t) = hdK ca a g s t := merge_app _ [] hd_keys
def spHand (K : PySem.W.Frag) : Sp := fun vs H Q _ => ∃ (a : Addr) (ns : List Int), vs = [.ref a] ∧ SqL K H a (ns.map V.int) ∧ ns.length ≤ 63 ∧ ∀ (p : Addr) (H' : Hp), H p = none → Same H H' → HandAt H' p → Q (.ref p) H'
theorem scHand : FnScope ["script", "cells", "cell"] ["script"] (defScope s_law_hand) := ⟨rfl, rfl, rfl, by decide +kernel, rfl, by decide +kernel, by decide +kernel⟩
def absI (n : Int) : Int := if n < 0 then -n else n
theorem absI_nn (n : Int) : 0 ≤ absI n := by
  unfold absI
  split <;> omega
theorem ok_hand {f : Addr} {fd : FuncData} (F : Fun K "_law_hand" "_law_hand" s_law_hand f fd) (T : NmA mg) : FnOk P w K mg base CX0 1 f fd ["script"] (spHand K) := by
  refine F.ok scHand (fun vs H Q E h => ?_) (fun cdv A outer s H vs Q E hr h => ?_)
  · obtain ⟨a, ns, rfl, _⟩ := h
    rfl
  · obtain ⟨a, ns, rfl, hS, h63, k⟩ := h
    have hu := hu_of hr
    refine ⟨_, pss_cons (ps_setLc (i := 1) (own := [("cell", 2)]) (g := gName 2) (tt := tYes) rfl scHand.nd rfl rfl (sw_true rfl rfl rfl (by decide +kernel)) (pi_list (pe_slice sl_list (pv 0) po_none (po_some pe_int)))
        (blkOk_by (own := [("cell", 2)]) (N := ["script", "cells", "cell"]) (sc := defScope s_law_hand) (by decide +kernel)) (fun _ _ _ _ _ => pg_name (i := 2) scHand.nd rfl (Or.inl rfl)) (fun _ _ _ _ _ => pts_nil)
        (fun _ _ _ _ _ => pe_callB call_abs (by rfl) T.abs (by decide +kernel) (pa_cons (pe_callTy call_int1 (by rfl) T.int (by decide +kernel) (pa_cons (pv 2) pa_nil)) pa_nil)))
      (pss_one (ps_ret (pe_disp (pps_cons pe_str (pv 1) (pps_cons pe_str pe_int (pps_cons pe_str pe_int (pps_cons pe_str (pe_op op_add pe_int (pe_callB call_len_seq (by rfl) T.len PySem.boot_len (pa_cons (pv 1) pa_nil))) (pps_cons pe_str pe_int pps_nil))))) (by rfl) (by rfl) (fun z => by cases z) (by decide)))), ?_⟩
    refine ⟨_, rfl, 63, rfl, a, _, rfl, hS, fun sp nsp => ?_⟩
    have h63' : (ns.map V.int).length ≤ 63 := by rw [List.length_map]; exact h63
    rw [cut63 h63']
    refine ⟨sp, rfl, ⟨_, SqL.of upd_same⟩, fun D hD => ?_⟩
    have sD : Same H (upd (upd H sp (.lst (ns.map V.int))) D (.lst [])) := fun b o e => by
      have z : upd H sp (.lst (ns.map V.int)) b = some o := by
        rw [upd_ne (ne_of_none e nsp)]
        exact e
      rw [upd_ne (ne_of_none z hD)]
      exact z
    have nDs : sp ≠ D := ne_of_none upd_same hD
    have hD0 : H D = none := by
      rw [upd_ne nDs.symm] at hD
      exact hD
    refine lc_list (K := K) (a := sp) (xs := ns.map V.int) (fun i H' => Same H H' ∧ H' sp = some (.lst (ns.map V.int)) ∧ H' D = some (.lst (((ns.take i).map absI).map V.int))) ⟨sD, by rw [upd_ne nDs, upd_same], upd_same⟩ (fun i H' _ h => SqL.of h.2.1) ?_ ?_
    · rintro i x H' hi ⟨s1, h1, h2⟩
      obtain ⟨z, hz, rfl⟩ : ∃ z, ns[i]? = some z ∧ x = V.int z := by
        rw [List.getElem?_map] at hi
        cases e : ns[i]? with
        | none => rw [e] at hi; cases hi
        | some z => rw [e] at hi; exact ⟨z, rfl, (Option.some.inj hi).symm⟩
      have hil : i < ns.length := (List.getElem?_eq_some_iff.mp hz).1
      refine ⟨rfl, _, rfl, .inl ⟨_, rfl, _, rfl, _, h2, ?_, ?_⟩⟩
      · rw [List.length_map, List.length_map, List.length_take]
        exact small1000 (by omega)
      · refine ⟨fun b o e => ?_, ?_, ?_⟩
        · have hb : b ≠ D := ne_of_none e hD0
          rw [upd_ne hb]
          exact s1 b o e
        · rw [upd_ne nDs]
          exact h1
        · rw [upd_same, List.take_add_one, hz, List.map_append, List.map_append] <;> rfl
    · rintro H' ⟨s1, h1, h2⟩
      rw [List.length_map, List.take_length] at h2
      intro p np
      have npD : D ≠ p := ne_of_none h2 np
      have s2 : Same H (upd H' p (.dK [])) := fun b o e => by
        rw [upd_ne (ne_of_none (s1 b o e) np)]
        exact s1 b o e
      refine ⟨_, rfl, _, rfl, D, _, rfl, .inl (SqL.of (by rw [upd_ne npD]; exact h2)), _, _, rfl, rfl, upd_same, hdK D 0 0 (40961 + ((ns.map absI).map V.int).length) 0, rfl, (show 5 ≤ 15 by decide), ?_⟩
      rw [merge_hd, upd_upd]
      refine k p _ (s1.free np) (fun b o e => by rw [upd_ne (ne_of_none (s1 b o e) np)]; exact s1 b o e) ⟨D, ns.map absI, 0, 0, _, 0, upd_same, by rw [upd_ne npD]; exact h2, by rw [List.length_map]; exact h63, Nat.zero_le _, ?_, by decide, by omega, by decide⟩
      intro c hc
      obtain ⟨z, _, rfl⟩ := List.mem_map.mp hc
      exact absI_nn z
theorem Stp.sqL {p l : Addr} {H H' : Hp} {xs : List V} (S : Stp p H H') (hp : HandAt H p) (h : SqL K H l xs) : SqL K H' l xs := by
  obtain ⟨ca, cells, a, g, s0, t, hp, _⟩ := hp
  rcases h with (h | ⟨o, h⟩) | h
  · exact .inl (.inl (S.keep _ _ (ne_of h hp (by intro z; cases z)) h))
  · exact .inl (.inr ⟨o, S.keep _ _ (ne_of h hp (by intro z; cases z)) h⟩)
  · exact .inr h
theorem Stp.sqT {p l : Addr} {H H' : Hp} {xs : List V} (S : Stp p H H') (hp : HandAt H p) (h : SqT K H l xs) : SqT K H' l xs := by
  obtain ⟨ca, cells, a, g, s0, t, hp, _⟩ := hp
  rcases h with (h | ⟨o, h⟩) | h
  · exact .inl (.inl (S.keep _ _ (ne_of h hp (by intro z; cases z)) h))
  · exact .inl (.inr ⟨o, S.keep _ _ (ne_of h hp (by intro z; cases z)) h⟩)
  · exact .inr h
/-- a def of the module that may be called by its name -/
structure Cl (P : Program) (w : World) (K : PySem.W.Frag) (mg : Str → Option Value) (base : Heap) (CX : CXT) (k : Nat) (x : Str) (f : Addr) (fd : FuncData) (ps : List Str) (sp : Sp) : Prop where
  ok : FnOk P w K mg base CX k f fd ps sp
  b : Binds K fd ps []
  m : mg x = some (.ref f)
  kp : PySem.W.keepIn K (.ref f) = true
theorem Cl.call {X : Cx} {k : Nat} {x : Str} {f : Addr} {fd : FuncData} {ps : List Str} {sp : Sp} {p pos : Pos} {e : Expr} {es : List Expr} {t : TA} (c : Cl X.prog X.w X.K X.mg X.base CX0 k x f fd ps sp) (hr : Room k X.A) (ha : PA X (e :: es) t) (hg : Gl X x := by rfl) (hdb : (x == ("__debug__" : Str)) = false := by decide)
    (he : starEach (e :: es) X.env = (false, eval e X.env) :: starEach es X.env := by rfl) (hpl : (backTo pos (starEach es X.env)).any (·.1) = false := by rfl) :
    PE X (.Call (.Name x p) (e :: es) [] pos) (tCall sp [] E0 t) := pe_call c.ok hr hg c.m c.kp c.b .nil pass0 ha hdb he hpl
def spAny (K : PySem.W.Frag) : Sp := fun vs H Q _ => ∃ (p l : Addr) (xs : List V), vs = [.ref p, .ref l] ∧ (SqL K H l xs ∨ SqT K H l xs) ∧ 0 < xs.length ∧ xs.length < 1073741824 ∧ HandAt H p ∧ ∀ (i : Nat) (x : V) (H' : Hp), xs[i]? = some x → Stp p H H' → Q x H'
theorem scAny : FnScope ["hand", "things"] ["hand", "things"] (defScope s_law_any) := ⟨rfl, rfl, rfl, by decide +kernel, rfl, by decide +kernel, by decide +kernel⟩
theorem ok_any {f fD : Addr} {fd fdD : FuncData} (F : Fun K "_law_any" "_law_any" s_law_any f fd) (T : NmA mg) (D : Cl P w K mg base CX0 1 "_law_draw" fD fdD ["hand", "many"] spDraw) : FnOk P w K mg base CX0 2 f fd ["hand", "things"] (spAny K) := by
  refine F.ok scAny (fun vs H Q E h => ?_) (fun cdv A outer s H vs Q E hr h => ?_)
  · obtain ⟨p, l, xs, rfl, _⟩ := h
    rfl
  · obtain ⟨p, l, xs, rfl, hS, h0, h1, hH, k⟩ := h
    refine ⟨_, pss_one (ps_ret (pe_ix ix_seq (pv 1) (D.call hr (pa_cons (pv 0) (pa_cons (pe_callB call_len_seq (by rfl) T.len PySem.boot_len (pa_cons (pv 1) pa_nil)) pa_nil))) (fun _ _ => rfl))), ?_⟩
    refine ⟨_, rfl, _, rfl, _, rfl, l, xs, rfl, hS, p, _, rfl, by omega, by omega, hH, fun d H' d0 d1 S => ?_⟩
    obtain ⟨j, rfl⟩ := Int.eq_ofNat_of_zero_le d0
    have hj : j < xs.length := by omega
    have ha : atI xs ((j : Nat) : Int) = some xs[j] := by
      unfold atI
      rw [Evl.ixN_nat hj]
      exact List.getElem?_eq_getElem hj
    rcases hS with hS | hS
    · exact .inl ⟨l, xs, _, _, rfl, rfl, S.sqL hH hS, ha, k j _ H' (List.getElem?_eq_getElem hj) S⟩
    · exact .inr (.inl ⟨l, xs, _, _, rfl, rfl, S.sqT hH hS, ha, k j _ H' (List.getElem?_eq_getElem hj) S⟩)
end
end Law

namespace Law
open PySem L2
/-! ### the program's own: integers, fractions -/
def Ty3 (K : PySem.W.Frag) (H : Hp) (x : V) (bi bb : Bool) : Prop := ∃ t, TyX K H x t ∧ PySem.W.kitOne K t (.type "int") = some bi ∧ PySem.W.kitOne K t (.type "bool") = some bb
theorem ty3_int {K : PySem.W.Frag} {H : Hp} (i : Int) : Ty3 K H (.int i) true false := ⟨_, .base (.int i), kit_ty (by decide +kernel), kit_ty (by decide +kernel)⟩
theorem tyx_tup {K : PySem.W.Frag} {H : Hp} {a : Addr} {xs : List V} (h : SqT K H a xs) : TyX K H (.ref a) (.type "tuple") := by
  rcases h with (h | ⟨o, h⟩) | ⟨o, its, n, hk, hc, _⟩
  · exact .base (.tup h)
  · exact .fTuple h
  · exact .kTuple hk hc
theorem kit_tt {K : PySem.W.Frag} : PySem.W.kitOne K (.type "tuple") (.type "tuple") = some true := kit_ty (by decide +kernel)
end Law
namespace L2
open PySem
theorem Same.sqT {K : PySem.W.Frag} {H H' : Hp} {a : Addr} {xs : List V} (e : Same H H') (h : SqT K H a xs) : SqT K H' a xs := by
  rcases h with (h | ⟨o, h⟩) | h
  · exact .inl (.inl (e _ _ h))
  · exact .inl (.inr ⟨o, e _ _ h⟩)
  · exact .inr h
theorem Same.new {H : Hp} {p : Addr} {o : HO} (h : H p = none) : Same H (upd H p o) := fun b u e => by
  rw [upd_ne (ne_of_none e h)]
  exact e
theorem Same.mut {H H' : Hp} {p : Addr} {o : HO} (e : Same H H') (h : H p = none) : Same H (upd H' p o) := fun b u hb => by
  rw [upd_ne (ne_of_none hb h)]
  exact e b u hb
end L2
namespace Law
open PySem L2
section
variable {P : Program} {w : World} {K : PySem.W.Frag} {mg : Str → Option Value} {base : Heap}
def spIsInt (K : PySem.W.Frag) : Sp := fun vs H Q _ => ∃ x bi bb, vs = [x] ∧ Ty3 K H x bi bb ∧ Q (.bl (bi && !bb)) H
theorem scIsInt : FnScope ["thing"] ["thing"] (defScope s_is_integer) := ⟨rfl, rfl, rfl, by decide +kernel, rfl, by decide +kernel, by decide +kernel⟩
theorem ok_isint {f : Addr} {fd : FuncData} (F : Fun K "is_integer" "is_integer" s_is_integer f fd) (T : NmA mg) : FnOk P w K mg base CX0 1 f fd ["thing"] (spIsInt K) := by
  refine F.ok scIsInt (fun vs H Q E h => ?_) (fun cdv A outer s H vs Q E hr h => ?_)
  · obtain ⟨x, bi, bb, rfl, _⟩ := h
    rfl
  · obtain ⟨x, bi, bb, rfl, ⟨t, ty, h1, h2⟩, k⟩ := h
    refine ⟨_, pss_one (ps_ret (pe_and (pe_callB call_isi (by rfl) T.isi (by decide +kernel) (pa_cons (pv 0) (pa_cons (pe_bltn (v := .ty "int") (u := .type "int") (by rfl) T.int (by decide +kernel) rfl) pa_nil)))
      (pe_one (pe_not (pe_callB call_isi (by rfl) T.isi (by decide +kernel) (pa_cons (pv 0) (pa_cons (pe_bltn (v := .ty "bool") (u := .type "bool") (by rfl) T.bool (by decide +kernel) rfl) pa_nil))))))), ?_⟩
    refine ⟨_, rfl, _, _, _, _, _, rfl, .ty "int", ty, h1, _, rfl, ?_⟩
    cases bi with
    | true => exact iteT ⟨_, rfl, _, _, _, _, _, rfl, .ty "bool", ty, h2, _, rfl, k⟩
    | false => exact iteF k
def spWithin (K : PySem.W.Frag) : Sp := fun vs H Q _ => ∃ (lo hi : Int) (x : V), vs = [.int lo, .int hi, x] ∧ ((∃ i, x = .int i ∧ Q (.bl (decide (lo ≤ i) && decide (i ≤ hi))) H) ∨ ∃ bi bb, Ty3 K H x bi bb ∧ (bi && !bb) = false ∧ Q (.bl false) H)
theorem scWithin : FnScope ["low", "high", "thing"] ["low", "high", "thing"] (defScope s_is_within) := ⟨rfl, rfl, rfl, by decide +kernel, rfl, by decide +kernel, by decide +kernel⟩
theorem ok_within {f fI : Addr} {fd fdI : FuncData} (F : Fun K "is_within" "is_within" s_is_within f fd) (I : Cl P w K mg base CX0 1 "is_integer" fI fdI ["thing"] (spIsInt K)) : FnOk P w K mg base CX0 2 f fd ["low", "high", "thing"] (spWithin K) := by
  refine F.ok scWithin (fun vs H Q E h => ?_) (fun cdv A outer s H vs Q E hr h => ?_)
  · obtain ⟨lo, hi, x, rfl, _⟩ := h
    rfl
  · obtain ⟨lo, hi, x, rfl, h⟩ := h
    refine ⟨_, pss_one (ps_ret (pe_and (I.call hr (pa_cons (pv 2) pa_nil)) (pe_one (pe_chain op_le op_le (pv 0) (pv 2) (pv 1))))), ?_⟩
    rcases h with ⟨i, rfl, k⟩ | ⟨bi, bb, ty, hb, k⟩
    · refine ⟨_, rfl, _, true, false, rfl, ty3_int i, true, rfl, iteT ?_⟩
      refine ⟨_, rfl, _, rfl, _, _, rfl, rfl, _, rfl, ?_⟩
      refine ite2 (fun h1 => ?_) (fun h1 => ?_)
      · refine ⟨_, rfl, _, _, rfl, rfl, ?_⟩
        rw [h1, Bool.true_and] at k
        exact k
      · rw [Bool.not_eq_true] at h1
        rw [h1, Bool.false_and] at k
        exact k
    · refine ⟨_, rfl, x, bi, bb, rfl, ty, _, rfl, ?_⟩
      rw [hb]
      exact iteF k
def isW (lo hi : Int) : V → Bool
  | .int i => decide (lo ≤ i) && decide (i ≤ hi)
  | _ => false
def Known (K : PySem.W.Frag) (H : Hp) (x : V) : Prop := (∃ i, x = .int i) ∨ ∃ bi bb, Ty3 K H x bi bb ∧ (bi && !bb) = false ∧ ∀ lo hi, isW lo hi x = false
def spRowB (K : PySem.W.Frag) : Sp := fun vs H Q _ => ∃ (b : Int) (a : Addr) (xs : List V), vs = [.int b, .ref a] ∧ SqT K H a xs ∧ xs.length ≤ 1000 ∧ (∀ x ∈ xs, ∃ i, x = .int i) ∧ ∀ H', Same H H' → Q (.bl (xs.all (isW 0 (b - 1)))) H'
theorem scRowB : FnScope ["bound", "thing", "part"] ["bound", "thing"] (defScope s_is_row_below) := ⟨rfl, rfl, rfl, by decide +kernel, rfl, by decide +kernel, by decide +kernel⟩
theorem all_take {α : Type} (f : α → Bool) : ∀ xs : List α, (xs.map f).all id = xs.all f
  | [] => rfl
  | x :: xs => by rw [List.map_cons, List.all_cons, List.all_cons, all_take f xs] <;> rfl
theorem ok_rowb {f fW : Addr} {fd fdW : FuncData} (F : Fun K "is_row_below" "is_row_below" s_is_row_below f fd) (T : NmA mg) (W : Cl P w K mg base CX0 2 "is_within" fW fdW ["low", "high", "thing"] (spWithin K)) : FnOk P w K mg base CX0 3 f fd ["bound", "thing"] (spRowB K) := by
  refine F.ok scRowB (fun vs H Q E h => ?_) (fun cdv A outer s H vs Q E hr h => ?_)
  · obtain ⟨b, a, xs, rfl, _⟩ := h
    rfl
  · obtain ⟨b, a, xs, rfl, hS, hz, hx, k⟩ := h
    refine ⟨_, pss_one (ps_ret (pe_and (pe_callB call_isi (by rfl) T.isi (by decide +kernel) (pa_cons (pv 1) (pa_cons (pe_bltn (v := .ty "tuple") (u := .type "tuple") (by rfl) T.tuple (by decide +kernel) rfl) pa_nil)))
      (pe_one (pe_callB (cr_all rfl) (by rfl) T.all (by decide +kernel) (pa_cons (pe_lc (own := [("part", 2)]) (g := gName 2) (tt := tYes) rfl scRowB.nd (pi_tup (pv 1))
        (blkOk_by (own := [("part", 2)]) (N := ["bound", "thing", "part"]) (sc := defScope s_is_row_below) (by decide +kernel)) (fun _ _ _ _ _ => pg_name (i := 2) scRowB.nd rfl (Or.inl rfl)) (fun _ _ _ _ _ => pts_nil)
        (fun _ _ _ _ _ => W.call hr (pa_cons pe_int (pa_cons (pe_op op_sub (pv 0) pe_int) (pa_cons (pv 2) pa_nil))))) pa_nil))))), ?_⟩
    refine ⟨_, rfl, _, _, _, _, _, rfl, .ty "tuple", tyx_tup hS, kit_tt, _, rfl, iteT ?_⟩
    refine ⟨_, rfl, a, rfl, ⟨_, hS⟩, fun D hD => ?_⟩
    refine lc_tup (K := K) (a := a) (xs := xs) (fun i H' => Same H H' ∧ H' D = some (.lst (((xs.take i).map (isW 0 (b - 1))).map V.bl))) ⟨Same.new hD, upd_same⟩ (fun i H' _ h => h.1.sqT hS) ?_ ?_
    · rintro i x H' hi ⟨s1, h1⟩
      obtain ⟨z, rfl⟩ := hx x (List.mem_of_getElem? hi)
      refine ⟨rfl, _, rfl, _, _, rfl, rfl, _, rfl, _, _, _, rfl, .inl ⟨z, rfl, _, h1, ?_, s1.mut hD, ?_⟩⟩
      · rw [List.length_map, List.length_map, List.length_take]
        exact small1000 (by omega)
      · rw [upd_same, List.take_add_one, hi, List.map_append, List.map_append] <;> rfl
    · rintro H' ⟨s1, h1⟩
      rw [List.take_length] at h1
      refine ⟨D, _, rfl, SqL.of h1, ?_⟩
      rw [all_take]
      exact k H' s1
theorem dec_one (n : Nat) : decide (V.int (n : Int) = V.int 1) = (n == 1) := by
  rw [dec_int]
  by_cases e : n = 1
  · subst e
    rfl
  · rw [beq_eq_false_iff_ne.mpr e, beq_eq_false_iff_ne.mpr (by omega)]
def spFrac (K : PySem.W.Frag) : Sp := fun vs H Q _ => ∃ (a : Addr) (t b : Int), vs = [.ref a] ∧ SqT K H a [.int t, .int b] ∧ Q (.bl (decide (0 < b) && (Nat.gcd t.natAbs b.natAbs == 1))) H
theorem scFrac : FnScope ["thing", "top", "bottom"] ["thing"] (defScope s_is_fraction) := ⟨rfl, rfl, rfl, by decide +kernel, rfl, by decide +kernel, by decide +kernel⟩
theorem ok_frac {f fI : Addr} {fd fdI : FuncData} (F : Fun K "is_fraction" "is_fraction" s_is_fraction f fd) (T : NmA mg) (I : Cl P w K mg base CX0 1 "is_integer" fI fdI ["thing"] (spIsInt K)) : FnOk P w K mg base CX0 2 f fd ["thing"] (spFrac K) := by
  refine F.ok scFrac (fun vs H Q E h => ?_) (fun cdv A outer s H vs Q E hr h => ?_)
  · obtain ⟨a, t, b, rfl, _⟩ := h
    rfl
  · obtain ⟨a, t, b, rfl, hS, k⟩ := h
    refine ⟨_, pss_cons (ps_if (PW.pt (pw_or (pt_not (pt_val (pe_callB call_isi (by rfl) T.isi (by decide +kernel) (pa_cons (pv 0) (pa_cons (pe_bltn (v := .ty "tuple") (u := .type "tuple") (by rfl) T.tuple (by decide +kernel) rfl) pa_nil)))))
        (pw_or1 (pt_cmpR op_ne (pe_callB call_len_seq (by rfl) T.len PySem.boot_len (pa_cons (pv 0) pa_nil)) pe_int (nomark _))))) (pss_one (ps_ret pe_bl)) pss_nil)
      (pss_cons (ps_asg (pv 0) (pg_tup (by rfl) (pgs_cons (pg_name (i := 1) scFrac.nd rfl (Or.inl rfl)) (pgs_cons (pg_name (i := 2) scFrac.nd rfl (Or.inl rfl)) pgs_nil))))
      (pss_one (ps_ret (pe_and (I.call hr (pa_cons (pv 1) pa_nil)) (pe_and (I.call hr (pa_cons (pv 2) pa_nil)) (pe_and (pe_cmpR op_gt (pv 2) pe_int (nomark _)) (pe_one (pe_cmpR op_eq (pe_callBfun cr_gcd (by rfl) T.gcd (pa_cons (pv 1) (pa_cons (pv 2) pa_nil))) pe_int (nomark _))))))))), ?_⟩
    refine ⟨_, rfl, _, _, _, _, _, rfl, .ty "tuple", tyx_tup hS, kit_tt, _, rfl, ?_⟩
    refine iteF ⟨_, rfl, a, _, rfl, .inr hS, rfl, _, rfl, iteF ?_⟩
    refine ⟨_, rfl, a, _, rfl, hS, rfl, _, _, rfl, _, _, rfl, rfl, ?_⟩
    refine ⟨_, rfl, _, true, false, rfl, ty3_int t, _, rfl, iteT ⟨_, rfl, _, true, false, rfl, ty3_int b, _, rfl, iteT ⟨_, rfl, _, _, rfl, rfl, _, rfl, ?_⟩⟩⟩
    refine ite2 (fun h1 => ?_) (fun h1 => ?_)
    · refine ⟨_, rfl, _, rfl, t, b, rfl, rfl, ?_⟩
      rw [dec_one]
      rw [h1, Bool.true_and] at k
      exact k
    · rw [Bool.not_eq_true] at h1
      rw [h1, Bool.false_and] at k
      exact k
end
end Law

namespace L2
open PySem PySem.Spec PyProof.Rows
/-! ### math.lcm of great ints -/
theorem lcm_le (a b : Nat) (hb : 0 < b) (ha : 0 < a) : Nat.lcm a b ≤ a * b := Nat.le_of_dvd (Nat.mul_pos ha hb) (Nat.lcm_dvd_mul a b)
theorem lcm_lt {a b : Nat} (ha : a < 2 ^ 9000) (hb : b < 2 ^ 9000) : Nat.lcm a b < 2 ^ 18000 := by
  by_cases h0 : a = 0
  · subst h0
    rw [Nat.lcm_zero_left]
    exact Nat.two_pow_pos _
  by_cases h1 : b = 0
  · subst h1
    rw [Nat.lcm_zero_right]
    exact Nat.two_pow_pos _
  have h := lcm_le a b (Nat.pos_of_ne_zero h1) (Nat.pos_of_ne_zero h0)
  have h2 : a * b < 2 ^ 9000 * 2 ^ 9000 := Nat.mul_lt_mul_of_lt_of_lt ha hb
  rw [← Nat.pow_add] at h2
  exact Nat.lt_of_le_of_lt h h2
def rLcm : List V → Hp → VK → Prop := fun vs H Q => ∃ a b : Int, vs = [.int a, .int b] ∧ a.natAbs < 2 ^ 9000 ∧ b.natAbs < 2 ^ 9000 ∧ Q (.int ((Nat.lcm a.natAbs b.natAbs : Nat) : Int)) H
theorem cr_lcm {X : Cx} : CallR X (.builtin "math.lcm") rLcm := by
  intro pins s σ H vs us Q I r h
  obtain ⟨a, b, rfl, ha, hb, q⟩ := h
  obtain ⟨t, u, rfl⟩ := Vals.int2 r
  have l1 : ∀ {n : Nat}, n < 2 ^ 9000 → n.log2 < 9000 := fun h => PySem.Flt.log2_lt_of (by decide) h
  have m1 : max 1 a.natAbs < 2 ^ 9000 := by
    rw [Nat.max_def]
    split
    · exact ha
    · exact Nat.one_lt_two_pow (by decide)
  have m2 : max a.natAbs b.natAbs < 2 ^ 9000 := by
    rw [Nat.max_def]
    split
    · exact hb
    · exact ha
  have e : ((Nat.lcm 1 a.natAbs).lcm b.natAbs : Nat) = Nat.lcm a.natAbs b.natAbs := by rw [Nat.lcm_one_left]
  have hz : ((((Nat.lcm 1 a.natAbs).lcm b.natAbs : Nat) : Int)).natAbs.log2 < bitsLine := by
    rw [e, Int.natAbs_natCast]
    exact Nat.lt_of_lt_of_le (PySem.Flt.log2_lt_of (by decide) (lcm_lt ha hb)) (by decide)
  have c1 := l1 m1
  have c2 := l1 m2
  refine PySem.call_function_meets PySem.W.MGF.kind_lcm PySem.W.MGF.plain_lcm PySem.W.MGF.entry_lcm (PySem.W.MGF.args_lcm _ _) (PySem.W.mg_run_lcm a t b u (by omega) (by omega) hz).meets ?_
  exact ⟨.int _, H, I.tok _, ⟨_, rfl⟩, by rw [e]; exact q⟩
end L2

namespace Law
open PySem L2
/-! ### lists of fractions -/
abbrev Fr := Int × Int
def FrAt (K : PySem.W.Frag) (H : Hp) (v : V) (f : Fr) : Prop := ∃ s, v = .ref s ∧ SqT K H s [.int f.1, .int f.2]
def FrsIn (K : PySem.W.Frag) (H : Hp) (vs : List V) (fs : List Fr) : Prop := vs.length = fs.length ∧ ∀ (i : Nat) (v : V), vs[i]? = some v → ∃ f, fs[i]? = some f ∧ FrAt K H v f
def FrsAt (K : PySem.W.Frag) (H : Hp) (a : Addr) (fs : List Fr) : Prop := ∃ vs, SqL K H a vs ∧ FrsIn K H vs fs
/-- of moderate size -/
def FrOk (f : Fr) : Prop := 0 < f.2 ∧ f.2.natAbs < 2 ^ 62 ∧ f.1.natAbs < 2 ^ 62
theorem FrAt.same {K : PySem.W.Frag} {H H' : Hp} {v : V} {f : Fr} (e : Same H H') (h : FrAt K H v f) : FrAt K H' v f := by
  obtain ⟨s, h1, h2⟩ := h
  exact ⟨s, h1, e.sqT h2⟩
theorem FrsIn.same {K : PySem.W.Frag} {H H' : Hp} {vs : List V} {fs : List Fr} (e : Same H H') (h : FrsIn K H vs fs) : FrsIn K H' vs fs := ⟨h.1, fun i v hv => by
  obtain ⟨f, h1, h2⟩ := h.2 i v hv
  exact ⟨f, h1, h2.same e⟩⟩
theorem FrsAt.same {K : PySem.W.Frag} {H H' : Hp} {a : Addr} {fs : List Fr} (e : Same H H') (h : FrsAt K H a fs) : FrsAt K H' a fs := by
  obtain ⟨vs, h1, h2⟩ := h
  exact ⟨vs, e.seq h1, h2.same e⟩
def lcmAll (fs : List Fr) : Nat := fs.foldl (fun m f => Nat.lcm m f.2.natAbs) 1
theorem lcmAll_snoc (fs : List Fr) (f : Fr) : lcmAll (fs ++ [f]) = Nat.lcm (lcmAll fs) f.2.natAbs := by
  unfold lcmAll
  rw [List.foldl_append] <;> rfl
theorem lcm_fold : ∀ (fs : List Fr) (m : Nat), 0 < m → (∀ f ∈ fs, FrOk f) → 0 < fs.foldl (fun m f => Nat.lcm m f.2.natAbs) m ∧ fs.foldl (fun m f => Nat.lcm m f.2.natAbs) m ≤ m * 2 ^ (62 * fs.length)
  | [], m, hm, _ => ⟨hm, by simp⟩
  | f :: fs, m, hm, h => by
    obtain ⟨h1, h2, _⟩ := h f List.mem_cons_self
    have p : 0 < f.2.natAbs := by omega
    have q : 0 < Nat.lcm m f.2.natAbs := Nat.lcm_pos hm p
    obtain ⟨i1, i2⟩ := lcm_fold fs (Nat.lcm m f.2.natAbs) q fun g hg => h g (List.mem_cons_of_mem _ hg)
    refine ⟨i1, Nat.le_trans i2 ?_⟩
    have e1 : Nat.lcm m f.2.natAbs ≤ m * 2 ^ 62 := Nat.le_trans (lcm_le _ _ p hm) (Nat.mul_le_mul_left _ (Nat.le_of_lt h2))
    have e2 : m * 2 ^ (62 * (f :: fs).length) = m * 2 ^ 62 * 2 ^ (62 * fs.length) := by
      rw [List.length_cons, Nat.mul_add, Nat.mul_one, Nat.add_comm, Nat.pow_add, Nat.mul_assoc]
    rw [e2]
    exact Nat.mul_le_mul_right _ e1
theorem lcmAll_pos {fs : List Fr} (h : ∀ f ∈ fs, FrOk f) : 0 < lcmAll fs := (lcm_fold fs 1 (by decide) h).1
theorem lcmAll_lt {fs : List Fr} (h : ∀ f ∈ fs, FrOk f) (hl : fs.length ≤ 24) : lcmAll fs < 2 ^ 1489 := by
  have z := (lcm_fold fs 1 (by decide) h).2
  rw [Nat.one_mul] at z
  refine Nat.lt_of_le_of_lt z (Nat.pow_lt_pow_right (by decide) (by omega))
theorem pow_mono {n a b : Nat} (h : n < 2 ^ a) (hab : a ≤ b) : n < 2 ^ b := Nat.lt_of_lt_of_le h (Nat.pow_le_pow_right (by decide) hab)
section
variable {P : Program} {w : World} {K : PySem.W.Frag} {mg : Str → Option Value} {base : Heap}
def spComB (K : PySem.W.Frag) : Sp := fun vs H Q _ => ∃ (a : Addr) (fs : List Fr), vs = [.ref a] ∧ FrsAt K H a fs ∧ fs.length ≤ 24 ∧ (∀ f ∈ fs, FrOk f) ∧ Q (.int (lcmAll fs : Nat)) H
theorem scComB : FnScope ["fractions", "found", "_", "bottom"] ["fractions"] (defScope s_common_bottom) := ⟨rfl, rfl, rfl, by decide +kernel, rfl, by decide +kernel, by decide +kernel⟩
theorem ok_comb {f : Addr} {fd : FuncData} (F : Fun K "common_bottom" "common_bottom" s_common_bottom f fd) (T : NmA mg) : FnOk P w K mg base CX0 1 f fd ["fractions"] (spComB K) := by
  refine F.ok scComB (fun vs H Q E h => ?_) (fun cdv A outer s H vs Q E hr h => ?_)
  · obtain ⟨a, fs, rfl, _⟩ := h
    rfl
  · obtain ⟨a, fs, rfl, ⟨vs, hS, hF⟩, hl, ho, k⟩ := h
    refine ⟨_, pss_cons (ps_set (i := 1) scComB.nd rfl (Or.inl rfl) pe_int)
      (pss_cons (ps_for PassesOwn.never rfl (pi_list (pv 0)) (pg_tup (by rfl) (pgs_cons (pg_name (i := 2) scComB.nd rfl (Or.inl rfl)) (pgs_cons (pg_name (i := 3) scComB.nd rfl (Or.inl rfl)) pgs_nil)))
        (pss_one (ps_set (i := 1) scComB.nd rfl (Or.inl rfl) (pe_callBfun cr_lcm (by rfl) T.lcm (pa_cons (pv 1) (pa_cons (pv 3) pa_nil))))))
      (pss_one (ps_ret (pv 1)))), ?_⟩
    refine ⟨_, rfl, a, rfl, ⟨_, hS⟩, for_list (K := K) (a := a) (xs := vs) (fun i σ H' => H' = H ∧ ∃ u v : Option V, σ = [some (.ref a), some (.int (lcmAll (fs.take i) : Nat)), u, v]) ⟨rfl, none, none, rfl⟩ (fun i σ H' _ h => by rw [h.1]; exact hS) ?_ ?_⟩
    · rintro i x σ H' hi ⟨rfl, u, v, rfl⟩
      obtain ⟨g, hg, t, rfl, hT⟩ := hF.2 i x hi
      have gm : g ∈ fs := List.mem_of_getElem? hg
      obtain ⟨g1, g2, g3⟩ := ho g gm
      have hsub : ∀ f ∈ fs.take i, FrOk f := fun f hf => ho f (List.mem_of_mem_take hf)
      have hlt := lcmAll_lt hsub (by rw [List.length_take]; omega)
      refine ⟨t, _, rfl, hT, rfl, _, _, rfl, _, _, rfl, rfl, ?_⟩
      refine ⟨_, rfl, _, rfl, _, _, rfl, pow_mono (a := 1489) (by rw [Int.natAbs_natCast]; exact hlt) (by decide), pow_mono g2 (by decide), ?_⟩
      refine ⟨rfl, some (.int g.1), some (.int g.2), ?_⟩
      rw [List.take_add_one, hg]
      show _ = [some (V.ref a), some (V.int ((lcmAll (fs.take i ++ [g]) : Nat) : Int)), some (V.int g.1), some (V.int g.2)]
      rw [lcmAll_snoc]
      rfl
    · rintro σ H' ⟨rfl, u, v, rfl⟩
      refine ⟨_, rfl, ?_⟩
      rw [hF.1, List.take_length]
      exact k
def topsOf (fs : List Fr) (b : Int) : List Int := fs.map fun f => f.1 * (b / f.2)
def spTops (K : PySem.W.Frag) : Sp := fun vs H Q _ => ∃ (a : Addr) (fs : List Fr) (b : Int), vs = [.ref a, .int b] ∧ FrsAt K H a fs ∧ fs.length ≤ 24 ∧ (∀ f ∈ fs, FrOk f) ∧ ∀ p H', H p = none → Same H H' → H' p = some (.lst ((topsOf fs b).map V.int)) → Q (.ref p) H'
theorem scTops : FnScope ["fractions", "bottom", "top", "part"] ["fractions", "bottom"] (defScope s_tops_over) := ⟨rfl, rfl, rfl, by decide +kernel, rfl, by decide +kernel, by decide +kernel⟩
theorem ok_tops {f : Addr} {fd : FuncData} (F : Fun K "tops_over" "tops_over" s_tops_over f fd) : FnOk P w K mg base CX0 1 f fd ["fractions", "bottom"] (spTops K) := by
  refine F.ok scTops (fun vs H Q E h => ?_) (fun cdv A outer s H vs Q E hr h => ?_)
  · obtain ⟨a, fs, b, rfl, _⟩ := h
    rfl
  · obtain ⟨a, fs, b, rfl, ⟨vs, hS, hF⟩, hl, ho, k⟩ := h
    refine ⟨_, pss_one (ps_ret (pe_lc (own := [("top", 2), ("part", 3)]) (g := gTup K 2 (gCons (gName 2) (gCons (gName 3) gNil))) (tt := tYes) rfl scTops.nd (pi_list (pv 0))
        (blkOk_by (own := [("top", 2), ("part", 3)]) (N := ["fractions", "bottom", "top", "part"]) (sc := defScope s_tops_over) (by decide +kernel))
        (fun _ _ _ _ _ => pg_tup (by rfl) (pgs_cons (pg_name (i := 2) scTops.nd rfl (Or.inl rfl)) (pgs_cons (pg_name (i := 3) scTops.nd rfl (Or.inl rfl)) pgs_nil))) (fun _ _ _ _ _ => pts_nil)
        (fun _ _ _ _ _ => pe_op op_mul (pv 2) (pe_op op_fdivW (pv 1) (pv 3))))), ?_⟩
    refine ⟨_, rfl, a, rfl, ⟨_, hS⟩, fun D hD => ?_⟩
    refine lc_list (K := K) (a := a) (xs := vs) (fun i H' => Same H H' ∧ H' D = some (.lst ((topsOf (fs.take i) b).map V.int))) ⟨Same.new hD, upd_same⟩ (fun i H' _ h => h.1.seq hS) ?_ ?_
    · rintro i x H' hi ⟨s1, h1⟩
      obtain ⟨g, hg, t, rfl, hT⟩ := hF.2 i x hi
      obtain ⟨g1, g2, g3⟩ := ho g (List.mem_of_getElem? hg)
      have hil : i < fs.length := (List.getElem?_eq_some_iff.mp hg).1
      refine ⟨t, _, rfl, s1.sqT hT, rfl, _, _, rfl, _, _, rfl, rfl, ?_⟩
      refine ⟨rfl, _, rfl, _, rfl, _, rfl, _, _, rfl, rfl, wide_div g1 g2 (by decide) (by decide), _, _, rfl, rfl, .inl ⟨by omega, by omega⟩, _, h1, ?_, s1.mut hD, ?_⟩
      · unfold topsOf
        rw [List.length_map, List.length_map, List.length_take]
        exact small1000 (by omega)
      · unfold topsOf
        rw [upd_same, List.take_add_one, hg, List.map_append, List.map_append] <;> rfl
    · rintro H' ⟨s1, h1⟩
      rw [hF.1, List.take_length] at h1
      exact k D H' hD s1 h1
def spOne (K : PySem.W.Frag) : Sp := fun vs H Q _ => ∃ (a : Addr) (fs : List Fr), vs = [.ref a] ∧ FrsAt K H a fs ∧ fs.length ≤ 24 ∧ (∀ f ∈ fs, FrOk f) ∧ ∀ H', Same H H' → Q (.bl (decide ((topsOf fs (lcmAll fs : Nat)).sum = ((lcmAll fs : Nat) : Int)))) H'
theorem scOne : FnScope ["fractions", "bottom"] ["fractions"] (defScope s_are_one_together) := ⟨rfl, rfl, rfl, by decide +kernel, rfl, by decide +kernel, by decide +kernel⟩
theorem ok_one {f fC fT : Addr} {fd fdC fdT : FuncData} (F : Fun K "are_one_together" "are_one_together" s_are_one_together f fd) (T : NmA mg) (C : Cl P w K mg base CX0 1 "common_bottom" fC fdC ["fractions"] (spComB K))
    (U : Cl P w K mg base CX0 1 "tops_over" fT fdT ["fractions", "bottom"] (spTops K)) : FnOk P w K mg base CX0 2 f fd ["fractions"] (spOne K) := by
  refine F.ok scOne (fun vs H Q E h => ?_) (fun cdv A outer s H vs Q E hr h => ?_)
  · obtain ⟨a, fs, rfl, _⟩ := h
    rfl
  · obtain ⟨a, fs, rfl, hA, hl, ho, k⟩ := h
    refine ⟨_, pss_cons (ps_set (i := 1) scOne.nd rfl (Or.inl rfl) (C.call hr (pa_cons (pv 0) pa_nil)))
      (pss_one (ps_ret (pe_cmpR op_eq (pe_callB (cr_sum rfl) (by rfl) T.sum (by decide +kernel) (pa_cons (U.call hr (pa_cons (pv 0) (pa_cons (pv 1) pa_nil))) pa_nil)) (pv 1) (nomark _)))), ?_⟩
    refine ⟨_, rfl, a, fs, rfl, hA, hl, ho, ?_⟩
    refine ⟨_, rfl, _, rfl, a, fs, _, rfl, hA, hl, ho, fun p H' hp s1 h1 => ⟨p, _, rfl, SqL.of h1, _, rfl, rfl, ?_⟩⟩
    rw [dec_int]
    have z := k H' s1
    rw [show (((topsOf fs (lcmAll fs : Nat)).sum == ((lcmAll fs : Nat) : Int)) = decide ((topsOf fs (lcmAll fs : Nat)).sum = ((lcmAll fs : Nat) : Int))) from rfl]
    exact z
end
end Law


namespace PySem
namespace LawEnum
open AutoSeq1 (wpAny_loadPart')
theorem meets_enumerate_newT (l : Addr) (items : Array Value) (n : Nat) (dct : Option Addr) (sl : Array (Option Value)) :
    Meets (Builtin.«enumerate.__new__» ⟨[.type "enumerate", .ref l], []⟩) (fun _ R s => s.heap.get? l = some { cls := .type "tuple", dict := dct, data := .seq items n, slots := sl } ∧
      R (.ok (.ret (.ref (s.heap.push { cls := .type "tuple_iterator", data := .fields #[.ref l, .int 0 0] }).objs.size)))
        { s with heap := (s.heap.push { cls := .type "tuple_iterator", data := .fields #[.ref l, .int 0 0] }).push { cls := .type "enumerate", data := .fields #[.none, .bool false, .ref s.heap.objs.size, rawInt 0, .none, .none] } }) :=
  .of_wp fun prog w A R s h => by
    obtain ⟨hp, g, d, tk, os⟩ := s; obtain ⟨hl, h⟩ := h
    have hsub := sub_enumerate
    have hL : Heap.IsTuple (Shared.heap ⟨hp, g, d, tk, os⟩) l items := ⟨_, hl, rfl, n, rfl⟩
    wp_walk using wpAny_loadPart' hl
    refine wpAny_stack_any fun st => wpAny_pure ?_
    split
    · rename_i c _ _ _ _ _
      cases (c == Value.type "enumerate")
      · wp_walk using wpAny_loadPart' hl, wpAny_pyIter_tuple hL
        exact ⟨_, rfl, h⟩
      · wp_walk using wpAny_loadPart' hl, wpAny_pyIter_tuple hL
        exact ⟨_, rfl, h⟩
    · wp_walk using wpAny_loadPart' hl, wpAny_pyIter_tuple hL
      exact ⟨_, rfl, h⟩
section
variable {prog : Program} {w : World} {A : Around} {E : Value → Shared → Prop} {s : Shared}
theorem call_enumerate_tuple {l : Addr} {items : Array Value} {Q : Value → Shared → Prop} (hL : s.heap.IsTuple l items)
    (h : ∀ h', IsEnum h' (s.heap.objs.size + 1) s.heap.objs.size 0 .none → h'.IsTupleIter s.heap.objs.size l 0 → h'.objs.size = s.heap.objs.size + 2 →
      (∀ b o, s.heap.get? b = some o → h'.get? b = some o) → Q (.ref (s.heap.objs.size + 1)) { s with heap := h' }) :
    wpAny (model prog w) A (call (.type "enumerate") [.ref l]) Q E s := by
  obtain ⟨⟨c, dct, dt, sl⟩, hl, hc, n, hd⟩ := hL
  replace hc : c = .type "tuple" := hc
  replace hd : dt = .seq items n := hd
  subst hc hd
  refine callType_new F.called_enumerate (by decide) (F.typeCall_enumerate_1 _) (F.newCall_enumerate_1 _) (fun obj => F.args_object_init_2 obj _) F.entry_enumerate_new
    (meets_enumerate_newT l items n dct sl) ⟨hl, ?_⟩
  have hz : (s.heap.push { cls := .type "tuple_iterator", data := .fields #[.ref l, .int 0 0] }).objs.size = s.heap.objs.size + 1 := Heap.size_push ..
  show _ ∧ _
  rw [hz]
  have he : IsEnum ((s.heap.push { cls := .type "tuple_iterator", data := .fields #[.ref l, .int 0 0] }).push
      { cls := .type "enumerate", data := .fields #[.none, .bool false, .ref s.heap.objs.size, rawInt 0, .none, .none] }) (s.heap.objs.size + 1) s.heap.objs.size 0 .none := by
    have := Heap.get?_push_size (s.heap.push { cls := .type "tuple_iterator", data := .fields #[.ref l, .int 0 0] })
      (o := { cls := .type "enumerate", data := .fields #[.none, .bool false, .ref s.heap.objs.size, rawInt 0, .none, .none] }) rfl
    rw [hz] at this; exact this
  refine ⟨⟨_, he, rfl⟩, h _ he ⟨_, Heap.get?_push_of_some _ (Heap.get?_push_size _ rfl), rfl, rfl⟩ (by rw [Heap.size_push, hz]) fun b o x => Heap.get?_push_of_some _ (Heap.get?_push_of_some _ x)⟩
end
theorem draws_end {prog : Program} {w : World} {A : Around} (hh : A.handled = none) (it t : Addr) (items : Array Value) (i : Nat) (hx : items[i]? = none) :
    Draws prog w A it [it, t] 0 (fun _ _ => True) (fun _ h => h.IsTupleIter it t i ∧ h.IsTuple t items) where
  live := fun _ _ st => let ⟨o, ho, _⟩ := st.1; ⟨o, ho⟩
  frame := fun _ _ _ st hk => ⟨st.1.at fun o e => hk it (by simp) o e, st.2.at fun o e => hk t (by simp) o e⟩
  item := fun i s Q E hi st hQ => absurd hi (Nat.not_lt_zero i)
  done := fun s Q E st hE => wpAny_nextOf_tuple_end hh st.1 st.2 hx hE
end LawEnum
end PySem
namespace L2
open PySem PySem.Spec PyProof.Rows
/-- the tuple at a, item by item, each in a new pair with its number -/
def IteT (K : PySem.W.Frag) (a : Addr) : It :=
  ⟨fun i H => ∃ (xs : List V) (x : V), SqT K H a xs ∧ xs[i]? = some x, fun i H v H' => ∃ T x, v = .ref T ∧ H T = none ∧ H' = upd H T (.tup [.int (i : Nat), x]) ∧ ∀ xs, SqT K H a xs → xs[i]? = some x, fun i H => ∃ xs : List V, SqT K H a xs ∧ xs.length ≤ i⟩
theorem turn_enumT {P : Program} {w : World} {K : PySem.W.Frag} {elts : List Expr} {kk : Nat} {tpos : Pos} (a e it : Addr) :
    Turn P w K (.Tuple elts kk tpos) (IteT K a) [e, it] e (fun i h => (∃ old, IsEnum h e it ((i : Nat) : Int) old) ∧ h.IsTupleIter it a i ∧ e ≠ it ∧ a ≠ it ∧ e ≠ a) where
  mem := by simp
  obj := fun i h st b hb => by
    obtain ⟨⟨old, he⟩, ⟨o, ho, hc, hd⟩, _⟩ := st
    have e' : b = e ∨ b = it := by simpa using hb
    rcases e' with z | z
    · rw [z]; exact ⟨_, he, fun v q => nomatch q⟩
    · rw [z]; exact ⟨o, ho, fun v q => by rw [hd] at q; cases q⟩
  keep := fun i h h' st k => let ⟨⟨old, he⟩, hi, hne, h1, h2⟩ := st; ⟨⟨old, k e (by simp) _ he⟩, hi.at fun o q => k it (by simp) o q, hne, h1, h2⟩
  item := by
    intro X hP hw hK hc i pins s σ H E I hf st hg
    subst hP hw hK
    obtain ⟨⟨old, he⟩, hit, hne, hai, hea⟩ := st
    obtain ⟨xs, x, hq, hx⟩ := hg
    obtain ⟨its, rv, p, hz⟩ := I.tuple hq
    obtain ⟨u, hu, ru⟩ := rv.get hx
    have hel : e < s.heap.objs.size := Heap.lt_size he
    have hil : it < s.heap.objs.size := by obtain ⟨_, q, _⟩ := hit; exact Heap.lt_size q
    have hlt : i < its.toArray.size := by
      have z := (List.getElem?_eq_some_iff.mp hu).1
      simpa using z
    have D := Draws.tuple (prog := X.prog) (w := X.w) (A := X.A.in1) (I.ok.hd hc) it a hai its.toArray
    refine wpAny_pyNext_enum_itemD D he ⟨hit, p⟩ hlt hne (by simp [hne, hea]) fun x' h' tk hPx ho hit' hT hsz hk => ?_
    have ex : x' = u := by
      have z : its.toArray[i]? = some x' := hPx
      have z2 : its.toArray[i]? = some u := by simpa using hu
      rw [z2] at z
      exact (Option.some.inj z).symm
    subst ex
    refine ⟨_, rfl, wpAny_letOwnedTupleGo_enum (s := { s with heap := h', toks := tk + 1 }) ho fun h'' he' sb => ?_⟩
    have hT2 : h''.get? s.heap.objs.size = some { cls := .type "tuple", data := .seq #[.int i tk, x'] } := (sb.2 _ (Nat.ne_of_gt hel)).trans hT
    have new : ObjOk X.prog X.w (upd H s.heap.objs.size (.tup [.int (i : Nat), x])) h'' s.heap.objs.size (.tup [.int (i : Nat), x]) :=
      ⟨by show 2 ≤ sizeLine; decide, [.int i tk, x'], .cons ⟨_, rfl⟩ (.cons ru .nil), ⟨_, hT2, rfl, _, rfl⟩⟩
    have I1 : Inv X pins σ (upd H s.heap.objs.size (.tup [.int (i : Nat), x])) { s with heap := h'', toks := tk + 1 } :=
      I.turnedNew (ch := [e, it]) (fun b ob hb q => (sb.2 b (fun z => hb (by simp [z]))).trans (hk b ob (fun z => hb (by simp [z])) (fun z => hb (by simp [z])) q)) hf (Nat.le_refl _) new
    refine ⟨.ref s.heap.objs.size, _, I1, rfl, ⟨_, x, rfl, I.hok.fresh (Nat.le_refl _), rfl, fun ys hy => by rw [I.tuple_inj hy hq]; exact hx⟩, ⟨⟨x', ?_⟩, hit'.1.at fun o q => (sb.2 it (Ne.symm hne)).trans q, hne, hai, hea⟩, fun b hb => ?_⟩
    · have e1 : ((i + 1 : Nat) : Int) = (i : Int) + 1 := by omega
      rw [e1]; exact he'
    · have hb' : b < s.heap.objs.size := by
        have e' : b = e ∨ b = it := by simpa using hb
        rcases e' with z | z
        · rw [z]; exact hel
        · rw [z]; exact hil
      rw [upd_ne (Nat.ne_of_lt hb')]
      exact (hf b hb).1
  done := by
    intro X hP hw hK hc i pins s σ H E I hf st hg
    subst hP hw hK
    obtain ⟨⟨old, he⟩, hit, hne, hai, hea⟩ := st
    obtain ⟨xs, hq, hx⟩ := hg
    obtain ⟨its, rv, p, hz⟩ := I.tuple hq
    obtain ⟨f0, f1, f2, f3, f4, f5⟩ := hf it (by simp)
    have hl := rv.length
    have D := LawEnum.draws_end (prog := X.prog) (w := X.w) (A := X.A.in1) (I.ok.hd hc) it a its.toArray i (by simp; omega)
    exact wpAny_pyNext_enum_endD D he ⟨hit, p⟩ fun h' eb => ⟨rfl, I.turned (t' := s.toks) (fun b o hb q => eb b o hb q) f0 f1 f3 f4 f5⟩
  self := fun A i s Q E st h => let ⟨⟨_, he⟩, _⟩ := st; wpAny_pyIter_enum he h
def iEnumT (K : PySem.W.Frag) (ta : TA) : TI := fun σ H R => ta σ H fun vs H1 => ∃ a xs, vs = [.ref a] ∧ SqT K H1 a xs ∧ R (IteT K a) H1
theorem pi_enumT {X : Cx} {e : Expr} {ta : TA} {p pos tpos : Pos} {elts : List Expr} {kk : Nat} (hg : Gl X "enumerate") (hm : X.mg "enumerate" = none) (ha : PA X [e] ta) (hs : starEach [e] X.env = [(false, eval e X.env)] := by rfl) :
    PI X (.Tuple elts kk tpos) (.Call (.Name "enumerate" p) [e] [] pos) (iEnumT X.K ta) := by
  refine ⟨fun pins s σ H R I h => ?_⟩
  refine Call_ (ld_blt I hg hm boot_enumerate (PyProof.Rows.callWith_type1 (thn (ha.run pos pins s σ H _ I h) fun us s1 ⟨vs, H1, I1, r1, q1⟩ => ?_) hs rfl))
  obtain ⟨a, xs, ex, hq, q⟩ := q1
  subst ex
  cases r1 with
  | cons r rr =>
    cases rr
    cases r
    obtain ⟨its, rv, p', hz⟩ := I1.tuple hq
    have hal : a < s1.heap.objs.size := by obtain ⟨o, ho, _⟩ := p'; exact Heap.lt_size ho
    refine LawEnum.call_enumerate_tuple p' fun h' he hit hsz hk => wpAny_pyIter_enum he ?_
    have I2 : Inv X pins σ H1 { s1 with heap := h' } := I1.kept (t' := s1.toks) hk
    refine ⟨s1.heap.objs.size + 1, [s1.heap.objs.size + 1, s1.heap.objs.size], _, _, H1, rfl, I2, turn_enumT a (s1.heap.objs.size + 1) s1.heap.objs.size, ⟨⟨.none, he⟩, hit, Nat.succ_ne_self _, Nat.ne_of_lt hal, Nat.ne_of_gt (Nat.lt_succ_of_lt hal)⟩, fun b hb => ?_, q⟩
    have e' : b = s1.heap.objs.size + 1 ∨ b = s1.heap.objs.size := by simpa using hb
    have hle : s1.heap.objs.size ≤ b := by
      rcases e' with z | z
      · rw [z]; exact Nat.le_add_right _ _
      · rw [z]; exact Nat.le_refl _
    exact I1.fpOk hle (I1.hok.fresh hle)
theorem walk_enumT {K : PySem.W.Frag} {a : Addr} {xs : List V} : Walk (IteT K a) xs.length (fun H => SqT K H a xs) (fun i H v H' => ∃ T x, v = .ref T ∧ H T = none ∧ H' = upd H T (.tup [.int (i : Nat), x]) ∧ xs[i]? = some x) where
  goes := fun i H hi h => ⟨xs, xs[i], h, List.getElem?_eq_getElem hi⟩
  stops := fun H h => ⟨xs, h, Nat.le_refl _⟩
  yields := fun i H x H' hi h ⟨T, y, h1, h2, h3, h4⟩ => ⟨T, y, h1, h2, h3, h4 xs h⟩
end L2

namespace Law
open PySem L2
/-! ### data: ints, tuples of ints, moves -/
def tupD (l : List Int) : PyData := .tuple (l.map .int)
def frD (f : Fr) : PyData := .tuple [.int f.1, .int f.2]
abbrev Mv := Fr × List Int
def mvD (m : Mv) : PyData := .tuple [frD m.1, tupD m.2]
def mvsD (ms : List Mv) : PyData := .tuple (ms.map mvD)
theorem eqvAll_map {α : Type} [DecidableEq α] (g : α → PyData) (hg : ∀ a b, PyData.eqv (g a) (g b) = decide (a = b)) : ∀ xs ys : List α, PyData.eqvAll (xs.map g) (ys.map g) = decide (xs = ys)
  | [], [] => by simp [PyData.eqvAll]
  | [], _ :: _ => by simp [PyData.eqvAll]
  | _ :: _, [] => by simp [PyData.eqvAll]
  | x :: xs, y :: ys => by
    rw [List.map_cons, List.map_cons, PyData.eqvAll, hg, eqvAll_map g hg xs ys]
    by_cases h1 : x = y <;> by_cases h2 : xs = ys <;> simp [h1, h2]
theorem eqv_int (a b : Int) : PyData.eqv (.int a) (.int b) = decide (a = b) := by
  rw [PyData.eqv]
  rfl
theorem eqv_tupD (a b : List Int) : PyData.eqv (tupD a) (tupD b) = decide (a = b) := by
  unfold tupD
  rw [PyData.eqv]
  exact eqvAll_map PyData.int eqv_int a b
theorem eqv_frD (a b : Fr) : PyData.eqv (frD a) (frD b) = decide (a = b) := by
  obtain ⟨a1, a2⟩ := a
  obtain ⟨b1, b2⟩ := b
  unfold frD
  rw [PyData.eqv, PyData.eqvAll, PyData.eqvAll, PyData.eqvAll, eqv_int, eqv_int]
  by_cases h1 : a1 = b1 <;> by_cases h2 : a2 = b2 <;> simp [h1, h2]
theorem eqv_mvD (a b : Mv) : PyData.eqv (mvD a) (mvD b) = decide (a = b) := by
  obtain ⟨a1, a2⟩ := a
  obtain ⟨b1, b2⟩ := b
  unfold mvD
  rw [PyData.eqv, PyData.eqvAll, PyData.eqvAll, PyData.eqvAll, eqv_frD, eqv_tupD]
  by_cases h1 : a1 = b1 <;> by_cases h2 : a2 = b2 <;> simp [h1, h2]
theorem eqv_mvsD (a b : List Mv) : PyData.eqv (mvsD a) (mvsD b) = decide (a = b) := by
  unfold mvsD
  rw [PyData.eqv]
  exact eqvAll_map mvD eqv_mvD a b
theorem lay_all {α : Type} (g : α → PyData) (n : Nat) (hg : ∀ a, (g a).canLay0 = true ∧ (g a).depth ≤ n) : ∀ xs : List α, PyData.canLayAll0 (xs.map g) = true ∧ PyData.depthAll (xs.map g) ≤ n
  | [] => by simp [PyData.canLayAll0, PyData.depthAll]
  | x :: xs => by
    obtain ⟨h1, h2⟩ := hg x
    obtain ⟨h3, h4⟩ := lay_all g n hg xs
    rw [List.map_cons, PyData.canLayAll0, PyData.depthAll, h1, h3]
    exact ⟨rfl, Nat.max_le.mpr ⟨h2, h4⟩⟩
theorem lay_int (a : Int) : (PyData.int a).canLay0 = true ∧ (PyData.int a).depth ≤ 0 := by simp [PyData.canLay0, PyData.depth]
theorem lay_tupD (a : List Int) : (tupD a).canLay0 = true ∧ (tupD a).depth ≤ 1 := by
  have h := lay_all PyData.int 0 lay_int a
  unfold tupD
  rw [PyData.canLay0, PyData.depth]
  exact ⟨h.1, by omega⟩
theorem lay_frD (a : Fr) : (frD a).canLay0 = true ∧ (frD a).depth ≤ 1 := by simp [frD, PyData.canLay0, PyData.canLayAll0, PyData.depth, PyData.depthAll]
theorem lay_mvD (a : Mv) : (mvD a).canLay0 = true ∧ (mvD a).depth ≤ 2 := by
  have h1 := lay_frD a.1
  have h2 := lay_tupD a.2
  unfold mvD
  rw [PyData.canLay0, PyData.canLayAll0, PyData.canLayAll0, PyData.canLayAll0, PyData.depth, PyData.depthAll, PyData.depthAll, PyData.depthAll, h1.1, h2.1]
  exact ⟨rfl, by omega⟩
theorem lay_mvsD (a : List Mv) : (mvsD a).canLay0 = true ∧ (mvsD a).depth ≤ 3 := by
  have h := lay_all mvD 2 lay_mvD a
  unfold mvsD
  rw [PyData.canLay0, PyData.depth]
  exact ⟨h.1, by omega⟩
theorem shaped_of {d : PyData} {n : Nat} (h : d.canLay0 = true ∧ d.depth ≤ n) (hn : n ≤ 64) : SeqAt.shaped d = true := by
  unfold SeqAt.shaped
  rw [h.1, Bool.true_and, decide_eq_true (Nat.le_trans h.2 hn)]
theorem dp_ints {K : PySem.W.Frag} {H : Hp} : ∀ l : List Int, DpAll K H (l.map V.int) (l.map PyData.int)
  | [] => .nil
  | x :: l => .cons (.int x) (dp_ints l)
/-! ### moves and systems -/
def MvAt (K : PySem.W.Frag) (H : Hp) (v : V) (m : Mv) : Prop := ∃ a s l, v = .ref a ∧ SqT K H a [.ref s, .ref l] ∧ SqT K H s [.int m.1.1, .int m.1.2] ∧ SqT K H l (m.2.map V.int)
def MvsIn (K : PySem.W.Frag) (H : Hp) (vs : List V) (ms : List Mv) : Prop := vs.length = ms.length ∧ ∀ (i : Nat) (v : V), vs[i]? = some v → ∃ m, ms[i]? = some m ∧ MvAt K H v m
def MvsAt (K : PySem.W.Frag) (H : Hp) (a : Addr) (ms : List Mv) : Prop := ∃ vs, SqT K H a vs ∧ MvsIn K H vs ms
theorem MvAt.same {K : PySem.W.Frag} {H H' : Hp} {v : V} {m : Mv} (e : Same H H') (h : MvAt K H v m) : MvAt K H' v m := by
  obtain ⟨a, s, l, h1, h2, h3, h4⟩ := h
  exact ⟨a, s, l, h1, e.sqT h2, e.sqT h3, e.sqT h4⟩
theorem MvsIn.same {K : PySem.W.Frag} {H H' : Hp} {vs : List V} {ms : List Mv} (e : Same H H') (h : MvsIn K H vs ms) : MvsIn K H' vs ms := ⟨h.1, fun i v hv => by
  obtain ⟨m, h1, h2⟩ := h.2 i v hv
  exact ⟨m, h1, h2.same e⟩⟩
theorem MvsAt.same {K : PySem.W.Frag} {H H' : Hp} {a : Addr} {ms : List Mv} (e : Same H H') (h : MvsAt K H a ms) : MvsAt K H' a ms := by
  obtain ⟨vs, h1, h2⟩ := h
  exact ⟨vs, e.sqT h1, h2.same e⟩
theorem dp_mv {K : PySem.W.Frag} {H : Hp} {v : V} {m : Mv} (h : MvAt K H v m) : Dp K H v (mvD m) := by
  obtain ⟨a, s, l, rfl, h2, h3, h4⟩ := h
  exact .tup h2 (.cons (.tup h3 (.cons (.int _) (.cons (.int _) .nil))) (.cons (.tup h4 (dp_ints _)) .nil))
theorem dp_mvs {K : PySem.W.Frag} {H : Hp} : ∀ {vs : List V} {ms : List Mv}, MvsIn K H vs ms → DpAll K H vs (ms.map mvD)
  | [], [], _ => .nil
  | [], _ :: _, h => absurd h.1 (by simp)
  | _ :: _, [], h => absurd h.1 (by simp)
  | v :: vs, m :: ms, h => by
    obtain ⟨m', e, hm⟩ := h.2 0 v rfl
    cases e
    exact .cons (dp_mv hm) (dp_mvs ⟨by simpa using h.1, fun i x hx => h.2 (i + 1) x (by simpa using hx)⟩)
theorem dp_mvsAt {K : PySem.W.Frag} {H : Hp} {a : Addr} {ms : List Mv} (h : MvsAt K H a ms) : Dp K H (.ref a) (mvsD ms) := by
  obtain ⟨vs, h1, h2⟩ := h
  exact .tup h1 (dp_mvs h2)
def MvOk (many : Nat) (m : Mv) : Prop := FrOk m.1 ∧ 0 < m.1.1 ∧ Nat.gcd m.1.1.natAbs m.1.2.natAbs = 1 ∧ m.2.length = many ∧ ∀ x ∈ m.2, 0 ≤ x ∧ x < (many : Int)
abbrev OneOk (fs : List Fr) : Prop := (topsOf fs (lcmAll fs : Nat)).sum = ((lcmAll fs : Nat) : Int)
structure SysOk (many : Nat) (ms : List Mv) : Prop where
  m1 : 1 ≤ many
  m2 : many ≤ 12
  l1 : 1 ≤ ms.length
  l2 : ms.length ≤ 24
  mv : ∀ m ∈ ms, MvOk many m
  one : OneOk (ms.map (·.1))
theorem nMM : ¬ (("many" : Str) = "moves") := by decide +kernel
def sysF (many : Nat) (mv : Addr) : List (Str × V) := putF "moves" (.ref mv) (putF "many" (.int (many : Int)) [])
theorem sysF_eq (many : Nat) (mv : Addr) : sysF many mv = ([("many", V.int (many : Int)), ("moves", V.ref mv)] : List (Str × V)) := by
  show (if ("many" : Str) = "moves" then [(("many" : Str), V.ref mv)] else (("many" : Str), V.int (many : Int)) :: putF "moves" (V.ref mv) []) = _
  rw [if_neg nMM] <;> rfl
theorem sysF_many (many : Nat) (mv : Addr) : (sysF many mv).lookup ("many" : Str) = some (.int (many : Int)) := by
  unfold sysF
  rw [lookup_putF, if_neg nMM, lookup_putF, if_pos rfl]
theorem sysF_moves (many : Nat) (mv : Addr) : (sysF many mv).lookup ("moves" : Str) = some (.ref mv) := by
  unfold sysF
  rw [lookup_putF, if_pos rfl]
/-- a System stands at p -/
def SysAt (K : PySem.W.Frag) (C : Addr) (H : Hp) (p : Addr) (many : Nat) (ms : List Mv) : Prop := ∃ dx mv, H p = some (.ins C dx (sysF many mv)) ∧ MvsAt K H mv ms
theorem SysAt.same {K : PySem.W.Frag} {C : Addr} {H H' : Hp} {p : Addr} {many : Nat} {ms : List Mv} (e : Same H H') (h : SysAt K C H p many ms) : SysAt K C H' p many ms := by
  obtain ⟨dx, mv, h1, h2⟩ := h
  exact ⟨dx, mv, e _ _ h1, h2.same e⟩
/-- the class System, as the top has made it -/
structure SysT (K : PySem.W.Frag) (mg : Str → Option Value) (C : Addr) : Prop where
  cl : Cls K C
  nK : NoAttr K C "many"
  nM : NoAttr K C "moves"
  mgC : mg "System" = some (.ref C)
  ha : PySem.W.findIn K (.ref C) "__class__" = some (some (.builtin "object.__class__"))
  hn : PySem.W.specialIn K (.builtin "object.__class__") "__get__" = some (some (.builtin "getset_descriptor.__get__"))
  ht : PySem.W.takesIn K (.builtin "object.__class__") = some true
  hm : PySem.W.mroIn K C (.type "object") = some true
theorem SysAt.ty {K : PySem.W.Frag} {mg : Str → Option Value} {C : Addr} {H : Hp} {p : Addr} {many : Nat} {ms : List Mv} (T : SysT K mg C) (h : SysAt K C H p many ms) : TyX K H (.ref p) (.ref C) := by
  obtain ⟨dx, mv, h1, _⟩ := h
  exact .base (.ins h1 T.cl T.ha T.hn T.ht T.hm)
theorem kit_self {K : PySem.W.Frag} {v : Value} (h : (v == v) = true) : PySem.W.kitOne K v v = some true := by
  unfold PySem.W.kitOne
  rw [if_pos h]
theorem at0 (x y : V) : atI [x, y] (0 : Int) = some x := by
  unfold atI
  rw [show ixN [x, y].length (0 : Int) = some 0 from Evl.ixN_nat (n := 2) (j := 0) (by decide)]
  rfl
section
variable {P : Program} {w : World} {K : PySem.W.Frag} {mg : Str → Option Value} {base : Heap}
def spMove (K : PySem.W.Frag) : Sp := fun vs H Q _ => ∃ (many : Nat) (v : V) (m : Mv), vs = [.int (many : Int), v] ∧ many ≤ 12 ∧ MvAt K H v m ∧ MvOk many m ∧ ∀ H', Same H H' → Q (.bl true) H'
theorem scMove : FnScope ["many", "thing", "share", "leads"] ["many", "thing"] (defScope s_is_move) := ⟨rfl, rfl, rfl, by decide +kernel, rfl, by decide +kernel, by decide +kernel⟩
theorem ok_move {f fF fR : Addr} {fd fdF fdR : FuncData} (F : Fun K "is_move" "is_move" s_is_move f fd) (T : NmA mg) (G : Cl P w K mg base CX0 2 "is_fraction" fF fdF ["thing"] (spFrac K))
    (R : Cl P w K mg base CX0 3 "is_row_below" fR fdR ["bound", "thing"] (spRowB K)) : FnOk P w K mg base CX0 4 f fd ["many", "thing"] (spMove K) := by
  refine F.ok scMove (fun vs H Q E h => ?_) (fun cdv A outer s H vs Q E hr h => ?_)
  · obtain ⟨many, v, m, rfl, _⟩ := h
    rfl
  · obtain ⟨many, v, m, rfl, h12, ⟨a, t, l, rfl, hA, hT, hL⟩, ⟨⟨f1, f2, f3⟩, f4, f5, f6, f7⟩, k⟩ := h
    refine ⟨_, pss_cons (ps_if (PW.pt (pw_or (pt_not (pt_val (pe_callB call_isi (by rfl) T.isi (by decide +kernel) (pa_cons (pv 1) (pa_cons (pe_bltn (v := .ty "tuple") (u := .type "tuple") (by rfl) T.tuple (by decide +kernel) rfl) pa_nil)))))
        (pw_or1 (pt_cmpR op_ne (pe_callB call_len_seq (by rfl) T.len PySem.boot_len (pa_cons (pv 1) pa_nil)) pe_int (nomark _))))) (pss_one (ps_ret pe_bl)) pss_nil)
      (pss_cons (ps_asg (pv 1) (pg_tup (by rfl) (pgs_cons (pg_name (i := 2) scMove.nd rfl (Or.inl rfl)) (pgs_cons (pg_name (i := 3) scMove.nd rfl (Or.inl rfl)) pgs_nil))))
      (pss_one (ps_ret (pe_and (G.call (hr.mono (by decide)) (pa_cons (pv 2) pa_nil)) (pe_and (pe_cmpR op_gt (pe_ix ix_tup (pv 2) pe_int (fun _ _ => rfl)) pe_int (nomark _)) (pe_and (R.call hr (pa_cons (pv 0) (pa_cons (pv 3) pa_nil)))
        (pe_one (pe_cmpR op_eq (pe_callB call_len_seq (by rfl) T.len PySem.boot_len (pa_cons (pv 3) pa_nil)) (pv 0) (nomark _))))))))), ?_⟩
    refine ⟨_, rfl, _, _, _, _, _, rfl, .ty "tuple", tyx_tup hA, kit_tt, _, rfl, ?_⟩
    refine iteF ⟨_, rfl, a, _, rfl, .inr hA, rfl, _, rfl, iteF ?_⟩
    refine ⟨_, rfl, a, _, rfl, hA, rfl, _, _, rfl, _, _, rfl, rfl, ?_⟩
    refine ⟨_, rfl, t, _, _, rfl, hT, _, rfl, ?_⟩
    rw [decide_eq_true f1, f5]
    refine iteT ⟨_, rfl, t, _, _, _, rfl, rfl, hT, at0 _ _, _, _, rfl, rfl, _, rfl, ?_⟩
    rw [decide_eq_true f4]
    refine iteT ⟨_, rfl, _, rfl, _, l, _, rfl, hL, ?_, ?_, fun H' s1 => ⟨_, rfl, ?_⟩⟩
    · rw [List.length_map]
      omega
    · intro x hx
      obtain ⟨i, _, rfl⟩ := List.mem_map.mp hx
      exact ⟨i, rfl⟩
    · have hall : (m.2.map V.int).all (isW 0 ((many : Int) - 1)) = true := by
        rw [List.all_eq_true]
        intro x hx
        obtain ⟨i, hi, rfl⟩ := List.mem_map.mp hx
        obtain ⟨g1, g2⟩ := f7 i hi
        show (decide (0 ≤ i) && decide (i ≤ (many : Int) - 1)) = true
        rw [decide_eq_true g1, decide_eq_true (show i ≤ (many : Int) - 1 by omega)] <;> rfl
      rw [hall]
      refine iteT ⟨_, rfl, l, _, rfl, .inr (s1.sqT hL), _, rfl, rfl, ?_⟩
      rw [List.length_map, f6, decide_eq_true rfl]
      exact k H' s1
def spSInit (K : PySem.W.Frag) (C : Addr) : Sp := fun vs H Q _ => ∃ (p dx : Addr) (many : Nat) (mv : Addr) (ms : List Mv), vs = [.ref p, .int (many : Int), .ref mv] ∧ H p = some (.ins C dx []) ∧ MvsAt K H mv ms ∧ SysOk many ms ∧
  ∀ H', (∀ b o, b ≠ p → H b = some o → H' b = some o) → H' p = some (.ins C dx (sysF many mv)) → Q .non H'
theorem scSInit : FnScope ["self", "many", "moves", "number", "move", "share", "_"] ["self", "many", "moves"] (defScope s_System_init) := ⟨rfl, rfl, rfl, by decide +kernel, rfl, by decide +kernel, by decide +kernel⟩
theorem ok_sinit {f C fW fM fO : Addr} {fd fdW fdM fdO : FuncData} (F : Fun K "__init__" "System.__init__" s_System_init f fd) (T : NmA mg) (S : SysT K mg C) (W : Cl P w K mg base CX0 2 "is_within" fW fdW ["low", "high", "thing"] (spWithin K))
    (M : Cl P w K mg base CX0 4 "is_move" fM fdM ["many", "thing"] (spMove K)) (O : Cl P w K mg base CX0 2 "are_one_together" fO fdO ["fractions"] (spOne K)) : FnOk P w K mg base CX0 5 f fd ["self", "many", "moves"] (spSInit K C) := by
  refine F.ok scSInit (fun vs H Q E h => ?_) (fun cdv A outer s H vs Q E hr h => ?_)
  · obtain ⟨p, dx, many, mv, ms, rfl, _⟩ := h
    rfl
  · obtain ⟨p, dx, many, mv, ms, rfl, hp, ⟨vs, hV, hM⟩, ok, k⟩ := h
    have hvl : vs.length = ms.length := hM.1
    refine ⟨_, pss_cons (ps_if (pt_not (pt_val (W.call (hr.mono (by decide)) (pa_cons pe_int (pa_cons pe_int (pa_cons (pv 1) pa_nil)))))) pss_never pss_nil)
      (pss_cons (ps_if (PW.pt (pw_or (pt_not (pt_val (pe_callB call_isi (by rfl) T.isi (by decide +kernel) (pa_cons (pv 2) (pa_cons (pe_bltn (v := .ty "tuple") (u := .type "tuple") (by rfl) T.tuple (by decide +kernel) rfl) pa_nil)))))
        (pw_or1 (pt_not (pt_chain op_le op_le pe_int (pe_callB call_len_seq (by rfl) T.len PySem.boot_len (pa_cons (pv 2) pa_nil)) pe_int))))) pss_never pss_nil)
      (pss_cons (ps_for PassesOwn.never rfl (pi_enumT (by rfl) T.enum (pa_cons (pv 2) pa_nil)) (pg_tup (by rfl) (pgs_cons (pg_name (i := 3) scSInit.nd rfl (Or.inl rfl)) (pgs_cons (pg_name (i := 4) scSInit.nd rfl (Or.inl rfl)) pgs_nil)))
        (pss_one (ps_if (pt_not (pt_val (M.call hr (pa_cons (pv 1) (pa_cons (pv 4) pa_nil))))) pss_never pss_nil)))
      (pss_cons (ps_if (pt_not (pt_val (O.call (hr.mono (by decide)) (pa_cons (pe_lc (own := [("share", 5), ("_", 6)]) (g := gTup K 2 (gCons (gName 5) (gCons (gName 6) gNil))) (tt := tYes) rfl scSInit.nd (pi_tup (pv 2))
          (blkOk_by (own := [("share", 5), ("_", 6)]) (N := ["self", "many", "moves", "number", "move", "share", "_"]) (sc := defScope s_System_init) (by decide +kernel))
          (fun _ _ _ _ _ => pg_tup (by rfl) (pgs_cons (pg_name (i := 5) scSInit.nd rfl (Or.inl rfl)) (pgs_cons (pg_name (i := 6) scSInit.nd rfl (Or.inl rfl)) pgs_nil))) (fun _ _ _ _ _ => pts_nil) (fun _ _ _ _ _ => pv 5)) pa_nil)))) pss_never pss_nil)
      (pss_cons (ps_fld (pv 0) (pv 1) rfl) (pss_one (ps_fld (pv 0) (pv 2) rfl)))))), ?_⟩
    -- is_within(1, 12, many)
    refine ⟨_, rfl, 1, 12, _, rfl, .inl ⟨(many : Int), rfl, _, rfl, ?_⟩⟩
    rw [decide_eq_true (show (1 : Int) ≤ (many : Int) by have := ok.m1; omega), decide_eq_true (show (many : Int) ≤ 12 by have := ok.m2; omega)]
    -- isinstance(moves, tuple), 1 <= len(moves) <= 24
    refine iteF ⟨_, rfl, _, _, _, _, _, rfl, .ty "tuple", tyx_tup hV, kit_tt, _, rfl, iteF ⟨_, rfl, mv, _, rfl, .inr hV, _, _, rfl, rfl, _, rfl, ?_⟩⟩
    rw [decide_eq_true (show (1 : Int) ≤ ((vs.length : Nat) : Int) by have := ok.l1; omega)]
    refine iteT ⟨_, _, rfl, rfl, _, rfl, ?_⟩
    rw [decide_eq_true (show ((vs.length : Nat) : Int) ≤ 24 by have := ok.l2; omega)]
    refine iteF ?_
    -- for number, move in enumerate(moves)
    refine ⟨_, rfl, mv, vs, rfl, hV, for_it walk_enumT (fun i σ H' => Same H H' ∧ ∃ u v : Option V, σ = [some (.ref p), some (.int (many : Int)), some (.ref mv), u, v, none, none]) ⟨Same.refl H, none, none, rfl⟩ (fun i σ H' _ h => h.1.sqT hV) ?_ ?_⟩
    · rintro i x σ H1 H2 hi ⟨s1, u, v, rfl⟩ ⟨t, y, rfl, ht, rfl, hy⟩
      obtain ⟨m, hm, hA⟩ := hM.2 i y hy
      have s2 : Same H (upd H1 t (.tup [.int (i : Nat), y])) := fun b o e => Same.new ht b o (s1 b o e)
      refine ⟨t, _, rfl, SqT.of upd_same, rfl, _, _, rfl, _, _, rfl, rfl, ?_⟩
      refine ⟨_, rfl, _, rfl, many, _, m, rfl, ok.m2, hA.same s2, ok.mv m (List.mem_of_getElem? hm), fun H3 s3 => ⟨_, rfl, iteF ⟨s2.trans s3, _, _, rfl⟩⟩⟩
    · rintro σ H1 ⟨s1, u, v, rfl⟩
      -- the shares
      refine ⟨_, rfl, mv, rfl, ⟨_, s1.sqT hV⟩, fun D hD => ?_⟩
      refine lc_tup (K := K) (a := mv) (xs := vs) (fun i H' => Same H1 H' ∧ ∃ acc, H' D = some (.lst acc) ∧ FrsIn K H' acc ((ms.take i).map (·.1))) ⟨Same.new hD, [], upd_same, rfl, fun i v hv => by simp at hv⟩ (fun i H' _ h => (s1.trans h.1).sqT hV) ?_ ?_
      · rintro i x H2 hi ⟨s2, acc, h1, h2⟩
        obtain ⟨m, hm, a, t, l, rfl, hA, hT, hL⟩ := hM.2 i x hi
        have hil : i < ms.length := (List.getElem?_eq_some_iff.mp hm).1
        have s3 := s1.trans s2
        have hz : acc.length = i := by
          have z := h2.1
          rw [List.length_map, List.length_take] at z
          omega
        refine ⟨a, _, rfl, s3.sqT hA, rfl, _, _, rfl, _, _, rfl, rfl, ?_⟩
        have s4 : Same H1 (upd H2 D (.lst (acc ++ [.ref t]))) := s2.mut hD
        refine ⟨rfl, _, rfl, acc, h1, small1000 (by have := ok.l2; omega), s4, _, upd_same, ?_, fun j v hj => ?_⟩
        · rw [List.length_append, List.length_map, List.length_take]
          simp
          omega
        · by_cases hji : j < acc.length
          · rw [List.getElem?_append_left hji] at hj
            obtain ⟨f, g1, g2⟩ := h2.2 j v hj
            obtain ⟨q, g3, g4⟩ := g2
            refine ⟨f, ?_, q, g3, ?_⟩
            · rw [List.take_add_one, hm]
              simp only [Option.toList, List.map_append]
              rw [List.getElem?_append_left (by rw [List.length_map, List.length_take]; omega)]
              exact g1
            · rcases g4 with (z | ⟨o, z⟩) | z
              · refine .inl (.inl ?_)
                rw [upd_ne (ne_of z h1 (by intro y; cases y))]
                exact z
              · refine .inl (.inr ⟨o, ?_⟩)
                rw [upd_ne (ne_of z h1 (by intro y; cases y))]
                exact z
              · exact .inr z
          · have e : j = acc.length := by
              have z := (List.getElem?_eq_some_iff.mp hj).1
              rw [List.length_append] at z
              simp at z
              omega
            subst e
            rw [List.getElem?_append_right (Nat.le_refl _), Nat.sub_self] at hj
            have ev : V.ref t = v := Option.some.inj hj
            refine ⟨m.1, ?_, t, ev.symm, s4.sqT (s1.sqT hT)⟩
            rw [List.take_add_one, hm, hz]
            simp only [Option.toList, List.map_append]
            rw [List.getElem?_append_right (by rw [List.length_map, List.length_take]; omega), List.length_map, List.length_take, show i - min i ms.length = 0 by omega]
            rfl
      · rintro H2 ⟨s2, acc, h1, h2⟩
        rw [hvl, List.take_length] at h2
        refine ⟨D, ms.map (·.1), rfl, ⟨acc, SqL.of h1, h2⟩, by rw [List.length_map]; exact ok.l2, ?_, fun H3 s3 => ⟨_, rfl, ?_⟩⟩
        · intro f hf
          obtain ⟨m, hm, rfl⟩ := List.mem_map.mp hf
          exact (ok.mv m hm).1
        rw [decide_eq_true ok.one]
        have s4 := (s1.trans s2).trans s3
        refine iteF ⟨_, rfl, _, rfl, p, C, dx, [], rfl, s4 _ _ hp, S.cl, S.nK, (by show 0 < 1000; decide), _, rfl, _, rfl, p, C, dx, _, rfl, upd_same, S.cl, S.nM, (by show 1 < 1000; decide), ?_⟩
        rw [upd_upd]
        exact k _ (fun b o n e => by rw [upd_ne n]; exact s4 b o e) upd_same
def spSEq (K : PySem.W.Frag) (C : Addr) : Sp := fun vs H Q _ => ∃ (p q : Addr) (m1 m2 : Nat) (ms1 ms2 : List Mv), vs = [.ref p, .ref q] ∧ SysAt K C H p m1 ms1 ∧ SysAt K C H q m2 ms2 ∧ Q (.bl (decide (m1 = m2) && decide (ms1 = ms2))) H
theorem scSEq : FnScope ["self", "other"] ["self", "other"] (defScope s_System_eq) := ⟨rfl, rfl, rfl, by decide +kernel, rfl, by decide +kernel, by decide +kernel⟩
theorem ok_seq {f C : Addr} {fd : FuncData} (F : Fun K "__eq__" "System.__eq__" s_System_eq f fd) (T : NmA mg) (S : SysT K mg C) : FnOk P w K mg base CX0 1 f fd ["self", "other"] (spSEq K C) := by
  refine F.ok scSEq (fun vs H Q E h => ?_) (fun cdv A outer s H vs Q E hr h => ?_)
  · obtain ⟨p, q, m1, m2, ms1, ms2, rfl, _⟩ := h
    rfl
  · obtain ⟨p, q, m1, m2, ms1, ms2, rfl, h1, h2, k⟩ := h
    obtain ⟨d1, v1, a1, b1⟩ := id h1
    obtain ⟨d2, v2, a2, b2⟩ := id h2
    refine ⟨_, pss_one (ps_ret (pe_and (pe_callB call_isi (by rfl) T.isi (by decide +kernel) (pa_cons (pv 1) (pa_cons (pe_glob (v := .ref C) (u := .ref C) rfl S.mgC rfl) pa_nil)))
      (pe_and (pe_cmpR op_eq (pe_fld (pv 0) rfl) (pe_fld (pv 1) rfl) (nomark _)) (pe_one (pe_cmpR (op_eqD hr.units) (pe_fld (pv 0) rfl) (pe_fld (pv 1) rfl) (nomark _)))))), ?_⟩
    refine ⟨_, rfl, _, _, _, _, _, rfl, .own C, h2.ty S, kit_self (by simp), _, rfl, iteT ?_⟩
    refine ⟨_, rfl, p, C, d1, _, _, rfl, a1, S.cl, S.nK, sysF_many _ _, _, rfl, q, C, d2, _, _, rfl, a2, S.cl, S.nK, sysF_many _ _, rfl, _, rfl, ?_⟩
    have e1 : decide (V.int (m1 : Int) = V.int (m2 : Int)) = decide (m1 = m2) := by
      by_cases e : m1 = m2
      · subst e
        rw [decide_eq_true rfl, decide_eq_true rfl]
      · rw [decide_eq_false e, decide_eq_false (fun z => e (by have := V.int.inj z; omega))]
    rw [e1]
    refine ite2 (fun h => ?_) (fun h => ?_)
    · refine ⟨_, rfl, p, C, d1, _, _, rfl, a1, S.cl, S.nM, sysF_moves _ _, _, rfl, q, C, d2, _, _, rfl, a2, S.cl, S.nM, sysF_moves _ _, mvsD ms1, mvsD ms2, dp_mvsAt b1, dp_mvsAt b2, shaped_of (lay_mvsD _) (by decide), shaped_of (lay_mvsD _) (by decide), ?_⟩
      rw [eqv_mvsD]
      rw [h, Bool.true_and] at k
      exact k
    · rw [Bool.not_eq_true] at h
      rw [h, Bool.false_and] at k
      exact k
end
end Law

namespace L2
open PySem PySem.Spec PyProof.Rows HT
/-! ### t[::-1] of a tuple; set(xs) and len(set(xs)) of a list of ints -/
theorem places_rev (n : Nat) : Builtin.Slice.slicePlaces ((n : Int) - 1) (-1) (-1) = n := by
  unfold Builtin.Slice.slicePlaces
  have h1 : ¬ ((-1 : Int) > 0) := by decide
  simp only [h1, if_false]
  by_cases h : (n : Int) - 1 > -1
  · simp only [h, if_true]
    rw [show (- -1 : Int) = 1 by decide, Int.ediv_one]
    omega
  · simp only [h, if_false]
    omega
theorem adjust_rev (n : Nat) : Builtin.Slice.sliceAdjust none none (-1) (n : Int) = ((n : Int) - 1, -1) := by
  first
  | rfl
  | simp [Builtin.Slice.sliceAdjust]
theorem fmap_congr {α β : Type} {f g : α → Option β} : ∀ l : List α, (∀ a ∈ l, f a = g a) → l.filterMap f = l.filterMap g
  | [], _ => rfl
  | a :: l, h => by rw [List.filterMap_cons, List.filterMap_cons, h a List.mem_cons_self, fmap_congr l fun b hb => h b (List.mem_cons_of_mem _ hb)]
theorem pick_rev (xs : Array Value) : ((List.range xs.size).filterMap fun (m : Nat) => xs[(((xs.size : Nat) : Int) - 1 + (m : Int) * (-1)).toNat]?).toArray = xs.toList.reverse.toArray := by
  congr 1
  have e : (List.range xs.size).filterMap (fun (m : Nat) => xs[(((xs.size : Nat) : Int) - 1 + (m : Int) * (-1)).toNat]?) = ((List.range xs.size).map fun k => xs.size - 1 - k).filterMap (xs[·]?) := by
    rw [List.filterMap_map]
    refine fmap_congr _ fun m hm => ?_
    have := List.mem_range.mp hm
    show xs[(((xs.size : Nat) : Int) - 1 + (m : Int) * (-1)).toNat]? = xs[xs.size - 1 - m]?
    rw [show (((xs.size : Nat) : Int) - 1 + (m : Int) * (-1)).toNat = xs.size - 1 - m by omega]
  rw [e, PySem.W.krv_range, List.filterMap_reverse, PySem.W.krv_all]
section
variable {prog : Program} {w : World} {A : Around} {E : Value → Shared → Prop} {s : Shared}
theorem applied_rev {sl : Addr} {vs : Value} {n : Nat} {Q : Int × Int × Nat → Shared → Prop} (hs : s.heap.IsSliceOf sl .none .none vs) (ps : IsPart vs (some (-1))) (h : Q ((n : Int) - 1, -1, n) s) :
    wpAny (model prog w) A (Builtin.Slice.sliceApplied (.ref sl) (pure (n : Int))) Q E s := by
  obtain ⟨os, hos, hcs, hds⟩ := id hs
  unfold Builtin.Slice.sliceApplied; unfold Builtin.Slice.sliceFields
  refine wpAny_bind (wpAny_bind (wpAny_field hos hds (x := .none) rfl (wpAny_bind (wpAny_field hos hds (x := .none) rfl (wpAny_bind (wpAny_field hos hds (x := vs) rfl (wpAny_pure ?_)))))))
  refine wpAny_bind (slicePart_ ps ?_)
  show wpAny _ _ (if ((-1 : Int) == 0) = true then _ else _) _ _ s
  rw [if_neg (show ¬ ((-1 : Int) == 0) = true by decide)]
  refine wpAny_bind (slicePart_ .none (wpAny_bind (slicePart_ .none (wpAny_bind (wpAny_pure ?_)))))
  show wpAny _ _ (match Builtin.Slice.sliceAdjust none none (-1) (n : Int) with | (lo, hi) => pure (lo, (-1 : Int), Builtin.Slice.slicePlaces lo hi (-1))) _ _ s
  rw [adjust_rev n]
  show wpAny _ _ (pure ((n : Int) - 1, (-1 : Int), Builtin.Slice.slicePlaces ((n : Int) - 1) (-1) (-1))) _ _ s
  rw [places_rev]
  exact wpAny_pure h
theorem getItem_tuple_rev {t sl : Addr} {items : Array Value} {vs : Value} {Q : Value → Shared → Prop} (ht : IsTup s.heap t items) (hs : s.heap.IsSliceOf sl .none .none vs) (ps : IsPart vs (some (-1)))
    (h : Q (.ref s.heap.objs.size) { s with heap := s.heap.push { cls := .type "tuple", data := .seq items.toList.reverse.toArray } }) (hsz : items.size ≤ sizeLine) : wpAny (model prog w) A (getItem (.ref t) (.ref sl)) Q E s := by
  have hr : sizeOk (.seq items.toList.reverse.toArray) := by
    show items.toList.reverse.toArray.size ≤ sizeLine
    rw [List.size_toArray, List.length_reverse, Array.length_toList]
    exact hsz
  obtain ⟨os, hos, hcs, hds⟩ := id hs
  have hTs : s.TypeIs (.ref sl) "slice" := ⟨os, hos, hcs⟩; unfold getItem
  try with_reducible refine wpAny_holding ?_
  first | (refine wpAny_bind (wpAny_pure ?_)) | (skip)
  refine wpAny_bind (wpAny_sequenceKey ht.typeIs (show _ by decide) ?_)
  refine wpAny_bind (wpAny_callSpecial?_slot (name := Str.ofString "__getitem__") ht.typeIs PyProof.Rows.slot_tuple_getitem (wpAny_call_entry PyProof.Rows.slot_tuple_getitem ht.typeIs entry_tuple_getitem ?_ (args_tuple_getitem _ _)))
  show wpAny _ _ (Builtin.Tuple.tupleItemsOf (Value.ref t) >>= _) _ _ s
  refine wpAny_bind (tupleItemsOf_ ht ?_); refine wpAny_bind (wpAny_typeOf hTs ?_)
  rw [if_pos (show _ by decide)]
  refine wpAny_bind (applied_rev (n := items.size) hs ps ?_)
  have hno : ¬ (((((items.size : Nat) : Int) - 1) == 0 && (-1 : Int) == 1 && items.size == items.size) = true) := by
    rw [show ((-1 : Int) == 1) = false by decide, Bool.and_false, Bool.false_and]
    exact Bool.false_ne_true
  show wpAny _ _ (if ((((items.size : Nat) : Int) - 1) == 0 && (-1 : Int) == 1 && items.size == items.size) = true then _ else _) _ _ s
  rw [if_neg hno, pick_rev]
  first
    | exact wpAny_bind (m := Builtin.Tuple.tupleExact _) (wpAny_newObj_type (wpAny_pure ⟨_, rfl, wpAny_pure h⟩) hr)
    | exact wpAny_bind (m := Builtin.Tuple.tupleExact _) (wpAny_newObj_type (wpAny_bind (wpAny_pure (wpAny_pure ⟨_, rfl, wpAny_pure h⟩))) hr)
    | exact wpAny_bind (wpAny_bind (m := Builtin.Tuple.tupleExact _) (wpAny_newObj_type (wpAny_pure (wpAny_pure ⟨_, rfl, wpAny_pure h⟩)) hr))
    | exact wpAny_bind (wpAny_bind (m := Builtin.Tuple.tupleExact _) (wpAny_newObj_type (wpAny_pure ⟨_, rfl, wpAny_pure h⟩) hr))
end
def tRevT (K : PySem.W.Frag) (te : TE) : TE := fun σ H Q => te σ H fun x H1 => ∃ a xs, x = .ref a ∧ SqT K H1 a xs ∧ ∀ p, H1 p = none → Q (.ref p) (upd H1 p (.tup xs.reverse))
theorem pe_revT {X : Cx} {e : Expr} {te : TE} {k : Nat} {p1 p2 p3 pos : Pos} (he : PE X e te) : PE X (.Subscript e (.Slice none none (some (.UnaryOp .USub (.Constant (.int 1) k p1) p2)) p3) pos) (tRevT X.K te) := by
  refine ⟨fun pins s σ H Q I h => Subscript_ (thn (he.run pins s σ H _ I h) fun v s1 ⟨x, H1, I1, r1, q1⟩ => ?_)⟩
  obtain ⟨a, xs, rfl, hx, q⟩ := q1
  cases r1
  have hst : PO X (some (.UnaryOp .USub (.Constant (.int 1) k p1) p2)) (tPart (tUn (rU fun i => .int (-i)) (tC (.int 1)))) := po_some (pe_un un_neg pe_int)
  refine wpAny_Slice (thn (po_none.run pins s1 σ H1 (fun o H2 => o = none ∧ H2 = H1) I1 ⟨rfl, rfl⟩) fun vl s2 ⟨l, H2, I2, pl, el, e2⟩ => ?_)
  subst el; subst e2
  refine thn (po_none.run pins s2 σ H2 (fun o H3 => o = none ∧ H3 = H2) I2 ⟨rfl, rfl⟩) fun vu s3 ⟨u, H3, I3, pu, eu, e3⟩ => ?_
  subst eu; subst e3
  refine thn (hst.run pins s3 σ H3 (fun o H4 => o = some (-1) ∧ H4 = H3) I3 ⟨1, rfl, -1, rfl, rfl, rfl⟩) fun vs s4 ⟨o, H4, I4, ps, eo, e4⟩ => ?_
  subst eo; subst e4
  cases pl
  cases pu
  have I5 : Inv X pins σ H4 { s4 with heap := s4.heap.push { cls := .type "slice", data := .fields #[.none, .none, vs] } } := I4.kept (t' := s4.toks) fun b ob q => Heap.get?_push_of_some _ q
  obtain ⟨its, r, ht, hz⟩ := I5.tuple hx
  have hlen := r.length
  show wpAny (model X.prog X.w) X.A (subscriptTail e (.Slice none none (some (.UnaryOp .USub (.Constant (.int 1) k p1) p2)) p3) (.ref a) (.ref s4.heap.objs.size)) (EP X pins σ Q) X.xe { s4 with heap := s4.heap.push { cls := .type "slice", data := .fields #[.none, .none, vs] } }
  refine tail_any (ops := [.ref a, .ref s4.heap.objs.size]) ht.typeIs (PyProof.Rows.slot_tuple_getitem.lookup) ?_ (by with_unfolding_all rfl)
  refine getItem_tuple_rev ht (Heap.IsSliceOf.new _ .none .none vs) ps ?_ (by rw [List.size_toArray]; omega)
  refine ⟨.ref _, _, I5.laid (t' := s4.toks) (o := .tup xs.reverse) (fun b ob q => Heap.get?_push_of_some _ q) (Nat.le_refl _) ?_, rfl, q _ (I5.hok.fresh (Nat.le_refl _))⟩
  refine ⟨by rw [List.length_reverse]; exact hz, its.reverse, ?_, IsTup.new _ _⟩
  exact r.reverse
end L2
namespace L2
open PySem PySem.Spec PyProof.Rows
def freshSet (w : World) : Obj := { cls := .type "set", dict := none, data := .set #[] 0 (.fresh 0 0 (!w.params.followText "set-order")) }
section
variable {P : Program} {w : World} {A : Around} {E : Value → Shared → Prop} {s : Shared}
set_option maxRecDepth 100000 in
set_option maxHeartbeats 3200000 in
/-- set(xs), xs a list of ints -/
theorem call_setLst {l : Addr} {items : Array Value} (ns : List Int) {Q : Value → Shared → Prop} (hh : A.handled = none) (hl : s.heap.IsList l items) (hit : IntsAre items.toList ns) (hb : ns.length + 1 < scanBound)
    (h : ∀ (h' : Heap) (tk c : Nat), SetR w h' s.heap.objs.size (fun j => decide (j ∈ ns)) c → c ≤ ns.length → (∀ b o, s.heap.get? b = some o → h'.get? b = some o) → Q (.ref s.heap.objs.size) { s with heap := h', toks := tk }) :
    wpAny (model P w) A (call (.type "set") [Value.ref l]) Q E s := by
  have hisz : items.size = ns.length := by
    have q := IntsAre.length hit; rw [Array.length_toList] at q; exact q
  obtain ⟨c, tl, hmro⟩ := F.called_set.mro; have hmade := F.called_set.made; have hsub := F.called_set.sub
  refine wpAny_call (codeAny_of_tree ?_)
  show wpAny _ _ (callAny (.type "set") _) _ _ _
  refine wpAny_pure ⟨Code.quiet_builtin _ (show _ by decide +kernel), codeAny_builtin F.entry_type_call ?_⟩
  rw [Around.under_plain (weight_type_call_type "set" [Value.ref l] []) rfl]
  have h1 := F.called_set.notType; have h2 := F.called_set.canCreate; have hct := F.typeCall_set_1 (.ref l)
  repeat (any_goals (first | (assumption) | (wp_step)))
  refine codeAny_mono (code_set_led1 (.ref l) (E := E) (Q₁ := fun obj s₁ => obj = .ref s.heap.objs.size ∧ s₁ = { s with heap := s.heap.push (freshSet w) }) ⟨rfl, rfl⟩) fun r s₁ hr => ?_
  rcases r with e | fl
  · exact hr
  · cases fl with
    | ret obj =>
      obtain ⟨rfl, rfl⟩ := hr
      have hS : (s.heap.push (freshSet w)).get? s.heap.objs.size = some (freshSet w) := Heap.get?_push_size _ rfl
      have hT : Shared.TypeIs { s with heap := s.heap.push (freshSet w) } (.ref s.heap.objs.size) "set" := ⟨_, hS, rfl⟩
      have hli := F.called_set.init.lookup; have hbi := F.called_set.init.bind (.ref s.heap.objs.size)
      repeat (any_goals (first | (assumption) | (wp_step)))
      refine codeAny_mono (codeAny_call_builtin (R := wants (fun r s₂ => r = .none ∧ ∃ h' tk c, s₂ = { s with heap := h', toks := tk } ∧ SetR w h' s.heap.objs.size (fun j => decide (j ∈ ns)) c ∧ c ≤ ns.length ∧ (∀ b o, s.heap.get? b = some o → h'.get? b = some o)) E)
        F.called_set.init.plain F.entry_set_init (check_set_init_1 hT ?_)) fun r₂ s₂ hr₂ => ?_
      · obtain ⟨⟨ocls, odict, odata, oslots⟩, hol, hcl, nl, hdl⟩ := hl
        simp only at hcl hdl
        subst hcl hdl
        have hol' : (s.heap.push (freshSet w)).get? l = some { cls := .type "list", dict := odict, data := .seq items nl, slots := oslots } := Heap.get?_push_of_some _ hol
        have hsls := F.sub_list_set; have hslf := F.sub_list_frozenset
        have hne : (Value.type "list" == Value.type "dict") = false := show _ by decide
        have hl1 : (s.heap.push (freshSet w)).IsList l items := ⟨_, hol', rfl, nl, rfl⟩
        unfold Builtin.«set.__init__»; unfold noKeywords; unfold Builtin.Frozenset.updateFrom
        generalize hPI : pyIter = PI
        wp_walk; subst hPI
        refine wpAny_pyIter_list hl1 ?_; refine wpAny_bind (wpAny_runValue ?_)
        have hlS : l < s.heap.objs.size := Heap.lt_size hol
        have hh3 : A.in1.in1.in1.handled = none := by simp [hh]
        have hneI : l ≠ (s.heap.push (freshSet w)).objs.size := by
          rw [Heap.size_push]; exact (Nat.ne_of_lt (Nat.lt_succ_of_lt hlS))
        have hSf : s.heap.objs.size ∉ [(s.heap.push (freshSet w)).objs.size, l] := by
          rw [Heap.size_push]; simp only [List.mem_cons, List.mem_singleton, List.not_mem_nil, or_false, not_or]; exact ⟨Nat.ne_of_lt (Nat.lt_succ_self _), Nat.ne_of_gt hlS⟩
        have hval : ∀ (i : Nat) (v : Value), items[i]? = some v → ∃ k t, ns[i]? = some k ∧ v = .int k t := fun i v hv => by
          have hi : i < ns.length := hisz ▸ (Array.getElem?_eq_some_iff.mp hv).1
          obtain ⟨t, e⟩ := PyProof.Rows.IntsAre.int_at hit i v (by rw [Array.getElem?_toList] <;> exact hv)
          exact ⟨ns[i], t, List.getElem?_eq_getElem hi, by rw [e, List.getD_eq_getElem?_getD, List.getElem?_eq_getElem hi] <;> rfl⟩
        refine set_update_ints ((Walks.list hh3 _ l hneI items).toS) s.heap.objs.size hSf ns hisz hb hval (items.size - 0) 0 _ (by omega) (Nat.zero_le _) ⟨⟨_, Heap.get?_push_size _ rfl, rfl, rfl⟩, (hl1.push _)⟩ ?hS0 ?hR
        case hS0 =>
          have hget : ((s.heap.push (freshSet w)).push { cls := .type "list_iterator", data := .fields #[.ref l, .int 0 0] }).get? s.heap.objs.size = some (freshSet w) := Heap.get?_push_of_some _ hS
          exact ⟨0, (Nat.le_refl 0), setR_new_at hget⟩
        case hR =>
          intro s' c' hm hc' hS'
          obtain ⟨h', g2, d', tk', os'⟩ := s'
          have eg : g2 = s.gens := hm.gens; have ed : d' = s.drawn := hm.drawn; have eo : os' = s.os := hm.os
          subst eg ed eo
          show wpAny _ _ _ _ _ _; refine wpAny_pure ?_
          show wpAny _ _ (ret Value.none) _ _ _; rw [hisz] at hc'
          refine wpAny_pure ⟨rfl, h', tk', c', rfl, hS', hc', fun b o e => hm.heap b o ?_ (Heap.get?_push_of_some _ (Heap.get?_push_of_some _ e))⟩
          have hb0 : b < s.heap.objs.size := Heap.lt_size e
          simp only [List.mem_cons, List.mem_singleton, List.not_mem_nil, or_false, not_or, Heap.size_push]
          exact ⟨Nat.ne_of_lt hb0, Nat.ne_of_lt (Nat.lt_succ_of_lt hb0)⟩
      · rcases r₂ with e | fl₂
        · exact hr₂
        · cases fl₂ with
          | ret r =>
            obtain ⟨rfl, h', tk, c', rfl, hS', hc', hk'⟩ := hr₂
            repeat (any_goals (first | (assumption) | (wp_step)))
            exact (h _ _ _ hS' hc' hk')
          | _ => exact (hr₂.elim)
    | _ => exact (hr.elim)
end
def rSetLst (K : PySem.W.Frag) (w : World) : List V → Hp → VK → Prop := fun vs H Q => ∃ (a : Addr) (ns : List Int), vs = [V.ref a] ∧ SqL K H a (ns.map V.int) ∧ ns.length ≤ 1000 ∧
  ∀ (p : Addr) (c : Nat), H p = none → c ≤ ns.length → Q (.ref p) (upd H p (SetO w p (fun j => decide (j ∈ ns)) c))
theorem cr_setL {X : Cx} (hc : X.calm = true) : CallR X (.type "set") (rSetLst X.K X.w) := by
  intro pins s σ H xs us Q I r h
  obtain ⟨a, ns, rfl, hq, hl, q⟩ := h
  rw [Vals.ref1 r]
  obtain ⟨its, rv, pt, hz⟩ := I.list hq
  have hi : IntsAre its.toArray.toList ns := ints_of_vals rv
  refine call_setLst ns (I.ok.hd hc) pt.isList hi (by unfold scanBound; omega) fun h' tk c R1 hcn k => ?_
  exact ⟨.ref _, upd H s.heap.objs.size (SetO X.w s.heap.objs.size (fun j => decide (j ∈ ns)) c), I.laid (t' := tk) k (Nat.le_refl _) (setO_new R1), rfl, q _ c (I.hok.fresh (Nat.le_refl _)) hcn⟩
/-- len(s) of a set of ints: so many unlike members -/
def rLenSet (w : World) : List V → Hp → VK → Prop := fun vs H Q => ∃ (a : Addr) (S : Int → Bool) (n : Nat), vs = [V.ref a] ∧ H a = some (SetO w a S n) ∧ ((∃ ms : List Int, ms.Nodup ∧ ms.length = n ∧ ∀ k, S k = true ↔ k ∈ ms) → Q (.int (n : Nat)) H)
theorem cr_lenSet {X : Cx} : CallR X (.builtin "len") (rLenSet X.w) := by
  intro pins s σ H vs us Q I r h
  obtain ⟨a, S, n, rfl, ha, q⟩ := h
  obtain ⟨o, es, ep, t, ho, hx, hd, g, nd, hm, hb, hf, hn, _⟩ := setO_get I ha
  rw [Vals.ref1 r]
  refine call_len_set ho hx hd hf (by unfold scanBound at hb; omega) ⟨.int (n : Nat), H, I.tok _, ⟨_, by rw [hn]⟩, q ⟨es.toList.map keyOf, nd, by rw [List.length_map, Array.length_toList]; exact hn, hm⟩⟩
end L2

namespace Law
open PySem L2
/-! ### lowest terms -/
def gI (t b : Int) : Int := ((Nat.gcd t.natAbs b.natAbs : Nat) : Int)
theorem gI_pos {t b : Int} (h : 0 < b) : 0 < gI t b := by
  have z : 0 < Nat.gcd t.natAbs b.natAbs := Nat.gcd_pos_of_pos_right _ (by omega)
  unfold gI
  omega
def lowP (t b : Int) : Fr := (t / gI t b, b / gI t b)
section
variable {P : Program} {w : World} {K : PySem.W.Frag} {mg : Str → Option Value} {base : Heap}
theorem gI_step {x y : Int} (hx : 0 ≤ x) (hy : 0 < y) : gI y (x % y) = gI x y := by
  obtain ⟨a, rfl⟩ := Int.eq_ofNat_of_zero_le hx
  obtain ⟨c, rfl⟩ := Int.eq_ofNat_of_zero_le (Int.le_of_lt hy)
  unfold gI
  rw [← Int.natCast_emod, Int.natAbs_natCast, Int.natAbs_natCast, Int.natAbs_natCast, Nat.gcd_comm c, ← Nat.gcd_rec, Nat.gcd_comm]
theorem gI_zero {x : Int} (hx : 0 ≤ x) : gI x 0 = x := by
  unfold gI
  rw [show (0 : Int).natAbs = 0 from rfl, Nat.gcd_zero_right]
  omega
end
end Law


namespace Law
open PySem L2
/-! ### states with a hand -/
theorem keep_sqT {K : PySem.W.Frag} {H H' : Hp} {a p : Addr} {xs : List V} (k : ∀ b o, b ≠ p → H b = some o → H' b = some o) (hp : ∃ ks, H p = some (.dK ks)) (h : SqT K H a xs) : SqT K H' a xs := by
  obtain ⟨ks, hp⟩ := hp
  rcases h with (h | ⟨o, h⟩) | h
  · exact .inl (.inl (k _ _ (ne_of h hp (by intro z; cases z)) h))
  · exact .inl (.inr ⟨o, k _ _ (ne_of h hp (by intro z; cases z)) h⟩)
  · exact .inr h
theorem HandAt.dk {H : Hp} {p : Addr} (h : HandAt H p) : ∃ ks, H p = some (.dK ks) := by
  obtain ⟨ca, cells, a, g, s, t, hp, _⟩ := h
  exact ⟨_, hp⟩
theorem HandAt.same {H H' : Hp} {p : Addr} (s : Same H H') (h : HandAt H p) : HandAt H' p := by
  obtain ⟨ca, cells, a, g, s0, t, hp, hc, r⟩ := h
  exact ⟨ca, cells, a, g, s0, t, s _ _ hp, s _ _ hc, r⟩
theorem Stp.pre {p : Addr} {H H1 H2 : Hp} (s : Same H H1) (t : Stp p H1 H2) : Stp p H H2 := ⟨fun b o n e => t.keep b o n (s b o e), fun c ⟨a, g, s0, u, h⟩ => t.cell c ⟨a, g, s0, u, s _ _ h⟩, t.hand⟩
theorem Stp.post {p : Addr} {H H1 H2 : Hp} (t : Stp p H H1) (s : Same H1 H2) : Stp p H H2 := ⟨fun b o n e => s _ _ (t.keep b o n e), fun c hc => by
  obtain ⟨a, g, s0, u, h⟩ := t.cell c hc
  exact ⟨a, g, s0, u, s _ _ h⟩, t.hand.same s⟩
theorem Stp.of {p : Addr} {H H' : Hp} (h : HandAt H p) (s : Same H H') : Stp p H H' := (Stp.refl h).post s
theorem atI_nat {xs : List V} {i : Nat} {x : V} (h : xs[i]? = some x) : atI xs ((i : Nat) : Int) = some x := by
  unfold atI
  rw [Evl.ixN_nat (List.getElem?_eq_some_iff.mp h).1]
  exact h
theorem at_len {xs : List V} {i : Nat} (h : i < xs.length) : ∃ x, xs[i]? = some x ∧ x ∈ xs ∧ atI xs ((i : Nat) : Int) = some x := ⟨xs[i], List.getElem?_eq_getElem h, List.getElem_mem h, atI_nat (List.getElem?_eq_getElem h)⟩
theorem ats0 (x y : V) : atI [x, y] (0 : Int) = some x := atI_nat (i := 0) rfl
theorem ats1 (x y : V) : atI [x, y] (1 : Int) = some y := atI_nat (i := 1) rfl
end Law

namespace Law
open PySem L2
/-! ### the product of two, the size -/
section
variable {P : Program} {w : World} {K : PySem.W.Frag} {mg : Str → Option Value} {base : Heap}
end
/-! ### shares that are one together -/
theorem lcm_dvd_fold : ∀ (fs : List Fr) (m n : Nat), n ∣ m → n ∣ fs.foldl (fun m f => Nat.lcm m f.2.natAbs) m
  | [], _, _, h => h
  | f :: fs, m, n, h => lcm_dvd_fold fs _ n (Nat.dvd_trans h (Nat.dvd_lcm_left _ _))
theorem dvd_fold : ∀ (fs : List Fr) (m : Nat) (f : Fr), f ∈ fs → f.2.natAbs ∣ fs.foldl (fun m f => Nat.lcm m f.2.natAbs) m
  | [], _, _, h => nomatch h
  | g :: fs, m, f, h => by
    rcases List.mem_cons.mp h with rfl | h
    · exact lcm_dvd_fold fs _ _ (Nat.dvd_lcm_right _ _)
    · exact dvd_fold fs _ f h
theorem dvd_lcmAll {fs : List Fr} {f : Fr} (h : f ∈ fs) : f.2.natAbs ∣ lcmAll fs := dvd_fold fs 1 f h
theorem sum_scale (S : Int) (g : Int → Int) (L : Int) : ∀ ws : List Int, (∀ x ∈ ws, S * g x = x * L) → S * (ws.map g).sum = ws.sum * L
  | [], _ => by simp
  | x :: ws, h => by
    rw [List.map_cons, List.sum_cons, List.sum_cons, Int.mul_add, Int.add_mul, h x List.mem_cons_self, sum_scale S g L ws fun y hy => h y (List.mem_cons_of_mem _ hy)]
theorem lowP_cross {t b : Int} (hb : 0 < b) : b * (lowP t b).1 = t * (lowP t b).2 := by
  have gp := gI_pos (t := t) hb
  have d1 : gI t b ∣ t := by
    unfold gI
    exact Int.ofNat_dvd_left.mpr (Nat.gcd_dvd_left _ _)
  have d2 : gI t b ∣ b := by
    unfold gI
    exact Int.ofNat_dvd_left.mpr (Nat.gcd_dvd_right _ _)
  show b * (t / gI t b) = t * (b / gI t b)
  rw [← Int.mul_ediv_assoc _ d1, ← Int.mul_ediv_assoc _ d2, Int.mul_comm]
theorem lowP_pos {t b : Int} (ht : 0 < t) (hb : 0 < b) : 0 < (lowP t b).1 ∧ 0 < (lowP t b).2 := by
  have gp := gI_pos (t := t) hb
  have d1 : gI t b ∣ t := by
    unfold gI
    exact Int.ofNat_dvd_left.mpr (Nat.gcd_dvd_left _ _)
  have d2 : gI t b ∣ b := by
    unfold gI
    exact Int.ofNat_dvd_left.mpr (Nat.gcd_dvd_right _ _)
  exact ⟨Int.ediv_pos_of_pos_of_dvd ht (Int.le_of_lt gp) d1, Int.ediv_pos_of_pos_of_dvd hb (Int.le_of_lt gp) d2⟩
theorem lowP_le {t b : Int} (ht : 0 ≤ t) (hb : 0 < b) : (lowP t b).1 ≤ t ∧ (lowP t b).2 ≤ b := ⟨Int.ediv_le_self _ ht, Int.ediv_le_self _ (Int.le_of_lt hb)⟩
theorem lowP_cop {t b : Int} (ht : 0 ≤ t) (hb : 0 < b) : Nat.gcd (lowP t b).1.natAbs (lowP t b).2.natAbs = 1 := by
  obtain ⟨a, rfl⟩ := Int.eq_ofNat_of_zero_le ht
  obtain ⟨c, rfl⟩ := Int.eq_ofNat_of_zero_le (Int.le_of_lt hb)
  have z : 0 < Nat.gcd a c := Nat.gcd_pos_of_pos_right _ (by omega)
  have e : ∀ x : Nat, ((x : Int) / gI (a : Int) (c : Int)).natAbs = x / Nat.gcd a c := fun x => by
    unfold gI
    rw [Int.natAbs_natCast, Int.natAbs_natCast, ← Int.natCast_ediv, Int.natAbs_natCast]
  show Nat.gcd ((a : Int) / gI (a : Int) (c : Int)).natAbs ((c : Int) / gI (a : Int) (c : Int)).natAbs = 1
  rw [e, e]
  exact Nat.coprime_div_gcd_div_gcd z
theorem sum_pos : ∀ ws : List Int, ws ≠ [] → (∀ x ∈ ws, 0 < x) → 0 < ws.sum ∧ ∀ x ∈ ws, x ≤ ws.sum
  | [], h, _ => absurd rfl h
  | [x], _, h => by
    have := h x List.mem_cons_self
    simp
    omega
  | x :: y :: ws, _, h => by
    obtain ⟨h1, h2⟩ := sum_pos (y :: ws) (by simp) fun z hz => h z (List.mem_cons_of_mem _ hz)
    have h3 := h x List.mem_cons_self
    rw [List.sum_cons]
    refine ⟨by omega, fun z hz => ?_⟩
    rcases List.mem_cons.mp hz with rfl | hz
    · omega
    · have := h2 z hz
      omega
theorem sum_le (B : Int) : ∀ ws : List Int, (∀ x ∈ ws, x ≤ B) → ws.sum ≤ (ws.length : Int) * B
  | [], _ => by simp
  | x :: ws, h => by
    have h1 := sum_le B ws fun z hz => h z (List.mem_cons_of_mem _ hz)
    have h2 := h x List.mem_cons_self
    rw [List.sum_cons, List.length_cons, Int.natCast_add, Int.add_mul]
    simp
    omega
/-- a weight's share: in lowest terms, of moderate size -/
theorem share_ok {t b : Int} (ht : 0 < t) (h1 : t ≤ b) (h2 : b < 2 ^ 40) : FrOk (lowP t b) ∧ 0 < (lowP t b).1 ∧ Nat.gcd (lowP t b).1.natAbs (lowP t b).2.natAbs = 1 := by
  have hb : 0 < b := by omega
  obtain ⟨p1, p2⟩ := lowP_pos ht hb
  obtain ⟨l1, l2⟩ := lowP_le (Int.le_of_lt ht) hb
  refine ⟨⟨p2, ?_, ?_⟩, p1, lowP_cop (Int.le_of_lt ht) hb⟩ <;> omega
theorem one_of {ws : List Int} (hn : ws ≠ []) (h : ∀ x ∈ ws, 0 < x) : OneOk (ws.map fun x => lowP x ws.sum) := by
  obtain ⟨s0, s1⟩ := sum_pos ws hn h
  unfold OneOk topsOf
  rw [List.map_map]
  have q := sum_scale ws.sum ((fun f : Fr => f.1 * (((lcmAll (ws.map fun x => lowP x ws.sum) : Nat) : Int) / f.2)) ∘ fun x => lowP x ws.sum) ((lcmAll (ws.map fun x => lowP x ws.sum) : Nat) : Int) ws fun x hx => by
    obtain ⟨p1, p2⟩ := lowP_pos (h x hx) s0
    have d : (lowP x ws.sum).2 ∣ ((lcmAll (ws.map fun x => lowP x ws.sum) : Nat) : Int) := by
      have d0 := dvd_lcmAll (List.mem_map.mpr ⟨x, hx, rfl⟩ : lowP x ws.sum ∈ ws.map fun x => lowP x ws.sum)
      exact Int.ofNat_dvd_right.mpr d0
    show ws.sum * ((lowP x ws.sum).1 * (_ / (lowP x ws.sum).2)) = _
    rw [← Int.mul_assoc, lowP_cross s0, Int.mul_assoc, Int.mul_ediv_cancel' d]
  exact Int.eq_of_mul_eq_mul_left (by omega) q
end Law


namespace Law
open PySem L2
/-! ### the shares -/
theorem Stp.free {p W : Addr} {H H' : Hp} (S : Stp p H H') (h : H' W = none) : H W = none := by
  cases e : H W with
  | none => rfl
  | some o =>
    by_cases n : W = p
    · obtain ⟨ks, hp⟩ := S.hand.dk
      rw [n, hp] at h
      cases h
    · rw [S.keep W o n e] at h
      cases h
theorem sqT_upd {K : PySem.W.Frag} {H : Hp} {a D : Addr} {acc xs : List V} {o : HO} (hD : H D = some (.lst acc)) (h : SqT K H a xs) : SqT K (upd H D o) a xs := by
  rcases h with (z | ⟨q, z⟩) | z
  · refine .inl (.inl ?_)
    rw [upd_ne (ne_of z hD (by intro y; cases y))]
    exact z
  · refine .inl (.inr ⟨q, ?_⟩)
    rw [upd_ne (ne_of z hD (by intro y; cases y))]
    exact z
  · exact .inr z
theorem snoc_get {α : Type} {xs : List α} {y v : α} {i : Nat} (h : (xs ++ [y])[i]? = some v) : (i < xs.length ∧ xs[i]? = some v) ∨ (i = xs.length ∧ y = v) := by
  by_cases hi : i < xs.length
  · rw [List.getElem?_append_left hi] at h
    exact .inl ⟨hi, h⟩
  · have z := (List.getElem?_eq_some_iff.mp h).1
    rw [List.length_append] at z
    simp at z
    have e : i = xs.length := by omega
    subst e
    rw [List.getElem?_append_right (Nat.le_refl _), Nat.sub_self] at h
    exact .inr ⟨rfl, Option.some.inj h⟩
theorem FrsIn.snoc {K : PySem.W.Frag} {H : Hp} {D : Addr} {acc : List V} {fs : List Fr} {v : V} {f : Fr} (h : FrsIn K H acc fs) (hD : H D = some (.lst acc)) (hv : FrAt K H v f) : FrsIn K (upd H D (.lst (acc ++ [v]))) (acc ++ [v]) (fs ++ [f]) := by
  refine ⟨by rw [List.length_append, List.length_append, h.1]; rfl, fun i u hu => ?_⟩
  rcases snoc_get hu with ⟨hi, e⟩ | ⟨hi, e⟩
  · obtain ⟨g, h1, s, h2, h3⟩ := h.2 i u e
    exact ⟨g, by rw [List.getElem?_append_left (by rw [← h.1]; exact hi)]; exact h1, s, h2, sqT_upd hD h3⟩
  · obtain ⟨s, h2, h3⟩ := hv
    subst e
    refine ⟨f, ?_, s, h2, sqT_upd hD h3⟩
    rw [List.getElem?_append_right (by rw [hi, h.1]; exact Nat.le_refl _), hi, h.1, Nat.sub_self]
    rfl
theorem Stp.fr {p : Addr} {K : PySem.W.Frag} {H H' : Hp} {vs : List V} {fs : List Fr} (S : Stp p H H') (hp : HandAt H p) (h : FrsIn K H vs fs) : FrsIn K H' vs fs := ⟨h.1, fun i v hv => by
  obtain ⟨f, h1, s, h2, h3⟩ := h.2 i v hv
  exact ⟨f, h1, s, h2, S.sqT hp h3⟩⟩
def FrGood (f : Fr) : Prop := FrOk f ∧ 0 < f.1 ∧ Nat.gcd f.1.natAbs f.2.natAbs = 1
section
variable {P : Program} {w : World} {K : PySem.W.Frag} {mg : Str → Option Value} {base : Heap}
end
end Law


namespace Law
open PySem L2
/-! ### where a move leads -/
/-- a list of whole numbers below n grows at D -/
def Grow (p D : Addr) (H : Hp) (n : Int) : Nat → Hp → Prop := fun i H' => Stp p H H' ∧ ∃ ws : List Int, H' D = some (.lst (ws.map V.int)) ∧ ws.length = i ∧ ∀ x ∈ ws, 0 ≤ x ∧ x < n
theorem Grow.zero {p D : Addr} {H : Hp} {n : Int} (hH : HandAt H p) (hD : H D = none) : Grow p D H n 0 (upd H D (.lst [])) := ⟨Stp.of hH (Same.new hD), [], upd_same, rfl, fun x hx => absurd hx List.not_mem_nil⟩
theorem Grow.put {p D : Addr} {H H1 H2 : Hp} {n x : Int} {i : Nat} (hH : HandAt H p) (hD : H D = none) (g : Grow p D H n i H1) (S : Stp p H1 H2) (hi : i ≤ 999) (x0 : 0 ≤ x) (x1 : x < n) :
    ∃ acc, H2 D = some (.lst acc) ∧ acc.length < sizeLine ∧ Grow p D H n (i + 1) (upd H2 D (.lst (acc ++ [V.int x]))) := by
  obtain ⟨S1, ws, h1, h2, h3⟩ := g
  have nD : D ≠ p := ne_of h1 S1.hand.dk.choose_spec (by intro z; cases z)
  refine ⟨_, S.keep _ _ nD h1, ?_, (S1.trans S).mut hH hD, ws ++ [x], ?_, ?_, ?_⟩
  · rw [List.length_map, h2]
    exact small1000 (by omega)
  · rw [upd_same, List.map_append] <;> rfl
  · rw [List.length_append, h2] <;> rfl
  · intro y hy
    rcases List.mem_append.mp hy with hy | hy
    · exact h3 y hy
    · rw [List.mem_singleton.mp hy]
      exact ⟨x0, x1⟩
section
variable {P : Program} {w : World} {K : PySem.W.Frag} {mg : Str → Option Value} {base : Heap}
end
end Law


namespace Law
open PySem L2
/-! ### drawn moves -/
theorem Stp.mvAt {p : Addr} {K : PySem.W.Frag} {H H' : Hp} {v : V} {m : Mv} (S : Stp p H H') (hp : HandAt H p) (h : MvAt K H v m) : MvAt K H' v m := by
  obtain ⟨a, s, l, h1, h2, h3, h4⟩ := h
  exact ⟨a, s, l, h1, S.sqT hp h2, S.sqT hp h3, S.sqT hp h4⟩
theorem Stp.mv {p : Addr} {K : PySem.W.Frag} {H H' : Hp} {vs : List V} {ms : List Mv} (S : Stp p H H') (hp : HandAt H p) (h : MvsIn K H vs ms) : MvsIn K H' vs ms := ⟨h.1, fun i v hv => by
  obtain ⟨m, h1, h2⟩ := h.2 i v hv
  exact ⟨m, h1, S.mvAt hp h2⟩⟩
theorem Stp.mvs {p : Addr} {K : PySem.W.Frag} {H H' : Hp} {a : Addr} {ms : List Mv} (S : Stp p H H') (hp : HandAt H p) (h : MvsAt K H a ms) : MvsAt K H' a ms := by
  obtain ⟨vs, h1, h2⟩ := h
  exact ⟨vs, S.sqT hp h1, S.mv hp h2⟩
theorem mvAt_upd {K : PySem.W.Frag} {H : Hp} {D : Addr} {acc : List V} {o : HO} {v : V} {m : Mv} (hD : H D = some (.lst acc)) (h : MvAt K H v m) : MvAt K (upd H D o) v m := by
  obtain ⟨a, s, l, h1, h2, h3, h4⟩ := h
  exact ⟨a, s, l, h1, sqT_upd hD h2, sqT_upd hD h3, sqT_upd hD h4⟩
theorem MvsIn.snoc {K : PySem.W.Frag} {H : Hp} {D : Addr} {acc : List V} {ms : List Mv} {v : V} {m : Mv} (h : MvsIn K H acc ms) (hD : H D = some (.lst acc)) (hv : MvAt K H v m) : MvsIn K (upd H D (.lst (acc ++ [v]))) (acc ++ [v]) (ms ++ [m]) := by
  refine ⟨by rw [List.length_append, List.length_append, h.1]; rfl, fun i u hu => ?_⟩
  rcases snoc_get hu with ⟨hi, e⟩ | ⟨hi, e⟩
  · obtain ⟨g, h1, h2⟩ := h.2 i u e
    exact ⟨g, by rw [List.getElem?_append_left (by rw [← h.1]; exact hi)]; exact h1, mvAt_upd hD h2⟩
  · subst e
    refine ⟨m, ?_, mvAt_upd hD hv⟩
    rw [List.getElem?_append_right (by rw [hi, h.1]; exact Nat.le_refl _), hi, h.1, Nat.sub_self]
    rfl
section
variable {P : Program} {w : World} {K : PySem.W.Frag} {mg : Str → Option Value} {base : Heap}
/-- moves that are drawn: as a System may have them, their shares of moderate size -/
structure MvsOk (many : Nat) (ms : List Mv) : Prop where
  ok : SysOk many ms
  lt : ∀ m ∈ ms, m.1.1 < 2 ^ 40 ∧ m.1.2 < 2 ^ 40
end
end Law


namespace L2
open PySem PySem.Spec PyProof.Rows
/-! ### (x,) * n for every n; t.count(k); set(t) of a tuple of ints -/
theorem tuple_mul0 (l : Addr) (items : Array Value) (n : Nat) (dd : Option Addr) (sl : Array (Option Value)) (u : Tok) (hi : items.isEmpty = false) :
    Meets (Builtin.«tuple.__mul__» ⟨[.ref l, .int 0 u], []⟩) (fun _ R s => s.heap.get? l = some { cls := .type "tuple", dict := dd, data := .seq items n, slots := sl } ∧
      R (.ok (.ret (Value.ref s.heap.objs.size))) { s with heap := s.heap.push { cls := Value.type "tuple", data := Data.seq #[] }, toks := s.toks }) :=
  .of_wp fun prog w A R s h => by
    obtain ⟨hp, g, d, tk, os⟩ := s
    obtain ⟨hl, h⟩ := h
    have f1 := AutoSeq1.idx_int
    have c1 : (items.isEmpty || (0 : Int) == 1) = false := by rw [hi] <;> rfl
    wp_walk using wpAny_loadPart' hl
    repeat (first
      | (refine wpAny_ite_false (decide_eq_false (by decide)) ?_; wp_walk using wpAny_loadPart' hl)
      | (refine wpAny_ite_false (decide_eq_false (by rw [c1]; exact Bool.false_ne_true)) ?_; wp_walk using wpAny_loadPart' hl)
      | (refine wpAny_ite_true (decide_eq_true (by simp)) ?_; wp_walk using wpAny_loadPart' hl))
    exact ⟨_, rfl, h⟩
theorem tuple_mul1 (l : Addr) (items : Array Value) (n : Nat) (dd : Option Addr) (sl : Array (Option Value)) (u : Tok) :
    Meets (Builtin.«tuple.__mul__» ⟨[.ref l, .int 1 u], []⟩) (fun _ R s => s.heap.get? l = some { cls := .type "tuple", dict := dd, data := .seq items n, slots := sl } ∧ R (.ok (.ret (Value.ref l))) s) :=
  .of_wp fun prog w A R s h => by
    obtain ⟨hp, g, d, tk, os⟩ := s
    obtain ⟨hl, h⟩ := h
    have f1 := AutoSeq1.idx_int
    have c1 : (items.isEmpty || (1 : Int) == 1) = true := by simp
    wp_walk using wpAny_loadPart' hl
    repeat (first
      | (refine wpAny_ite_false (decide_eq_false (by decide)) ?_; wp_walk using wpAny_loadPart' hl)
      | (refine wpAny_ite_true (decide_eq_true (by rw [c1])) ?_; wp_walk using wpAny_loadPart' hl, wpAny_typeOf' ⟨_, hl, rfl⟩))
    exact ⟨_, rfl, h⟩
def rCntT (K : PySem.W.Frag) : V → List V → Hp → VK → Prop := fun x xs H Q => ∃ (p : Addr) (ns : List Int) (k : Int), x = .ref p ∧ xs = [.int k] ∧ SqT K H p (ns.map V.int) ∧ Q (.int (ns.count k : Nat)) H
def rSetI (K : PySem.W.Frag) (w : World) : List V → Hp → VK → Prop := fun vs H Q => ∃ (a : Addr) (ns : List Int), vs = [V.ref a] ∧ SqT K H a (ns.map V.int) ∧ ns.length ≤ 1000 ∧
  ∀ (p : Addr) (c : Nat), H p = none → c ≤ ns.length → Q (.ref p) (upd H p (SetO w p (fun j => decide (j ∈ ns)) c))
section
variable {X : Cx}
theorem mt_tcount : MtR X "tuple.count" (rCntT X.K) := by
  intro pins s σ H x xs v us Q I rx rxs h
  obtain ⟨p, ns, k, rfl, rfl, hs, q⟩ := h
  cases rx
  obtain ⟨u, rfl, ru⟩ := rxs.one
  obtain ⟨t, rfl⟩ := ru
  obtain ⟨its, rv, ⟨⟨cls, dd, data, sl⟩, ho, hc, n, hd⟩, hlen⟩ := I.tuple hs
  simp only at hc hd
  subst hc hd
  have hi := ints_of_vals rv
  refine call_meets PySem.F.slot_tuple_count ⟨_, ho, rfl⟩ PySem.F.entry_tuple_count (PySem.F.args_tuple_count_2 _ _)
    (SeqAt.tuple_countAt p its.toArray n dd sl (.int k t) (eqk k)) ⟨ho, fun y hy => (eqk_gives hi y (by simpa using hy)).at _ _, ?_⟩
  have ec : its.toArray.toList.countP (eqk k) = ns.count k := eqk_count hi
  refine ⟨.int (ns.count k : Nat), H, I.tok _, ⟨s.toks, ?_⟩, q⟩
  show Value.int ((its.toArray.toList.countP (eqk k) : Nat) : Int) s.toks = Value.int ((ns.count k : Nat) : Int) s.toks
  rw [ec]
theorem cr_setI (hc : X.calm = true) : CallR X (.type "set") (rSetI X.K X.w) := by
  intro pins s σ H xs us Q I r h
  obtain ⟨a, ns, rfl, hq, hl, q⟩ := h
  rw [Vals.ref1 r]
  obtain ⟨its, rv, pt, hz⟩ := I.tuple hq
  have hi : IntsAre its.toArray.toList ns := ints_of_vals rv
  refine call_set_tupI ns (I.ok.hd hc) (show s.heap.IsTuple a its.toArray from pt) hi (by unfold scanBound; omega) fun h' tk c R1 hcn k => ?_
  exact ⟨.ref _, upd H s.heap.objs.size (SetO X.w s.heap.objs.size (fun j => decide (j ∈ ns)) c), I.laid (t' := tk) k (Nat.le_refl _) (setO_new R1), rfl, q _ c (I.hok.fresh (Nat.le_refl _)) hcn⟩
def rRepI (K : PySem.W.Frag) : R2 := fun x y H Q => ∃ l k xs, x = .ref l ∧ y = .int k ∧ SqT K H l xs ∧ xs ≠ [] ∧ 0 ≤ k ∧ k ≤ 1000 ∧ xs.length ≤ 1000 ∧
  (k = 0 → ∀ p, H p = none → Q (.ref p) (upd H p (.tup []))) ∧ (k = 1 → Q (.ref l) H) ∧ (2 ≤ k → ∀ p, H p = none → Q (.ref p) (upd H p (.tup (List.replicate k.toNat xs).flatten)))
theorem op_repI : OpR X (binaryOp .Mult) (rRepI X.K) := by
  intro pins s σ H x y v u Q I rx ry h
  obtain ⟨l, k, xs, rfl, rfl, hT, hne, h1, h2, hz, q0, q1, q2⟩ := h
  by_cases k2 : 2 ≤ k
  · exact op_repT pins s σ H _ _ v u Q I rx ry ⟨l, k, xs, rfl, rfl, hT, hne, k2, h2, hz, q2 k2⟩
  cases rx
  obtain ⟨t, rfl⟩ := ry
  obtain ⟨its, r, ⟨⟨cls, dd, data, sl⟩, ho, hc, n, hd⟩, hs⟩ := I.tuple hT
  simp only at hc hd
  subst hc hd
  have hle : its.length = xs.length := r.length.symm
  have hn : its ≠ [] := fun e => hne (by
    rw [e] at hle
    exact List.eq_nil_of_length_eq_zero hle.symm)
  have hi : its.toArray.isEmpty = false := by
    cases its with
    | nil => exact absurd rfl hn
    | cons a b => rfl
  by_cases k0 : k = 0
  · subst k0
    refine wpAny_binaryOp_repeat_ref (T := "tuple") (U := "int") (by decide) ⟨_, ho, rfl⟩ (fun s' => typeIs_int s' 0 t) noFill_tuple_mul F.fills_int_mul F.slot_int_rmul repeat_tuple F.slot_int_index.lookup
      (call_meets F.slot_int_rmul (typeIs_int s 0 t) F.entry_int_rmul (F.args_int_rmul_2 _ _) (int_rmul_tuple 0 t l its.toArray n dd sl)
        ⟨ho, rfl, ⟨_, ho, rfl⟩, call_meets F.slot_tuple_mul ⟨_, ho, rfl⟩ F.entry_tuple_mul (F.args_tuple_mul_2 _ _) (tuple_mul0 l its.toArray n dd sl t hi) ⟨ho, ?_⟩⟩)
    refine ⟨.ref s.heap.objs.size, _, I.laid (t' := s.toks) (o := .tup []) (fun b ob q => Heap.get?_push_of_some _ q) (Nat.le_refl _) ?_, rfl, q0 rfl _ (I.hok.fresh (Nat.le_refl _))⟩
    exact ⟨Nat.zero_le _, [], .nil, IsTup.new _ _⟩
  · have k1 : k = 1 := by omega
    subst k1
    exact wpAny_binaryOp_repeat_ref (T := "tuple") (U := "int") (by decide) ⟨_, ho, rfl⟩ (fun s' => typeIs_int s' 1 t) noFill_tuple_mul F.fills_int_mul F.slot_int_rmul repeat_tuple F.slot_int_index.lookup
      (call_meets F.slot_int_rmul (typeIs_int s 1 t) F.entry_int_rmul (F.args_int_rmul_2 _ _) (int_rmul_tuple 1 t l its.toArray n dd sl)
        ⟨ho, rfl, ⟨_, ho, rfl⟩, call_meets F.slot_tuple_mul ⟨_, ho, rfl⟩ F.entry_tuple_mul (F.args_tuple_mul_2 _ _) (tuple_mul1 l its.toArray n dd sl t) ⟨ho, ⟨.ref l, H, I, rfl, q1 rfl⟩⟩⟩)
end
end L2

namespace L2
open PySem
theorem rep_one {α : Type} (z : α) : ∀ m : Nat, (List.replicate m [z]).flatten = List.replicate m z
  | 0 => rfl
  | m + 1 => by rw [List.replicate_succ, List.flatten_cons, rep_one z m, List.replicate_succ] <;> rfl
end L2
namespace L2
open PySem
/-- all but p stands as it was -/
def Kp (p : Addr) (H H' : Hp) : Prop := ∀ b o, b ≠ p → H b = some o → H' b = some o
theorem Same.kp {p : Addr} {H H' : Hp} (s : Same H H') : Kp p H H' := fun b o _ e => s b o e
end L2
namespace Law
open PySem L2
theorem Stp.kp {p : Addr} {H H' : Hp} (s : Stp p H H') : Kp p H H' := s.keep
/-! ### a world: a dict of many, leads, weights, sum -/
def wdK (many : Int) (la wa : Addr) (S : Int) : List (Key × V) := [(Sum.inr ("many" : Str), .int many), (Sum.inr ("leads" : Str), .ref la), (Sum.inr ("weights" : Str), .ref wa), (Sum.inr ("sum" : Str), .int S)]
theorem w01 : ¬ ((Sum.inr ("many" : Str) : Key) = Sum.inr ("leads" : Str)) := sne (by decide +kernel)
theorem w02 : ¬ ((Sum.inr ("many" : Str) : Key) = Sum.inr ("weights" : Str)) := sne (by decide +kernel)
theorem w03 : ¬ ((Sum.inr ("many" : Str) : Key) = Sum.inr ("sum" : Str)) := sne (by decide +kernel)
theorem w12 : ¬ ((Sum.inr ("leads" : Str) : Key) = Sum.inr ("weights" : Str)) := sne (by decide +kernel)
theorem w13 : ¬ ((Sum.inr ("leads" : Str) : Key) = Sum.inr ("sum" : Str)) := sne (by decide +kernel)
theorem w23 : ¬ ((Sum.inr ("weights" : Str) : Key) = Sum.inr ("sum" : Str)) := sne (by decide +kernel)
section
variable {H : Hp} {p la wa : Addr} {m S : Int} (h : H p = some (.dK (wdK m la wa S)))
include h
theorem gw_many : DGet H p (.str "many") (some (.int m)) := by
  have q := DGet.k (k := Sum.inr ("many" : Str)) h
  rw [show valV (wdK m la wa S) (Sum.inr ("many" : Str)) = some (.int m) from valV_pos rfl] at q
  exact q
theorem gw_leads : DGet H p (.str "leads") (some (.ref la)) := by
  have q := DGet.k (k := Sum.inr ("leads" : Str)) h
  rw [show valV (wdK m la wa S) (Sum.inr ("leads" : Str)) = some (.ref la) from (valV_neg w01).trans (valV_pos rfl)] at q
  exact q
theorem gw_weights : DGet H p (.str "weights") (some (.ref wa)) := by
  have q := DGet.k (k := Sum.inr ("weights" : Str)) h
  rw [show valV (wdK m la wa S) (Sum.inr ("weights" : Str)) = some (.ref wa) from (valV_neg w02).trans ((valV_neg w12).trans (valV_pos rfl))] at q
  exact q
theorem gw_sum : DGet H p (.str "sum") (some (.int S)) := by
  have q := DGet.k (k := Sum.inr ("sum" : Str)) h
  rw [show valV (wdK m la wa S) (Sum.inr ("sum" : Str)) = some (.int S) from (valV_neg w03).trans ((valV_neg w13).trans ((valV_neg w23).trans (valV_pos rfl)))] at q
  exact q
end
theorem wd_keys : ([Sum.inr ("many" : Str), Sum.inr ("leads" : Str), Sum.inr ("weights" : Str), Sum.inr ("sum" : Str)] : List Key).Nodup := by decide +kernel
theorem merge_wd (m : Int) (la wa : Addr) (S : Int) : mergeK [] (wdK m la wa S) = wdK m la wa S := merge_app _ [] wd_keys
theorem nCM : ¬ (("cells" : Str) = "many") := by decide +kernel
theorem wd_ne {H : Hp} {p wd la wa : Addr} {m S : Int} (hp : HandAt H p) (h : H wd = some (.dK (wdK m la wa S))) : wd ≠ p := by
  obtain ⟨ca, cells, a, g, s, t, hp, _⟩ := hp
  intro e
  subst e
  rw [hp] at h
  injection h with h
  injection h with h
  unfold hdK wdK at h
  injection h with h _
  injection h with h _
  exact nCM (Sum.inr.inj h)
/-- tuples of whole numbers -/
def TupsIn (K : PySem.W.Frag) (H : Hp) (vs : List V) (Ls : List (List Int)) : Prop := vs.length = Ls.length ∧ ∀ (i : Nat) (v : V), vs[i]? = some v → ∃ xs, Ls[i]? = some xs ∧ ∃ l, v = .ref l ∧ SqT K H l (xs.map V.int)
theorem sqT_kp {K : PySem.W.Frag} {p a : Addr} {H H' : Hp} {xs : List V} (k : Kp p H H') (hp : HandAt H p) (h : SqT K H a xs) : SqT K H' a xs := keep_sqT k hp.dk h
theorem TupsIn.kp {K : PySem.W.Frag} {p : Addr} {H H' : Hp} {vs : List V} {Ls : List (List Int)} (h : TupsIn K H vs Ls) (k : Kp p H H') (hp : HandAt H p) : TupsIn K H' vs Ls := ⟨h.1, fun i v hv => by
  obtain ⟨xs, h1, l, h2, h3⟩ := h.2 i v hv
  exact ⟨xs, h1, l, h2, sqT_kp k hp h3⟩⟩
theorem TupsIn.same {K : PySem.W.Frag} {H H' : Hp} {vs : List V} {Ls : List (List Int)} (h : TupsIn K H vs Ls) (k : Same H H') : TupsIn K H' vs Ls := ⟨h.1, fun i v hv => by
  obtain ⟨xs, h1, l, h2, h3⟩ := h.2 i v hv
  exact ⟨xs, h1, l, h2, k.sqT h3⟩⟩
theorem TupsIn.snoc {K : PySem.W.Frag} {H : Hp} {D l : Addr} {acc : List V} {Ls : List (List Int)} {xs : List Int} (h : TupsIn K H acc Ls) (hD : H D = some (.lst acc)) (hl : SqT K H l (xs.map V.int)) : TupsIn K (upd H D (.lst (acc ++ [.ref l]))) (acc ++ [.ref l]) (Ls ++ [xs]) := by
  refine ⟨by rw [List.length_append, List.length_append, h.1]; rfl, fun i u hu => ?_⟩
  rcases snoc_get hu with ⟨hi, e⟩ | ⟨hi, e⟩
  · obtain ⟨g, h1, s, h2, h3⟩ := h.2 i u e
    exact ⟨g, by rw [List.getElem?_append_left (by rw [← h.1]; exact hi)]; exact h1, s, h2, sqT_upd hD h3⟩
  · subst e
    refine ⟨xs, ?_, l, rfl, sqT_upd hD hl⟩
    rw [List.getElem?_append_right (by rw [hi, h.1]; exact Nat.le_refl _), hi, h.1, Nat.sub_self]
    rfl
theorem TupsIn.nil {K : PySem.W.Frag} {H : Hp} : TupsIn K H [] [] := ⟨rfl, fun i v hv => by simp at hv⟩
structure WOk (many : Nat) (Ls : List (List Int)) (ws : List Int) : Prop where
  m1 : 1 ≤ many
  m2 : many ≤ 12
  l1 : 1 ≤ Ls.length
  l2 : Ls.length ≤ 24
  wl : ws.length = Ls.length
  ld : ∀ xs ∈ Ls, xs.length = many ∧ ∀ x ∈ xs, 0 ≤ x ∧ x < (many : Int)
  wt : ∀ x ∈ ws, 0 < x ∧ x < 2 ^ 34
def WAt (K : PySem.W.Frag) (H : Hp) (wd : Addr) (many : Nat) (Ls : List (List Int)) (ws : List Int) : Prop := ∃ la wa vs, H wd = some (.dK (wdK (many : Int) la wa ws.sum)) ∧ H la = some (.lst vs) ∧ TupsIn K H vs Ls ∧ H wa = some (.lst (ws.map V.int))
theorem WAt.kp {K : PySem.W.Frag} {p wd : Addr} {H H' : Hp} {many : Nat} {Ls : List (List Int)} {ws : List Int} (h : WAt K H wd many Ls ws) (k : Kp p H H') (hp : HandAt H p) : WAt K H' wd many Ls ws := by
  obtain ⟨la, wa, vs, h1, h2, h3, h4⟩ := h
  obtain ⟨ks, hk⟩ := hp.dk
  exact ⟨la, wa, vs, k _ _ (wd_ne hp h1) h1, k _ _ (ne_of h2 hk (by intro z; cases z)) h2, h3.kp k hp, k _ _ (ne_of h4 hk (by intro z; cases z)) h4⟩
theorem WAt.same {K : PySem.W.Frag} {wd : Addr} {H H' : Hp} {many : Nat} {Ls : List (List Int)} {ws : List Int} (h : WAt K H wd many Ls ws) (k : Same H H') : WAt K H' wd many Ls ws := by
  obtain ⟨la, wa, vs, h1, h2, h3, h4⟩ := h
  exact ⟨la, wa, vs, k _ _ h1, k _ _ h2, h3.same k, k _ _ h4⟩
theorem gI_le {t b : Int} (hb : 0 < b) : gI t b ≤ b := by
  have z : Nat.gcd t.natAbs b.natAbs ≤ b.natAbs := Nat.gcd_le_right _ (by omega)
  unfold gI
  omega
section
variable {P : Program} {w : World} {K : PySem.W.Frag} {mg : Str → Option Value} {base : Heap}
def spLowS : Sp := fun vs H Q _ => ∃ (t b : Int), vs = [.int t, .int b] ∧ 0 ≤ t ∧ 0 < b ∧ b < 2 ^ 41 ∧ ∀ p, H p = none → Q (.ref p) (upd H p (.tup [.int (lowP t b).1, .int (lowP t b).2]))
abbrev nLawLow : List Str := ["top", "bottom", "one", "other"]
theorem scLawLow : FnScope nLawLow ["top", "bottom"] (defScope s_law_low) := ⟨rfl, rfl, rfl, by decide +kernel, rfl, by decide +kernel, by decide +kernel⟩
theorem ok_low {f : Addr} {fd : FuncData} (F : Fun K "_law_low" "_law_low" s_law_low f fd) (T : NmA mg) : FnOk P w K mg base CX0 1 f fd ["top", "bottom"] spLowS := by
  refine F.ok scLawLow (fun vs H Q E h => ?_) (fun cdv A' outer s H vs Q E hr h => ?_)
  · obtain ⟨t, b, rfl, _⟩ := h
    rfl
  · obtain ⟨t, b, rfl, ht, hb, hb2, k⟩ := h
    have hu := hu_of hr
    refine ⟨_, pss_cons (ps_par (i := 2) (j := 3) (by rfl) scLawLow.nd rfl rfl (by decide) rfl rfl (pa_cons (pe_callB call_abs (by rfl) T.abs (by decide +kernel) (pa_cons (pv 0) pa_nil)) (pa_cons (pv 1) pa_nil)) (by rfl))
      (pss_cons (ps_while PassesOwn.never (pt_cmpR op_gt (pv 3) pe_int (nomark _))
        (pss_one (ps_par (i := 2) (j := 3) (by rfl) scLawLow.nd rfl rfl (by decide) rfl rfl (pa_cons (pv 3) (pa_cons (pe_op op_mod (pe_callTy call_int1 (by rfl) T.int (by decide +kernel) (pa_cons (pv 2) pa_nil)) (pv 3)) pa_nil)) (by rfl))))
      (pss_one (ps_ret (pe_tup (pa_cons (pe_op op_fdivW (pv 0) (pv 2)) (pa_cons (pe_op op_fdivW (pv 1) (pv 2)) pa_nil)))))), ?_⟩
    have gp : (0 : Int) < gI t b := gI_pos hb
    have gl : gI t b ≤ b := gI_le hb
    refine ⟨_, rfl, t, rfl, _, rfl, _, _, rfl, ?_⟩
    rw [if_neg (show ¬ t < 0 by omega)]
    refine ⟨fun m σ H' => H' = H ∧ ∃ x y : Int, σ = [some (.int t), some (.int b), some (.int x), some (.int y)] ∧ 0 ≤ x ∧ 0 ≤ y ∧ gI x y = gI t b ∧ m = y.toNat, ⟨_, rfl, t, b, rfl, ht, by omega, rfl, rfl⟩, ?_⟩
    rintro m σ H' ⟨rfl, x, y, rfl, hx, hy, e, rfl⟩
    refine ⟨_, rfl, _, _, rfl, rfl, _, rfl, ite2 (fun h1 => ?_) (fun h1 => ?_)⟩
    · have y0 : 0 < y := of_decide_eq_true h1
      refine ⟨fun σ' H1 => H1 = H' ∧ ∃ x' y' : Int, σ' = [some (.int t), some (.int b), some (.int x'), some (.int y')] ∧ 0 ≤ x' ∧ 0 ≤ y' ∧ gI x' y' = gI t b ∧ y'.toNat < y.toNat, ?_, ?_⟩
      · rintro σ' H1 ⟨rfl, x', y', rfl, a1, a2, a3, a4⟩
        exact ⟨_, a4, rfl, x', y', rfl, a1, a2, a3, rfl⟩
      · refine ⟨_, rfl, _, rfl, .inl ⟨_, rfl, _, rfl, _, _, rfl, rfl, y0, _, _, rfl, ?_⟩⟩
        have r0 := Int.emod_nonneg x (show y ≠ 0 by omega)
        have r1 := Int.emod_lt_of_pos x y0
        exact ⟨rfl, y, x % y, rfl, by omega, r0, by rw [gI_step hx y0]; exact e, by omega⟩
    · have y0 : y = 0 := by
        have z : ¬ 0 < y := fun q => h1 (decide_eq_true q)
        omega
      subst y0
      rw [gI_zero hx] at e
      subst e
      refine ⟨_, rfl, _, rfl, _, _, rfl, rfl, wide_div (b := 41) gp (by omega) (by decide) (by decide), _, rfl, _, rfl, _, _, rfl, rfl, wide_div (b := 41) gp (by omega) (by decide) (by decide), ?_⟩
      exact ⟨(by show 2 ≤ sizeLine; decide), fun p hp => k p hp⟩
def spLeads (K : PySem.W.Frag) : Sp := fun vs H Q _ => ∃ (p : Addr) (n : Nat), vs = [.ref p, .int (n : Int)] ∧ 1 ≤ n ∧ n ≤ 12 ∧ HandAt H p ∧
  ∀ (l : Addr) (H' : Hp) (xs : List Int), Stp p H H' → H' l = some (.tup (xs.map V.int)) → xs.length = n → (∀ x ∈ xs, 0 ≤ x ∧ x < (n : Int)) → Q (.ref l) H'
abbrev nLawLeads : List Str := ["hand", "many", "kind", "one", "other", "state"]
theorem scLawLeads : FnScope nLawLeads ["hand", "many"] (defScope s_law_leads) := ⟨rfl, rfl, rfl, by decide +kernel, rfl, by decide +kernel, by decide +kernel⟩
theorem ok_leads {f : Addr} {fd : FuncData} {fD : Addr} {fdD : FuncData} (F : Fun K "_law_leads" "_law_leads" s_law_leads f fd) (T : NmA mg) (D : Cl P w K mg base CX0 1 "_law_draw" fD fdD ["hand", "many"] spDraw) : FnOk P w K mg base CX0 2 f fd ["hand", "many"] (spLeads K) := by
  refine F.ok scLawLeads (fun vs H Q E h => ?_) (fun cdv A' outer s H vs Q E hr h => ?_)
  · obtain ⟨p, n, rfl, _⟩ := h
    rfl
  · obtain ⟨p, n, rfl, n1, n12, hH, k⟩ := h
    have hu := hu_of hr
    refine ⟨_, pss_cons (ps_asg (pe_tup (pa_cons (D.call (hr.mono (by decide)) (pa_cons (pv 0) (pa_cons pe_int pa_nil))) (pa_cons (D.call (hr.mono (by decide)) (pa_cons (pv 0) (pa_cons (pv 1) pa_nil))) (pa_cons (D.call (hr.mono (by decide)) (pa_cons (pv 0) (pa_cons (pv 1) pa_nil))) pa_nil)))) (pg_tup (by rfl) (pgs_cons (pg_name (i := 2) scLawLeads.nd rfl (Or.inl rfl)) (pgs_cons (pg_name (i := 3) scLawLeads.nd rfl (Or.inr rfl)) (pgs_cons (pg_name (i := 4) scLawLeads.nd rfl (Or.inr rfl)) pgs_nil)))))
      (pss_cons (ps_if (pt_cmpR op_lt (pv 2) pe_int (nomark _))
        (pss_one (ps_ret (pe_callTy call_tuple_of (by rfl) T.tuple (by decide +kernel) (pa_cons (pe_lc (own := [("state", 5)]) (g := (gName 5)) (tt := tYes) rfl scLawLeads.nd  (pi_range1 (by rfl) T.range (pa_cons (pv 1) pa_nil)) (blkOk_by (own := [("state", 5)]) (N := nLawLeads) (sc := defScope s_law_leads) (by decide +kernel)) (fun _ _ _ _ _ => (pg_name (i := 5) scLawLeads.nd rfl (Or.inl rfl))) (fun _ _ _ _ _ => pts_nil) (fun _ _ _ _ _ => (D.call (hr.mono (by decide)) (pa_cons (pv 0) (pa_cons (pv 1) pa_nil))))) pa_nil)))) pss_nil)
      (pss_cons (ps_if (pt_cmpR op_eq (pv 2) pe_int (nomark _))
        (pss_one (ps_ret (pe_callTy call_tuple_of (by rfl) T.tuple (by decide +kernel) (pa_cons (pe_lc (own := [("state", 5)]) (g := (gName 5)) (tt := tYes) rfl scLawLeads.nd  (pi_range1 (by rfl) T.range (pa_cons (pv 1) pa_nil)) (blkOk_by (own := [("state", 5)]) (N := nLawLeads) (sc := defScope s_law_leads) (by decide +kernel)) (fun _ _ _ _ _ => (pg_name (i := 5) scLawLeads.nd rfl (Or.inl rfl))) (fun _ _ _ _ _ => pts_nil) (fun _ _ _ _ _ => (pe_ifExp (pt_cmpR op_eq (D.call (hr.mono (by decide)) (pa_cons (pv 0) (pa_cons pe_int pa_nil))) pe_int (nomark _)) (pv 3) (pv 4)))) pa_nil)))) pss_nil)
      (pss_cons (ps_if (pt_cmpR op_eq (pv 2) pe_int (nomark _))
        (pss_one (ps_ret (pe_callTy call_tuple_of (by rfl) T.tuple (by decide +kernel) (pa_cons (pe_lc (own := [("state", 5)]) (g := (gName 5)) (tt := tYes) rfl scLawLeads.nd  (pi_range1 (by rfl) T.range (pa_cons (pv 1) pa_nil)) (blkOk_by (own := [("state", 5)]) (N := nLawLeads) (sc := defScope s_law_leads) (by decide +kernel)) (fun _ _ _ _ _ => (pg_name (i := 5) scLawLeads.nd rfl (Or.inl rfl))) (fun _ _ _ _ _ => pts_nil) (fun _ _ _ _ _ => (pe_ifExp (pt_cmpR op_eq (pv 5) (pv 3) (nomark _)) (pv 4) (pv 5)))) pa_nil)))) pss_nil)
      (pss_cons (ps_if (pt_cmpR op_eq (pv 2) pe_int (nomark _))
        (pss_one (ps_ret (pe_callTy call_tuple_of (by rfl) T.tuple (by decide +kernel) (pa_cons (pe_lc (own := [("state", 5)]) (g := (gName 5)) (tt := tYes) rfl scLawLeads.nd  (pi_range1 (by rfl) T.range (pa_cons (pv 1) pa_nil)) (blkOk_by (own := [("state", 5)]) (N := nLawLeads) (sc := defScope s_law_leads) (by decide +kernel)) (fun _ _ _ _ _ => (pg_name (i := 5) scLawLeads.nd rfl (Or.inl rfl))) (fun _ _ _ _ _ => pts_nil) (fun _ _ _ _ _ => (pe_op op_mod (pe_callTy (r := fun xs H Q => (∃ i, xs = [.int i] ∧ Q (.int i) H) ∨ ∃ k, xs = [.bl k] ∧ Q (.int (if k then 1 else 0)) H) call_int1 (by rfl) T.int (by decide +kernel) (pa_cons (pe_op op_add (pv 5) (pv 3)) pa_nil)) (pv 1)))) pa_nil)))) pss_nil)
      (pss_one (ps_ret (pe_callTy call_tuple_of (by rfl) T.tuple (by decide +kernel) (pa_cons (pe_ifExp (pt_cmpR op_eq (D.call (hr.mono (by decide)) (pa_cons (pv 0) (pa_cons pe_int pa_nil))) pe_int (nomark _)) (pe_op op_rep (pe_lst (pa_cons (pv 3) pa_nil)) (pv 1)) (pe_listRg (by rfl) (by rfl) T.list (prg_1 (by rfl) T.range (pv 1)))) pa_nil)))))))), ?_⟩
    have fin : ∀ (D : Addr) (H' : Hp) (ws : List Int), Stp p H H' → H' D = some (.lst (ws.map V.int)) → ws.length = n → (∀ x ∈ ws, 0 ≤ x ∧ x < (n : Int)) → ∃ q ys, [V.ref D] = [.ref q] ∧ ((SqL K H' q ys ∧ ∀ l, H' l = none → Q (.ref l) (upd H' l (.tup ys))) ∨ (SqT K H' q ys ∧ Q (.ref q) H')) := by
      intro D H' ws S h1 h2 h3
      exact ⟨D, _, rfl, .inl ⟨SqL.of h1, fun l hl => k l _ ws (S.post (Same.new hl)) upd_same h2 h3⟩⟩
    have done : ∀ (D : Addr) (H1 H' : Hp), Stp p H H1 → Grow p D H1 n n H' → ∃ q ys, [V.ref D] = [.ref q] ∧ ((SqL K H' q ys ∧ ∀ l, H' l = none → Q (.ref l) (upd H' l (.tup ys))) ∨ (SqT K H' q ys ∧ Q (.ref q) H')) := by
      rintro D H1 H' S ⟨S1, ws, h1, h2, h3⟩
      exact fin D H' ws (S.trans S1) h1 h2 h3
    refine ⟨_, rfl, p, 7, rfl, by decide, by decide, hH, fun kd H1 d0 d1 S1 => ?_⟩
    refine ⟨_, rfl, _, rfl, p, (n : Int), rfl, by omega, by omega, S1.hand, fun one H2 o0 o1 S2 => ?_⟩
    refine ⟨_, rfl, _, rfl, p, (n : Int), rfl, by omega, by omega, S2.hand, fun oth H3 t0 t1 S3 => ⟨by show 3 ≤ sizeLine; decide, fun q hq => ?_⟩⟩
    have S4 : Stp p H (upd H3 q (.tup [.int kd, .int one, .int oth])) := ((S1.trans S2).trans S3).post (Same.new hq)
    refine ⟨q, _, rfl, SqT.of upd_same, rfl, _, _, rfl, _, _, rfl, _, _, rfl, rfl, ?_⟩
    generalize upd H3 q (.tup [.int kd, .int one, .int oth]) = H4 at S4 ⊢
    have np : (0 : Int) < n := by omega
    refine ⟨_, rfl, _, _, rfl, rfl, _, rfl, ite2 (fun _ => ?_) (fun _ => ?_)⟩
    · refine ⟨_, rfl, (n : Int), rfl, by omega, by omega, fun D hD => ?_⟩
      refine lc_range (lo := 0) (n := n) (Grow p D H4 n) (Grow.zero S4.hand hD) (fun i H' hi g => ?_) fun H' g => done D H4 H' S4 g
      exact ⟨rfl, _, rfl, _, rfl, p, (n : Int), rfl, by omega, by omega, g.1.hand, fun d3 H5 f0 f1 S5 => g.put S4.hand hD S5 (by omega) f0 f1⟩
    refine ⟨_, rfl, rfl, _, rfl, ite2 (fun _ => ?_) (fun _ => ?_)⟩
    · refine ⟨_, rfl, (n : Int), rfl, by omega, by omega, fun D hD => ?_⟩
      refine lc_range (lo := 0) (n := n) (Grow p D H4 n) (Grow.zero S4.hand hD) (fun i H' hi g => ?_) fun H' g => done D H4 H' S4 g
      refine ⟨rfl, _, rfl, p, 2, rfl, by decide, by decide, g.1.hand, fun d2 H5 e0 e1 S5 => ⟨rfl, _, rfl, ite2 (fun _ => ?_) (fun _ => ?_)⟩⟩
      · exact ⟨_, rfl, g.put S4.hand hD S5 (by omega) o0 o1⟩
      · exact ⟨_, rfl, g.put S4.hand hD S5 (by omega) t0 t1⟩
    refine ⟨_, rfl, rfl, _, rfl, ite2 (fun _ => ?_) (fun _ => ?_)⟩
    · refine ⟨_, rfl, (n : Int), rfl, by omega, by omega, fun D hD => ?_⟩
      refine lc_range (lo := 0) (n := n) (Grow p D H4 n) (Grow.zero S4.hand hD) (fun i H' hi g => ?_) fun H' g => done D H4 H' S4 g
      refine ⟨rfl, _, rfl, _, rfl, rfl, _, rfl, ite2 (fun _ => ?_) (fun _ => ?_)⟩
      · exact ⟨_, rfl, g.put S4.hand hD (Stp.refl g.1.hand) (by omega) t0 t1⟩
      · exact ⟨_, rfl, g.put S4.hand hD (Stp.refl g.1.hand) (by omega) (by omega) (by omega)⟩
    refine ⟨_, rfl, rfl, _, rfl, ite2 (fun _ => ?_) (fun _ => ?_)⟩
    · refine ⟨_, rfl, (n : Int), rfl, by omega, by omega, fun D hD => ?_⟩
      refine lc_range (lo := 0) (n := n) (Grow p D H4 n) (Grow.zero S4.hand hD) (fun i H' hi g => ?_) fun H' g => done D H4 H' S4 g
      exact ⟨rfl, _, rfl, _, rfl, _, _, rfl, rfl, .inl ⟨_, rfl, _, rfl, _, _, rfl, rfl, np, g.put S4.hand hD (Stp.refl g.1.hand) (by omega) (Int.emod_nonneg _ (by omega)) (Int.emod_lt_of_pos _ np)⟩⟩
    · refine ⟨_, rfl, p, 3, rfl, by decide, by decide, S4.hand, fun d2 H5 e0 e1 S5 => ⟨rfl, _, rfl, ite2 (fun _ => ?_) (fun _ => ?_)⟩⟩
      · refine ⟨_, rfl, (by show 1 ≤ sizeLine; decide), fun D1 hD1 => ⟨_, rfl, D1, (n : Int), _, rfl, rfl, upd_same, by omega, by omega, ?_, fun D2 hD2 => ?_⟩⟩
        · show 1 * _ ≤ sizeLine
          exact Nat.le_of_lt (small1000 (by omega))
        · refine fin D2 _ (List.replicate n one) (((S4.trans S5).post (Same.new hD1)).post (Same.new hD2)) ?_ List.length_replicate ?_
          · rw [upd_same, Int.toNat_natCast, List.map_replicate]
            exact congrArg (fun z => some (HO.lst z)) (rep_one _ n)
          · intro x hx
            rw [(List.mem_replicate.mp hx).2]
            exact ⟨o0, o1⟩
      · refine ⟨_, rfl, (n : Int), rfl, RgOk.of_le (by decide) (by omega) (by decide) (by omega), fun D2 hD2 => ?_⟩
        refine fin D2 _ ((List.range n).map fun i : Nat => (i : Int)) ((S4.trans S5).post (Same.new hD2)) ?_ (by rw [List.length_map, List.length_range]) ?_
        · rw [upd_same]
          unfold rgV
          rw [List.map_map, show ((n : Int) - 0).toNat = n by omega]
          refine congrArg (fun z => some (HO.lst z)) (List.map_congr_left fun i _ => ?_)
          show V.int (0 + (i : Nat)) = V.int (i : Int)
          rw [Int.zero_add]
        · intro x hx
          obtain ⟨i, hi, rfl⟩ := List.mem_map.mp hx
          have := List.mem_range.mp hi
          omega
end
end Law

namespace Law
open PySem L2
/-- a list of whole numbers with a property grows at D -/
def GrowP (p D : Addr) (H : Hp) (P : Int → Prop) : Nat → Hp → Prop := fun i H' => Stp p H H' ∧ ∃ ws : List Int, H' D = some (.lst (ws.map V.int)) ∧ ws.length = i ∧ ∀ x ∈ ws, P x
theorem GrowP.zero {p D : Addr} {H : Hp} {P : Int → Prop} (hH : HandAt H p) (hD : H D = none) : GrowP p D H P 0 (upd H D (.lst [])) := ⟨Stp.of hH (Same.new hD), [], upd_same, rfl, fun x hx => absurd hx List.not_mem_nil⟩
theorem GrowP.put {p D : Addr} {H H1 H2 : Hp} {P : Int → Prop} {x : Int} {i : Nat} (hH : HandAt H p) (hD : H D = none) (g : GrowP p D H P i H1) (S : Stp p H1 H2) (hi : i ≤ 999) (hx : P x) :
    ∃ acc, H2 D = some (.lst acc) ∧ acc.length < sizeLine ∧ GrowP p D H P (i + 1) (upd H2 D (.lst (acc ++ [V.int x]))) := by
  obtain ⟨S1, ws, h1, h2, h3⟩ := g
  have nD : D ≠ p := ne_of h1 S1.hand.dk.choose_spec (by intro z; cases z)
  refine ⟨_, S.keep _ _ nD h1, ?_, (S1.trans S).mut hH hD, ws ++ [x], ?_, ?_, ?_⟩
  · rw [List.length_map, h2]
    exact small1000 (by omega)
  · rw [upd_same, List.map_append] <;> rfl
  · rw [List.length_append, h2] <;> rfl
  · intro y hy
    rcases List.mem_append.mp hy with hy | hy
    · exact h3 y hy
    · rw [List.mem_singleton.mp hy]
      exact hx
/-- a list of tuples grows at D -/
def GrowT (K : PySem.W.Frag) (p D : Addr) (H : Hp) (P : List Int → Prop) : Nat → Hp → Prop := fun i H' => Stp p H H' ∧ ∃ (acc : List V) (Ls : List (List Int)), H' D = some (.lst acc) ∧ TupsIn K H' acc Ls ∧ Ls.length = i ∧ ∀ x ∈ Ls, P x
theorem GrowT.zero {K : PySem.W.Frag} {p D : Addr} {H : Hp} {P : List Int → Prop} (hH : HandAt H p) (hD : H D = none) : GrowT K p D H P 0 (upd H D (.lst [])) := ⟨Stp.of hH (Same.new hD), [], [], upd_same, .nil, rfl, fun x hx => absurd hx List.not_mem_nil⟩
theorem GrowT.put {K : PySem.W.Frag} {p D l : Addr} {H H1 H2 : Hp} {P : List Int → Prop} {xs : List Int} {i : Nat} (hH : HandAt H p) (hD : H D = none) (g : GrowT K p D H P i H1) (S : Stp p H1 H2) (hi : i ≤ 999) (hl : H2 l = some (.tup (xs.map V.int))) (hx : P xs) :
    ∃ acc, H2 D = some (.lst acc) ∧ acc.length < sizeLine ∧ GrowT K p D H P (i + 1) (upd H2 D (.lst (acc ++ [V.ref l]))) := by
  obtain ⟨S1, acc, Ls, h1, h2, h3, h4⟩ := g
  have nD : D ≠ p := ne_of h1 S1.hand.dk.choose_spec (by intro z; cases z)
  have h1' := S.keep _ _ nD h1
  refine ⟨acc, h1', small1000 (by have := h2.1; omega), (S1.trans S).mut hH hD, acc ++ [.ref l], Ls ++ [xs], upd_same, (h2.kp S.kp S1.hand).snoc h1' (SqT.of hl), ?_, ?_⟩
  · rw [List.length_append, h3] <;> rfl
  · intro y hy
    rcases List.mem_append.mp hy with hy | hy
    · exact h4 y hy
    · rw [List.mem_singleton.mp hy]
      exact hx
/-- the moves of a world's System -/
def mvW (Ls : List (List Int)) (ws : List Int) (j : Nat) : Mv := (lowP (ws.getD j 0) ws.sum, Ls.getD j [])
def movesF (Ls : List (List Int)) (ws : List Int) : List Mv := (List.range Ls.length).map (mvW Ls ws)
theorem range_getD (ws : List Int) : (List.range ws.length).map (fun j => ws.getD j 0) = ws := by
  refine List.ext_getElem (by simp) fun i h1 h2 => ?_
  rw [List.getElem_map, List.getElem_range, List.getD_eq_getElem?_getD, List.getElem?_eq_getElem h2] <;> rfl
theorem sys_of {many : Nat} {Ls : List (List Int)} {ws : List Int} (ok : WOk many Ls ws) : SysOk many (movesF Ls ws) := by
  have wn : ws ≠ [] := fun z => by
    have := ok.wl
    have := ok.l1
    rw [z] at *
    simp at *
    omega
  obtain ⟨s0, s1⟩ := sum_pos ws wn fun x hx => (ok.wt x hx).1
  have sB := sum_le (2 ^ 34) ws fun x hx => Int.le_of_lt (ok.wt x hx).2
  have l24 := ok.l2
  have s2 : ws.sum < 2 ^ 40 := by
    rw [ok.wl] at sB
    omega
  refine ⟨ok.m1, ok.m2, by unfold movesF; rw [List.length_map, List.length_range]; exact ok.l1, by unfold movesF; rw [List.length_map, List.length_range]; exact ok.l2, fun m hm => ?_, ?_⟩
  · obtain ⟨j, hj, rfl⟩ := List.mem_map.mp hm
    have hj := List.mem_range.mp hj
    have hw : j < ws.length := by rw [ok.wl]; exact hj
    have e1 : ws.getD j 0 = ws[j] := by rw [List.getD_eq_getElem?_getD, List.getElem?_eq_getElem hw] <;> rfl
    have e2 : Ls.getD j [] = Ls[j] := by rw [List.getD_eq_getElem?_getD, List.getElem?_eq_getElem hj] <;> rfl
    obtain ⟨a1, a2, a3⟩ := share_ok (ok.wt _ (List.getElem_mem hw)).1 (s1 _ (List.getElem_mem hw)) s2
    obtain ⟨b1, b2⟩ := ok.ld _ (List.getElem_mem hj)
    show MvOk many (lowP (ws.getD j 0) ws.sum, Ls.getD j [])
    rw [e1, e2]
    exact ⟨a1, a2, a3, b1, b2⟩
  · have e : (movesF Ls ws).map (·.1) = ws.map fun x => lowP x ws.sum := by
      unfold movesF
      rw [List.map_map, ← ok.wl]
      show (List.range ws.length).map (fun j => lowP (ws.getD j 0) ws.sum) = _
      have := congrArg (List.map fun x => lowP x ws.sum) (range_getD ws)
      rw [List.map_map] at this
      exact this
    rw [e]
    exact one_of wn fun x hx => (ok.wt x hx).1
section
variable {P : Program} {w : World} {K : PySem.W.Frag} {mg : Str → Option Value} {base : Heap}
def spWorld (K : PySem.W.Frag) : Sp := fun vs H Q _ => ∃ (p : Addr) (most moves : Nat), vs = [.ref p, .int (most : Int), .int (moves : Int)] ∧ 1 ≤ most ∧ most ≤ 12 ∧ 1 ≤ moves ∧ moves ≤ 24 ∧ HandAt H p ∧
  ∀ (wd : Addr) (H' : Hp) (many : Nat) (Ls : List (List Int)) (ws : List Int), Stp p H H' → WAt K H' wd many Ls ws → WOk many Ls ws → Q (.ref wd) H'
abbrev nLawWorld : List Str := ["hand", "most", "moves", "many", "great", "leads", "weights", "k", "move"]
theorem scLawWorld : FnScope nLawWorld ["hand", "most", "moves"] (defScope s_law_world) := ⟨rfl, rfl, rfl, by decide +kernel, rfl, by decide +kernel, by decide +kernel⟩
theorem ok_world {f : Addr} {fd : FuncData} {fD : Addr} {fdD : FuncData} {fA : Addr} {fdA : FuncData} {fcLeads : Addr} {fdcLeads : FuncData} (F : Fun K "_law_world" "_law_world" s_law_world f fd) (T : NmA mg) (D : Cl P w K mg base CX0 1 "_law_draw" fD fdD ["hand", "many"] spDraw) (A : Cl P w K mg base CX0 2 "_law_any" fA fdA ["hand", "things"] (spAny K)) (cLeads : Cl P w K mg base CX0 2 "_law_leads" fcLeads fdcLeads ["hand", "many"] (spLeads K)) : FnOk P w K mg base CX0 3 f fd ["hand", "most", "moves"] (spWorld K) := by
  refine F.ok scLawWorld (fun vs H Q E h => ?_) (fun cdv A' outer s H vs Q E hr h => ?_)
  · obtain ⟨p, most, moves, rfl, _⟩ := h
    rfl
  · obtain ⟨p, most, moves, rfl, m1, m12, v1, v24, hH, k⟩ := h
    have hu := hu_of hr
    refine ⟨_, pss_cons (ps_set (i := 3) scLawWorld.nd rfl (Or.inr rfl) (pe_op op_add pe_int (D.call (hr.mono (by decide)) (pa_cons (pv 0) (pa_cons (pv 1) pa_nil)))))
      (Evl.pss_cut (ps_set (i := 4) scLawWorld.nd rfl (Or.inr rfl) (pe_ifExp (pt_cmpR op_gt (D.call (hr.mono (by decide)) (pa_cons (pv 0) (pa_cons pe_int pa_nil))) pe_int (nomark _)) (A.call (hr.mono (by decide)) (pa_cons (pv 0) (pa_cons (pe_lst (pa_cons pe_int (pa_cons pe_int (pa_cons pe_int (pa_cons pe_int (pa_cons pe_int pa_nil)))))) pa_nil))) (pe_op op_pow pe_int pe_int)))
      (pss_cons (ps_setLc (i := 5) (own := [("k", 7)]) (g := (gName 7)) (tt := tYes) (by rfl) scLawWorld.nd rfl rfl (sw_true rfl rfl rfl (by decide +kernel)) (pi_range1 (by rfl) T.range (pa_cons (pe_op op_add pe_int (D.call (hr.mono (by decide)) (pa_cons (pv 0) (pa_cons (pv 2) pa_nil)))) pa_nil)) (blkOk_by (own := [("k", 7)]) (N := nLawWorld) (sc := defScope s_law_world) (by decide +kernel)) (fun _ _ _ _ _ => (pg_name (i := 7) scLawWorld.nd rfl (Or.inl rfl))) (fun _ _ _ _ _ => pts_nil) (fun _ _ _ _ _ => (cLeads.call (hr.mono (by decide)) (pa_cons (pv 0) (pa_cons (pv 3) pa_nil)))))
      (pss_cons (ps_setLc (i := 6) (own := [("move", 8)]) (g := (gName 8)) (tt := tYes) (by rfl) scLawWorld.nd rfl rfl (sw_true rfl rfl rfl (by decide +kernel)) (pi_list (pv 5)) (blkOk_by (own := [("move", 8)]) (N := nLawWorld) (sc := defScope s_law_world) (by decide +kernel)) (fun _ _ _ _ _ => (pg_name (i := 8) scLawWorld.nd rfl (Or.inl rfl))) (fun _ _ _ _ _ => pts_nil) (fun _ _ _ _ _ => (pe_op op_add pe_int (D.call (hr.mono (by decide)) (pa_cons (pv 0) (pa_cons (pv 4) pa_nil))))))
      (pss_one (ps_ret (pe_disp (pps_cons pe_str (pv 3) (pps_cons pe_str (pv 5) (pps_cons pe_str (pv 6) (pps_cons pe_str (pe_callB (cr_sum rfl) (by rfl) T.sum (by decide +kernel) (pa_cons (pv 6) pa_nil)) pps_nil)))) (by rfl) (by rfl) (fun z => by cases z) (by decide))))))), ?_⟩
    refine ⟨_, rfl, _, rfl, p, (most : Int), rfl, by omega, by omega, hH, fun d H1 d0 d1 S1 => ⟨_, _, rfl, rfl, ?_⟩⟩
    obtain ⟨c, rfl⟩ := Int.eq_ofNat_of_zero_le d0
    refine ⟨fun σ' H' => ∃ g : Int, 1 ≤ g ∧ g ≤ 10000000000 ∧ σ' = [some (.ref p), some (.int (most : Int)), some (.int (moves : Int)), some (.int (1 + (c : Int))), some (.int g), none, none, none, none] ∧ Stp p H H', ?_, ?_⟩
    · refine ⟨_, rfl, p, 8, rfl, by decide, by decide, S1.hand, fun d2 H2 e0 e1 S2 => ⟨_, _, rfl, rfl, _, rfl, ite2 (fun _ => ?_) (fun _ => ?_)⟩⟩
      · refine ⟨_, rfl, by show 5 ≤ sizeLine; decide, fun q hq => ?_⟩
        refine ⟨p, q, _, rfl, .inl (SqL.of upd_same), by decide, by decide, S2.hand.same (Same.new hq), fun j x H3 hj S3 => ?_⟩
        have S := (S1.trans S2).trans (S3.pre (Same.new hq))
        have e : ∃ m : Int, x = .int m ∧ 1 ≤ m ∧ m ≤ 10000000000 := by
          have hx := List.mem_of_getElem? hj
          simp only [List.mem_cons, List.not_mem_nil, or_false] at hx
          rcases hx with rfl | rfl | rfl | rfl | rfl
          · exact ⟨1, rfl, by decide, by decide⟩
          · exact ⟨3, rfl, by decide, by decide⟩
          · exact ⟨3, rfl, by decide, by decide⟩
          · exact ⟨7, rfl, by decide, by decide⟩
          · exact ⟨1000, rfl, by decide, by decide⟩
        obtain ⟨m, rfl, g1, g2⟩ := e
        exact ⟨m, g1, g2, rfl, S⟩
      · refine ⟨_, _, rfl, rfl, ⟨by decide, by decide, by decide⟩, ?_⟩
        exact ⟨10000000000, by decide, by decide, rfl, S1.trans S2⟩
    · rintro σ' H2 ⟨g, g1, g2, rfl, S2⟩
      refine ⟨_, rfl, _, rfl, p, (moves : Int), rfl, by omega, by omega, S2.hand, fun d3 H3 f0 f1 S3 => ⟨_, _, rfl, rfl, ?_⟩⟩
      obtain ⟨n, rfl⟩ := Int.eq_ofNat_of_zero_le f0
      have S23 := S2.trans S3
      refine ⟨((1 + n : Nat) : Int), rfl, by omega, by omega, fun D hD => ?_⟩
      refine lc_range (lo := 0) (n := 1 + n) (GrowT K p D H3 fun xs => xs.length = 1 + c ∧ ∀ x ∈ xs, 0 ≤ x ∧ x < ((1 + c : Nat) : Int)) (GrowT.zero S3.hand hD) (fun i H' hi gg => ?_) fun H4 gg => ?_
      · exact ⟨rfl, _, rfl, _, rfl, p, 1 + c, rfl, by omega, by omega, gg.1.hand, fun l H5 xs S5 hl hxl hxb => gg.put S3.hand hD S5 (by omega) hl ⟨hxl, hxb⟩⟩
      obtain ⟨S4, acc, Ls, h1, h2, h3, h4⟩ := gg
      have S24 := S23.trans S4
      have nD : D ≠ p := ne_of h1 S4.hand.dk.choose_spec (by intro z; cases z)
      have hal := h2.1
      refine ⟨_, rfl, D, rfl, ⟨_, SqL.of h1⟩, fun D2 hD2 => ?_⟩
      refine lc_list (K := K) (a := D) (xs := acc) (GrowP p D2 H4 fun x => 0 < x ∧ x < 2 ^ 34) (GrowP.zero S4.hand hD2) (fun i H' _ gg => SqL.of (gg.1.keep _ _ nD h1)) (fun i x H' hi gg => ?_) fun H5 gg => ?_
      · have hil := (List.getElem?_eq_some_iff.mp hi).1
        exact ⟨rfl, _, rfl, _, rfl, p, g, rfl, by omega, by omega, gg.1.hand, fun d4 H6 a0 a1 S6 => ⟨_, _, rfl, rfl, gg.put S4.hand hD2 S6 (by omega) ⟨by omega, by omega⟩⟩⟩
      obtain ⟨S5, ws, w1, w2, w3⟩ := gg
      have S25 := S24.trans S5
      have h1' := S5.keep _ _ nD h1
      intro wd hwd
      have s6 : Same H5 (upd H5 wd (.dK [])) := Same.new hwd
      have w1' := s6 _ _ w1
      refine ⟨_, rfl, _, rfl, _, rfl, _, rfl, D2, _, rfl, SqL.of w1', upd_same, wdK (1 + (c : Int)) D D2 ws.sum, rfl, (show 4 ≤ 15 by decide), ?_⟩
      rw [merge_wd, upd_upd]
      have s7 : Same H5 (upd H5 wd (.dK (wdK (1 + (c : Int)) D D2 ws.sum))) := Same.new hwd
      refine k wd _ (1 + c) Ls ws (S25.post s7) ⟨D, D2, acc, ?_, s7 _ _ h1', (h2.kp S5.kp S4.hand).same s7, s7 _ _ w1⟩ ⟨by omega, by omega, by omega, by omega, by omega, h4, w3⟩
      rw [upd_same, Int.natCast_add] <;> rfl
theorem mk_same {C : Addr} {H H' : Hp} {y dy : Addr} (hy : H y = none) (hdy : H dy = none) (kC : ∀ b o, b ≠ y → (upd (upd H dy (.own y)) y (.ins C dy [])) b = some o → H' b = some o) : Same H H' := fun b o e =>
  kC b o (ne_of_none e hy) (by rw [upd_ne (ne_of_none e hy), upd_ne (ne_of_none e hdy)]; exact e)
theorem mk_same0 {C : Addr} {H : Hp} {y dy : Addr} (hy : H y = none) (hdy : H dy = none) : Same H (upd (upd H dy (.own y)) y (.ins C dy [])) := fun b o e => by
  rw [upd_ne (ne_of_none e hy), upd_ne (ne_of_none e hdy)]
  exact e
def spMade (K : PySem.W.Frag) (C : Addr) : Sp := fun vs H Q _ => ∃ (wd : Addr) (many : Nat) (Ls : List (List Int)) (ws : List Int), vs = [.ref wd] ∧ WAt K H wd many Ls ws ∧ WOk many Ls ws ∧ ∀ y H', Same H H' → SysAt K C H' y many (movesF Ls ws) → Q (.ref y) H'
abbrev nLawMade : List Str := ["world", "moves", "k"]
theorem scLawMade : FnScope nLawMade ["world"] (defScope s_law_made) := ⟨rfl, rfl, rfl, by decide +kernel, rfl, by decide +kernel, by decide +kernel⟩
theorem ok_made {f : Addr} {fd : FuncData} {fcLow : Addr} {fdcLow : FuncData} {fcSys : Addr} {fdcSys : FuncData} {C : Addr} (F : Fun K "_law_made" "_law_made" s_law_made f fd) (T : NmA mg) (cLow : Cl P w K mg base CX0 1 "_law_low" fcLow fdcLow ["top", "bottom"] spLowS) (McSys : Mk K C fcSys) (GcSys : FnOk P w K mg base CX0 5 fcSys fdcSys ["self", "many", "moves"] (spSInit K C)) (BcSys : Binds K fdcSys ["self", "many", "moves"] []) (YcSys : SysT K mg C) : FnOk P w K mg base CX0 7 f fd ["world"] (spMade K C) := by
  refine F.ok scLawMade (fun vs H Q E h => ?_) (fun cdv A' outer s H vs Q E hr h => ?_)
  · obtain ⟨wd, many, Ls, ws, rfl, _⟩ := h
    rfl
  · obtain ⟨wd, many, Ls, ws, rfl, hW, ok, k⟩ := h
    have hu := hu_of hr
    refine ⟨_, pss_cons (ps_setLc (i := 1) (own := [("k", 2)]) (g := (gName 2)) (tt := tYes) (by rfl) scLawMade.nd rfl rfl (sw_true rfl rfl rfl (by decide +kernel)) (pi_range1 (by rfl) T.range (pa_cons (pe_callB call_len_seq (by rfl) T.len PySem.boot_len (pa_cons (pe_dget hu (pv 0) pe_str (fun _ _ => rfl)) pa_nil)) pa_nil)) (blkOk_by (own := [("k", 2)]) (N := nLawMade) (sc := defScope s_law_made) (by decide +kernel)) (fun _ _ _ _ _ => (pg_name (i := 2) scLawMade.nd rfl (Or.inl rfl))) (fun _ _ _ _ _ => pts_nil) (fun _ _ _ _ _ => (pe_tup (pa_cons (cLow.call (hr.mono (by decide)) (pa_cons (pe_ix (r := rIxL K) (show IxR _ (rIxL K) from ix_list) (pe_dget hu (pv 0) pe_str (fun _ _ => rfl)) (pv 2) (fun _ _ => rfl)) (pa_cons (pe_dget hu (pv 0) pe_str (fun _ _ => rfl)) pa_nil))) (pa_cons (pe_ix (r := rIxL K) (show IxR _ (rIxL K) from ix_list) (pe_dget hu (pv 0) pe_str (fun _ _ => rfl)) (pv 2) (fun _ _ => rfl)) pa_nil)))))
      (pss_one (ps_ret (pe_make McSys GcSys (hr.mono (by decide)) (by rfl) YcSys.mgC BcSys .nil pass0 (pa_cons (pe_dget hu (pv 0) pe_str (fun _ _ => rfl)) (pa_cons (pe_callTy call_tuple_of (by rfl) T.tuple (by decide +kernel) (pa_cons (pv 1) pa_nil)) pa_nil))))), ?_⟩
    obtain ⟨la, wa, vs, h1, h2, h3, h4⟩ := id hW
    have hvl := h3.1
    have l24 := ok.l2
    have wl := ok.wl
    have wn : ws ≠ [] := fun z => by
      have := ok.l1
      rw [z] at wl
      simp at wl
      omega
    obtain ⟨s0, s1⟩ := sum_pos ws wn fun x hx => (ok.wt x hx).1
    have sB := sum_le (2 ^ 34) ws fun x hx => Int.le_of_lt (ok.wt x hx).2
    have s2 : ws.sum < 2 ^ 40 := by
      rw [wl] at sB
      omega
    refine ⟨_, rfl, wd, _, rfl, gw_leads h1, la, _, rfl, .inl (SqL.of h2), ((vs.length : Nat) : Int), rfl, by omega, by omega, fun D hD => ?_⟩
    refine lc_range (lo := 0) (n := vs.length) (fun i H' => Same H H' ∧ ∃ acc, H' D = some (.lst acc) ∧ MvsIn K H' acc ((List.range i).map (mvW Ls ws))) ⟨Same.new hD, [], upd_same, rfl, fun i v hv => by simp at hv⟩ (fun i H' hi g => ?_) fun H' g => ?_
    · obtain ⟨t1, acc, g1, g2⟩ := g
      rw [Int.zero_add]
      have hi : i < Ls.length := by rw [← hvl]; exact hi
      have hw : i < ws.length := by rw [wl]; exact hi
      have e1 : ws.getD i 0 = ws[i] := by rw [List.getD_eq_getElem?_getD, List.getElem?_eq_getElem hw] <;> rfl
      have e2 : Ls.getD i [] = Ls[i] := by rw [List.getD_eq_getElem?_getD, List.getElem?_eq_getElem hi] <;> rfl
      have hwa : atI (ws.map V.int) (i : Int) = some (.int ws[i]) := atI_nat (by rw [List.getElem?_map, List.getElem?_eq_getElem hw]; rfl)
      have hvi : i < vs.length := by rw [hvl]; exact hi
      obtain ⟨xs, x1, l, x2, x3⟩ := h3.2 i vs[i] (List.getElem?_eq_getElem hvi)
      have hla : atI vs (i : Int) = some (.ref l) := by rw [← x2]; exact atI_nat (List.getElem?_eq_getElem hvi)
      rw [List.getElem?_eq_getElem hi] at x1
      have x1 := Option.some.inj x1
      refine ⟨rfl, _, rfl, wd, _, rfl, gw_weights (t1 _ _ h1), _, rfl, wa, _, _, _, rfl, rfl, SqL.of (t1 _ _ h4), hwa, _, rfl, wd, _, rfl, gw_sum (t1 _ _ h1), ws[i], ws.sum, rfl, ?_, s0, by omega, fun q hq => ?_⟩
      · have := (ok.wt _ (List.getElem_mem hw)).1
        omega
      have t2 : Same H' (upd H' q (.tup [.int (lowP ws[i] ws.sum).1, .int (lowP ws[i] ws.sum).2])) := Same.new hq
      have q2 : (upd H' q (.tup [.int (lowP ws[i] ws.sum).1, .int (lowP ws[i] ws.sum).2])) q = some (.tup [.int (lowP ws[i] ws.sum).1, .int (lowP ws[i] ws.sum).2]) := upd_same
      generalize upd H' q (.tup [.int (lowP ws[i] ws.sum).1, .int (lowP ws[i] ws.sum).2]) = H2 at t2 q2 ⊢
      have t12 := t1.trans t2
      refine ⟨_, rfl, wd, _, rfl, gw_leads (t12 _ _ h1), _, rfl, la, _, _, _, rfl, rfl, SqL.of (t12 _ _ h2), hla, (by show 2 ≤ sizeLine; decide), fun t ht => ?_⟩
      have t3 : Same H2 (upd H2 t (.tup [.ref q, .ref l])) := Same.new ht
      have g1' := t3 _ _ (t2 _ _ g1)
      refine ⟨acc, g1', ?_, (t12.trans t3).mut hD, acc ++ [.ref t], upd_same, ?_⟩
      · have := g2.1
        rw [List.length_map, List.length_range] at this
        exact small1000 (by omega)
      · rw [List.range_succ, List.map_append]
        refine MvsIn.snoc (g2.same (t2.trans t3)) g1' ⟨t, q, l, rfl, SqT.of upd_same, ?_, ?_⟩
        · show SqT K _ q [.int (lowP (ws.getD i 0) ws.sum).1, .int (lowP (ws.getD i 0) ws.sum).2]
          rw [e1]
          exact SqT.of (t3 _ _ q2)
        · show SqT K _ l ((Ls.getD i []).map V.int)
          rw [e2, x1]
          exact (t12.trans t3).sqT x3
    · obtain ⟨t1, acc, g1, g2⟩ := g
      have e : (List.range vs.length).map (mvW Ls ws) = movesF Ls ws := by rw [hvl] <;> rfl
      rw [e] at g2
      refine ⟨_, rfl, wd, _, rfl, gw_many (t1 _ _ h1), _, rfl, D, _, rfl, .inl ⟨SqL.of g1, fun l hl => ?_⟩⟩
      have t2 : Same H' (upd H' l (.tup acc)) := Same.new hl
      have hA : MvsAt K (upd H' l (.tup acc)) l (movesF Ls ws) := ⟨acc, SqT.of upd_same, g2.same t2⟩
      generalize upd H' l (.tup acc) = H2 at t2 hA ⊢
      intro y dy hy hdy ney
      refine ⟨y, dy, many, l, movesF Ls ws, rfl, upd_same, hA.same (mk_same0 hy hdy), sys_of ok, fun H6 k6 h6 => ⟨rfl, ?_⟩⟩
      have c6 : Same H2 H6 := mk_same hy hdy k6
      exact k y H6 ((t1.trans t2).trans c6) ⟨dy, l, h6, hA.same c6⟩
end
end Law

namespace L2
open PySem PySem.Spec PyProof.Rows
/-- set(xs), xs a list or tuple of ints -/
def rSetA (K : PySem.W.Frag) (w : World) : List V → Hp → VK → Prop := fun vs H Q => ∃ (a : Addr) (ns : List Int), vs = [V.ref a] ∧ (SqL K H a (ns.map V.int) ∨ SqT K H a (ns.map V.int)) ∧ ns.length ≤ 1000 ∧
  ∀ (p : Addr) (c : Nat), H p = none → c ≤ ns.length → Q (.ref p) (upd H p (SetO w p (fun j => decide (j ∈ ns)) c))
theorem cr_setA {X : Cx} (hc : X.calm = true) : CallR X (.type "set") (rSetA X.K X.w) := by
  intro pins s σ H xs us Q I r h
  obtain ⟨a, ns, e, hq | hq, hl, q⟩ := h
  · exact cr_setL hc pins s σ H xs us Q I r ⟨a, ns, e, hq, hl, q⟩
  · exact cr_setI hc pins s σ H xs us Q I r ⟨a, ns, e, hq, hl, q⟩
end L2

namespace Law
open PySem L2
/-! ### lots -/
def upto (n : Nat) : List Int := (List.range n).map fun i : Nat => (i : Int)
theorem mem_upto {n : Nat} {x : Int} : x ∈ upto n ↔ 0 ≤ x ∧ x < (n : Int) := by
  unfold upto
  rw [List.mem_map]
  constructor
  · rintro ⟨i, hi, rfl⟩
    have := List.mem_range.mp hi
    omega
  · rintro ⟨h1, h2⟩
    exact ⟨x.toNat, List.mem_range.mpr (by omega), by omega⟩
theorem upto_len (n : Nat) : (upto n).length = n := by unfold upto; rw [List.length_map, List.length_range]
theorem upto_asc (n : Nat) : (upto n).Pairwise (· < ·) := by
  unfold upto
  rw [List.pairwise_map]
  exact List.Pairwise.imp (fun h => by omega) List.pairwise_lt_range
theorem upto_get {n i : Nat} (h : i < n) : (upto n)[i]? = some (i : Int) := by
  unfold upto
  rw [List.getElem?_map, List.getElem?_range h] <;> rfl
theorem upto_snoc (n : Nat) : upto (n + 1) = upto n ++ [(n : Int)] := by
  unfold upto
  rw [List.range_succ, List.map_append] <;> rfl
def lotF (e : List Int) : List Int := (upto 12).filter fun x => decide (x ∈ e)
def In12 (e : List Int) : Prop := ∀ x ∈ e, 0 ≤ x ∧ x < 12
theorem lot_asc (e : List Int) : (lotF e).Pairwise (· < ·) := List.Pairwise.filter _ (upto_asc 12)
theorem lot_mem {e : List Int} (h : In12 e) (x : Int) : x ∈ lotF e ↔ x ∈ e := by
  unfold lotF
  rw [List.mem_filter, mem_upto, decide_eq_true_iff]
  exact ⟨fun z => z.2, fun z => ⟨h x z, z⟩⟩
theorem asc_ext : ∀ {a b : List Int}, a.Pairwise (· < ·) → b.Pairwise (· < ·) → (∀ k, k ∈ a ↔ k ∈ b) → a = b
  | [], [], _, _, _ => rfl
  | [], y :: b, _, _, h => absurd ((h y).mpr List.mem_cons_self) List.not_mem_nil
  | x :: a, [], _, _, h => absurd ((h x).mp List.mem_cons_self) List.not_mem_nil
  | x :: a, y :: b, ha, hb, h => by
    rw [List.pairwise_cons] at ha hb
    have exy : x = y := by
      rcases List.mem_cons.mp ((h x).mp List.mem_cons_self) with e | e
      · exact e
      rcases List.mem_cons.mp ((h y).mpr List.mem_cons_self) with e2 | e2
      · exact e2.symm
      have := hb.1 x e
      have := ha.1 y e2
      omega
    subst exy
    rw [asc_ext ha.2 hb.2 fun k => ⟨fun hk => ?_, fun hk => ?_⟩]
    · rcases List.mem_cons.mp ((h k).mp (List.mem_cons_of_mem _ hk)) with e | e
      · have := ha.1 k hk
        omega
      · exact e
    · rcases List.mem_cons.mp ((h k).mpr (List.mem_cons_of_mem _ hk)) with e | e
      · have := hb.1 k hk
        omega
      · exact e
theorem lot_eq {e ns : List Int} (h : In12 e) (p : ns.Pairwise (· < ·)) (q : ∀ k, k ∈ ns ↔ k ∈ e) : ns = lotF e := asc_ext p (lot_asc e) fun k => by rw [q k, lot_mem h]
theorem lot_len {e ms : List Int} (h : In12 e) (n : ms.Nodup) (q : ∀ k, k ∈ e ↔ k ∈ ms) : ms.length = (lotF e).length := by
  have nl : (lotF e).Nodup := List.Pairwise.imp (fun h => Int.ne_of_lt h) (lot_asc e)
  exact ((List.perm_ext_iff_of_nodup n nl).mpr fun k => by rw [lot_mem h, q k]).length_eq
theorem lot_congr {a b : List Int} (ha : In12 a) (hb : In12 b) (h : ∀ k, k ∈ a ↔ k ∈ b) : lotF a = lotF b := lot_eq hb (lot_asc a) fun k => by rw [lot_mem ha, h k]
theorem lot_one {e : List Int} (h : In12 e) (h1 : (lotF e).length = 1) : ∃ z, lotF e = [z] ∧ (∀ x ∈ e, x = z) ∧ z ∈ e := by
  match hl : lotF e, h1 with
  | [z], _ =>
    refine ⟨z, rfl, fun x hx => ?_, ?_⟩
    · have := (lot_mem h x).mpr hx
      rw [hl] at this
      exact List.mem_singleton.mp this
    · exact (lot_mem h z).mp (by rw [hl]; exact List.mem_singleton_self z)
/-! ### where coins lead -/
def aheadF (mv e : List Int) : List Int := mv.map fun s => e.getD s.toNat 0
def endsF (Ls : List (List Int)) (many : Nat) (cs : List Int) : List Int := cs.foldl (fun e c => aheadF (Ls.getD c.toNat []) e) (upto many)
structure LdOk (many : Nat) (Ls : List (List Int)) : Prop where
  m1 : 1 ≤ many
  m2 : many ≤ 12
  ld : ∀ xs ∈ Ls, xs.length = many ∧ ∀ x ∈ xs, 0 ≤ x ∧ x < (many : Int)
def InM (many : Nat) (e : List Int) : Prop := ∀ x ∈ e, 0 ≤ x ∧ x < (many : Int)
theorem InM.in12 {many : Nat} {e : List Int} (h : InM many e) (h2 : many ≤ 12) : In12 e := fun x hx => by
  have := h x hx
  omega
def CsOk (n : Nat) (cs : List Int) : Prop := ∀ c ∈ cs, 0 ≤ c ∧ c < (n : Int)
theorem getD_of {α : Type} {xs : List α} {i : Nat} {d : α} (h : i < xs.length) : xs.getD i d = xs[i] := by
  rw [List.getD_eq_getElem?_getD, List.getElem?_eq_getElem h] <;> rfl
theorem ld_at {many : Nat} {Ls : List (List Int)} (ok : LdOk many Ls) {c : Int} (h : 0 ≤ c ∧ c < ((Ls.length : Nat) : Int)) : ∃ xs, Ls[c.toNat]? = some xs ∧ Ls.getD c.toNat [] = xs ∧ xs.length = many ∧ InM many xs := by
  have h1 : c.toNat < Ls.length := by omega
  obtain ⟨a, b⟩ := ok.ld _ (List.getElem_mem h1)
  exact ⟨Ls[c.toNat], List.getElem?_eq_getElem h1, getD_of h1, a, b⟩
theorem ahead_ok {many : Nat} {mv e : List Int} (h : InM many mv) (he : e.length = many) (hi : InM many e) : (aheadF mv e).length = mv.length ∧ InM many (aheadF mv e) ∧ ∀ x ∈ aheadF mv e, x ∈ e := by
  refine ⟨by unfold aheadF; rw [List.length_map], ?_⟩
  have key : ∀ x ∈ aheadF mv e, x ∈ e := fun x hx => by
    obtain ⟨s, hs, rfl⟩ := List.mem_map.mp hx
    have := h s hs
    have hl : s.toNat < e.length := by omega
    rw [getD_of hl]
    exact List.getElem_mem hl
  exact ⟨fun x hx => hi x (key x hx), key⟩
theorem upto_in (many : Nat) : InM many (upto many) := fun _ hx => mem_upto.mp hx
theorem ext_at {α : Type} {n : Nat} {a b : List α} (ha : a.length = n) (hb : b.length = n) (h : ∀ i, i < n → a[i]? = b[i]?) : a = b := by
  refine List.ext_getElem? fun i => ?_
  rcases Nat.lt_or_ge i n with c | c
  · exact h i c
  · rw [List.getElem?_eq_none (by omega), List.getElem?_eq_none (by omega)]
theorem ahead_upto {many : Nat} {e : List Int} (he : e.length = many) : aheadF (upto many) e = e := by
  refine ext_at (n := many) (by unfold aheadF; rw [List.length_map, upto_len]) he fun i hi => ?_
  have hi' : i < e.length := by omega
  unfold aheadF
  rw [List.getElem?_map, upto_get hi, List.getElem?_eq_getElem hi']
  show some (e.getD ((i : Int)).toNat 0) = _
  rw [Int.toNat_natCast, getD_of hi']
theorem ends_snoc (Ls : List (List Int)) (many : Nat) (cs : List Int) (c : Int) : endsF Ls many (cs ++ [c]) = aheadF (Ls.getD c.toNat []) (endsF Ls many cs) := by
  unfold endsF
  rw [List.foldl_append] <;> rfl
theorem ends_gen {many : Nat} {Ls : List (List Int)} (ok : LdOk many Ls) : ∀ (cs e : List Int), CsOk Ls.length cs → e.length = many → InM many e →
    (cs.foldl (fun e c => aheadF (Ls.getD c.toNat []) e) e).length = many ∧ InM many (cs.foldl (fun e c => aheadF (Ls.getD c.toNat []) e) e) ∧ ∀ x ∈ cs.foldl (fun e c => aheadF (Ls.getD c.toNat []) e) e, x ∈ e
  | [], e, _, he, hi => ⟨he, hi, fun _ h => h⟩
  | c :: cs, e, hc, he, hi => by
    obtain ⟨xs, _, e2, x1, x2⟩ := ld_at ok (hc c List.mem_cons_self)
    obtain ⟨a1, a2, a3⟩ := ahead_ok x2 he hi
    obtain ⟨b1, b2, b3⟩ := ends_gen ok cs (aheadF xs e) (fun y hy => hc y (List.mem_cons_of_mem _ hy)) (by rw [a1, x1]) a2
    rw [List.foldl_cons, e2]
    exact ⟨b1, b2, fun x hx => a3 x (b3 x hx)⟩
theorem ends_ok {many : Nat} {Ls : List (List Int)} (ok : LdOk many Ls) {cs : List Int} (hc : CsOk Ls.length cs) : (endsF Ls many cs).length = many ∧ InM many (endsF Ls many cs) := by
  obtain ⟨a, b, _⟩ := ends_gen ok cs (upto many) hc (upto_len many) (upto_in many)
  exact ⟨a, b⟩
theorem ends_app {many : Nat} {Ls : List (List Int)} (ok : LdOk many Ls) {cs ds : List Int} (hc : CsOk Ls.length cs) (hd : CsOk Ls.length ds) : ∀ x ∈ endsF Ls many (cs ++ ds), x ∈ endsF Ls many cs := by
  obtain ⟨a, b⟩ := ends_ok ok hc
  unfold endsF
  rw [List.foldl_append]
  exact (ends_gen ok ds _ hd a b).2.2
/-- of the states of st, one alone is left behind so many coins -/
def selF (Ls : List (List Int)) (many : Nat) (st cs : List Int) (k : Nat) : List Int := aheadF st (endsF Ls many (cs.take k))
def oneF (Ls : List (List Int)) (many : Nat) (st cs : List Int) (k : Nat) : Bool := decide ((lotF (selF Ls many st cs k)).length = 1)
theorem CsOk.take {n : Nat} {cs : List Int} (h : CsOk n cs) (k : Nat) : CsOk n (cs.take k) := fun c hc => h c (List.mem_of_mem_take hc)
theorem CsOk.drop {n : Nat} {cs : List Int} (h : CsOk n cs) (k : Nat) : CsOk n (cs.drop k) := fun c hc => h c (List.mem_of_mem_drop hc)
theorem sel_all {many : Nat} {Ls : List (List Int)} (ok : LdOk many Ls) {cs : List Int} (hc : CsOk Ls.length cs) (k : Nat) : selF Ls many (upto many) cs k = endsF Ls many (cs.take k) := ahead_upto (ends_ok ok (hc.take k)).1
theorem sel_in {many : Nat} {Ls : List (List Int)} (ok : LdOk many Ls) {st cs : List Int} (hs : InM many st) (hc : CsOk Ls.length cs) (k : Nat) : InM many (selF Ls many st cs k) ∧ (selF Ls many st cs k).length = st.length := by
  obtain ⟨a, b⟩ := ends_ok ok (hc.take k)
  obtain ⟨c, d, _⟩ := ahead_ok hs a b
  exact ⟨d, c⟩
/-- once all are one they stay the same one -/
theorem one_stays {many : Nat} {Ls : List (List Int)} (ok : LdOk many Ls) {cs : List Int} (hc : CsOk Ls.length cs) {j k : Nat} (hj : j ≤ k) (h1 : oneF Ls many (upto many) cs j = true) : lotF (selF Ls many (upto many) cs k) = lotF (selF Ls many (upto many) cs j) := by
  have h1 := of_decide_eq_true h1
  rw [sel_all ok hc] at h1 ⊢
  rw [sel_all ok hc]
  have m2 := ok.m2
  have m1 := ok.m1
  obtain ⟨aj, bj⟩ := ends_ok ok (hc.take j)
  obtain ⟨ak, bk⟩ := ends_ok ok (hc.take k)
  obtain ⟨z, e1, e2, e3⟩ := lot_one (bj.in12 m2) h1
  have sub : ∀ x ∈ endsF Ls many (cs.take k), x = z := fun x hx => by
    have t : cs.take k = cs.take j ++ (cs.drop j).take (k - j) := by
      rw [← List.take_add]
      congr 1
      omega
    rw [t] at hx
    exact e2 x (ends_app ok (hc.take j) ((hc.drop j).take (k - j)) x hx)
  refine lot_congr (bk.in12 m2) (bj.in12 m2) fun x => ⟨fun hx => by rw [sub x hx]; exact e3, fun hx => ?_⟩
  rw [e2 x hx]
  have l0 : 0 < (endsF Ls many (cs.take k)).length := by omega
  have := sub _ (List.getElem_mem l0)
  rw [← this]
  exact List.getElem_mem l0
/-! ### looks -/
def plS (b : Bool) : Str := if b = true then "one" else "double"
def lkM (b : Bool) (n j : Nat) : Prop := j ≤ n ∧ (b = true ∨ j = 0 ∨ ∃ i, j = 2 ^ i)
structure IsLk (b : Bool) (n : Nat) (ks : List Nat) : Prop where
  asc : ks.Pairwise (· < ·)
  mem : ∀ j, j ∈ ks ↔ lkM b n j
/-- the first look at which P holds, or the last one -/
structure Pick (b : Bool) (n : Nat) (P : Nat → Bool) (k : Nat) : Prop where
  at_ : lkM b n k
  ahead : ∀ j, lkM b n j → j < k → P j = false
  end_ : P k = true ∨ ((∀ j, lkM b n j → j ≤ k) ∧ P k = false)
theorem Pick.uniq {b : Bool} {n : Nat} {P : Nat → Bool} {k k' : Nat} (h : Pick b n P k) (h' : Pick b n P k') : k = k' := by
  rcases Nat.lt_trichotomy k k' with c | c | c
  · have z := h'.ahead k h.at_ c
    rcases h.end_ with e | e
    · rw [z] at e
      cases e
    · have := e.1 k' h'.at_
      omega
  · exact c
  · have z := h.ahead k' h'.at_ c
    rcases h'.end_ with e | e
    · rw [z] at e
      cases e
    · have := e.1 k h.at_
      omega
theorem zero_look (b : Bool) (n : Nat) : lkM b n 0 := ⟨Nat.zero_le _, .inr (.inl rfl)⟩
theorem last_look {n k : Nat} {P : Nat → Bool} (h : Pick true n P k) (h0 : P k = false) : k = n := by
  rcases h.end_ with e | e
  · rw [h0] at e
    cases e
  · have := e.1 n ⟨Nat.le_refl _, .inl rfl⟩
    have := h.at_.1
    omega
/-- by the looks in their order -/
theorem pick_hit {b : Bool} {n : Nat} {P : Nat → Bool} {ks : List Nat} (h : IsLk b n ks) {i k : Nat} (hi : ks[i]? = some k) (hb : ∀ j x, j < i → ks[j]? = some x → P x = false) (hP : P k = true) : Pick b n P k := by
  refine ⟨(h.mem k).mp (List.mem_of_getElem? hi), fun j hj hjk => ?_, .inl hP⟩
  obtain ⟨m, hm, e⟩ := List.getElem_of_mem ((h.mem j).mpr hj)
  obtain ⟨hil, hik⟩ := List.getElem?_eq_some_iff.mp hi
  by_cases c : m < i
  · exact hb m j c (by rw [List.getElem?_eq_getElem hm, e])
  · have : k ≤ j := by
      rcases Nat.lt_or_ge i m with c2 | c2
      · have := List.pairwise_iff_getElem.mp h.asc i m hil hm c2
        omega
      · have : i = m := by omega
        subst this
        omega
    omega
theorem pick_end {b : Bool} {n : Nat} {P : Nat → Bool} {ks : List Nat} (h : IsLk b n ks) {k : Nat} (hl : ks.getLast? = some k) (hb : ∀ j x : Nat, ks[j]? = some x → P x = false) : Pick b n P k := by
  have hk : k ∈ ks := List.mem_of_getLast? hl
  have all : ∀ j, lkM b n j → P j = false := fun j hj => by
    obtain ⟨m, hm, e⟩ := List.getElem_of_mem ((h.mem j).mpr hj)
    exact hb m j (by rw [List.getElem?_eq_getElem hm, e])
  refine ⟨(h.mem k).mp hk, fun j hj _ => all j hj, .inr ⟨fun j hj => ?_, all k ((h.mem k).mp hk)⟩⟩
  obtain ⟨m, hm, e⟩ := List.getElem_of_mem ((h.mem j).mpr hj)
  rw [List.getLast?_eq_getElem?] at hl
  obtain ⟨q1, q2⟩ := List.getElem?_eq_some_iff.mp hl
  rcases Nat.lt_or_ge m (ks.length - 1) with c | c
  · have := List.pairwise_iff_getElem.mp h.asc m (ks.length - 1) hm q1 c
    omega
  · have : m = ks.length - 1 := by omega
    subst this
    omega
theorem lk_one (n : Nat) : IsLk true n (List.range (n + 1)) := ⟨List.pairwise_lt_range, fun j => by
  rw [List.mem_range]
  exact ⟨fun h => ⟨by omega, .inl rfl⟩, fun h => by have := h.1; omega⟩⟩
def dblF (k : Nat) : List Nat := 0 :: (List.range k).map fun i => 2 ^ i
theorem pow_lt {a b : Nat} (h : a < b) : 2 ^ a < 2 ^ b := Nat.pow_lt_pow_right (by decide) h
theorem dbl_snoc (k : Nat) : dblF (k + 1) = dblF k ++ [2 ^ k] := by
  unfold dblF
  rw [List.range_succ, List.map_append] <;> rfl
theorem lk_dbl {n k : Nat} (h1 : ∀ i, i < k → 2 ^ i ≤ n) (h2 : n < 2 ^ k) : IsLk false n (dblF k) := by
  refine ⟨?_, fun j => ?_⟩
  · unfold dblF
    rw [List.pairwise_cons]
    refine ⟨fun x hx => ?_, ?_⟩
    · obtain ⟨i, _, rfl⟩ := List.mem_map.mp hx
      exact Nat.two_pow_pos i
    · rw [List.pairwise_map]
      exact List.Pairwise.imp pow_lt List.pairwise_lt_range
  · unfold dblF
    rw [List.mem_cons, List.mem_map]
    constructor
    · rintro (rfl | ⟨i, hi, rfl⟩)
      · exact zero_look _ _
      · exact ⟨h1 i (List.mem_range.mp hi), .inr (.inr ⟨i, rfl⟩)⟩
    · rintro ⟨a, b | b | ⟨i, rfl⟩⟩
      · cases b
      · exact .inl b
      · refine .inr ⟨i, List.mem_range.mpr ?_, rfl⟩
        rcases Nat.lt_or_ge i k with c | c
        · exact c
        · have : 2 ^ k ≤ 2 ^ i := Nat.pow_le_pow_right (by decide) c
          omega
def lits : List Nat := [0, 1, 2, 4, 8, 16, 32, 64, 128, 256]
theorem lk_lits {n : Nat} (h : n ≤ 400) : IsLk false n (lits.filter fun x => decide (x ≤ n)) := by
  refine ⟨List.Pairwise.filter _ (by decide), fun j => ?_⟩
  rw [List.mem_filter, decide_eq_true_iff]
  constructor
  · rintro ⟨a, b⟩
    refine ⟨b, .inr ?_⟩
    simp only [lits, List.mem_cons, List.not_mem_nil, or_false] at a
    rcases a with rfl | rfl | rfl | rfl | rfl | rfl | rfl | rfl | rfl | rfl
    · exact .inl rfl
    · exact .inr ⟨0, rfl⟩
    · exact .inr ⟨1, rfl⟩
    · exact .inr ⟨2, rfl⟩
    · exact .inr ⟨3, rfl⟩
    · exact .inr ⟨4, rfl⟩
    · exact .inr ⟨5, rfl⟩
    · exact .inr ⟨6, rfl⟩
    · exact .inr ⟨7, rfl⟩
    · exact .inr ⟨8, rfl⟩
  · rintro ⟨a, b | rfl | ⟨i, rfl⟩⟩
    · cases b
    · exact ⟨by decide, a⟩
    · refine ⟨?_, a⟩
      have hi : i < 9 := by
        rcases Nat.lt_or_ge i 9 with c | c
        · exact c
        · have : 2 ^ 9 ≤ 2 ^ i := Nat.pow_le_pow_right (by decide) c
          omega
      match i, hi with
      | 0, _ => decide
      | 1, _ => decide
      | 2, _ => decide
      | 3, _ => decide
      | 4, _ => decide
      | 5, _ => decide
      | 6, _ => decide
      | 7, _ => decide
      | 8, _ => decide
theorem lk_filter {n : Nat} : IsLk true n ((List.range (n + 1)).filter fun x => decide (x ≤ n)) := by
  have e : (List.range (n + 1)).filter (fun x => decide (x ≤ n)) = List.range (n + 1) := by
    rw [List.filter_eq_self]
    intro x hx
    have := List.mem_range.mp hx
    exact decide_eq_true (by omega)
  rw [e]
  exact lk_one n
/-! ### a state led along a row -/
def leadL (Ls : List (List Int)) (c s : Int) : Int := (Ls.getD c.toNat []).getD s.toNat 0
def goneL (Ls : List (List Int)) (row : List Int) (s : Int) : Int := row.foldl (fun s c => leadL Ls c s) s
theorem goneL_snoc (Ls : List (List Int)) (row : List Int) (c s : Int) : goneL Ls (row ++ [c]) s = leadL Ls c (goneL Ls row s) := by
  unfold goneL
  rw [List.foldl_append] <;> rfl
theorem goneL_cons (Ls : List (List Int)) (row : List Int) (c s : Int) : goneL Ls (c :: row) s = goneL Ls row (leadL Ls c s) := rfl
theorem lead_in {many : Nat} {Ls : List (List Int)} (ok : LdOk many Ls) {c s : Int} (hc : 0 ≤ c ∧ c < ((Ls.length : Nat) : Int)) (hs : 0 ≤ s ∧ s < (many : Int)) : 0 ≤ leadL Ls c s ∧ leadL Ls c s < (many : Int) ∧ ∃ xs, Ls[c.toNat]? = some xs ∧ xs[s.toNat]? = some (leadL Ls c s) := by
  obtain ⟨xs, e1, e2, x1, x2⟩ := ld_at ok hc
  have h : s.toNat < xs.length := by omega
  have e3 : leadL Ls c s = xs[s.toNat] := by
    unfold leadL
    rw [e2, getD_of h]
  rw [e3]
  obtain ⟨y1, y2⟩ := x2 _ (List.getElem_mem h)
  exact ⟨y1, y2, xs, e1, List.getElem?_eq_getElem h⟩
theorem goneL_in {many : Nat} {Ls : List (List Int)} (ok : LdOk many Ls) : ∀ (row : List Int) (s : Int), CsOk Ls.length row → 0 ≤ s ∧ s < (many : Int) → 0 ≤ goneL Ls row s ∧ goneL Ls row s < (many : Int)
  | [], _, _, h => h
  | c :: row, s, hr, h => by
    obtain ⟨a, b, _⟩ := lead_in ok (hr c List.mem_cons_self) h
    exact goneL_in ok row _ (fun x hx => hr x (List.mem_cons_of_mem _ hx)) ⟨a, b⟩
/-- coins are read from the last move back -/
theorem ends_gone {many : Nat} {Ls : List (List Int)} (ok : LdOk many Ls) : ∀ (cs : List Int) (e : List Int), CsOk Ls.length cs → e.length = many → ∀ s : Int, 0 ≤ s ∧ s < (many : Int) →
    (cs.foldl (fun e c => aheadF (Ls.getD c.toNat []) e) e).getD s.toNat 0 = e.getD (goneL Ls cs.reverse s).toNat 0
  | [], e, _, _, s, _ => rfl
  | c :: cs, e, hc, he, s, hs => by
    have hcs : CsOk Ls.length cs := fun x hx => hc x (List.mem_cons_of_mem _ hx)
    obtain ⟨xs, _, e2, x1, x2⟩ := ld_at ok (hc c List.mem_cons_self)
    have hrev : CsOk Ls.length cs.reverse := fun x hx => hcs x (List.mem_reverse.mp hx)
    have g := goneL_in ok cs.reverse s hrev hs
    rw [List.foldl_cons, e2, ends_gone ok cs (aheadF xs e) hcs (by unfold aheadF; rw [List.length_map, x1]) s hs, List.reverse_cons, goneL_snoc]
    have hg : (goneL Ls cs.reverse s).toNat < xs.length := by omega
    unfold aheadF leadL
    rw [e2, getD_of (by rw [List.length_map]; exact hg), List.getElem_map, getD_of hg]
def behindF (Ls : List (List Int)) (many : Nat) (row : List Int) : List Int := (List.range many).map fun s : Nat => goneL Ls row (s : Int)
theorem behind_ends {many : Nat} {Ls : List (List Int)} (ok : LdOk many Ls) {cs : List Int} (hc : CsOk Ls.length cs) : behindF Ls many cs.reverse = endsF Ls many cs := by
  obtain ⟨a, b⟩ := ends_ok ok hc
  have hrev : CsOk Ls.length cs.reverse := fun x hx => hc x (List.mem_reverse.mp hx)
  refine ext_at (n := many) (by unfold behindF; rw [List.length_map, List.length_range]) a fun i hi => ?_
  have z := ends_gone ok cs (upto many) hc (upto_len many) (i : Int) ⟨by omega, by omega⟩
  have g := goneL_in ok cs.reverse (i : Int) hrev ⟨by omega, by omega⟩
  have z1 : (endsF Ls many cs).getD ((i : Int)).toNat 0 = (upto many).getD (goneL Ls cs.reverse (i : Int)).toNat 0 := z
  have l1 : i < (endsF Ls many cs).length := by omega
  have l2 : (goneL Ls cs.reverse (i : Int)).toNat < many := by omega
  rw [Int.toNat_natCast, getD_of l1, List.getD_eq_getElem?_getD, upto_get l2] at z1
  unfold behindF
  rw [List.getElem?_map, List.getElem?_range hi, List.getElem?_eq_getElem l1, z1]
  show some (goneL Ls cs.reverse (i : Int)) = some (((goneL Ls cs.reverse (i : Int)).toNat : Nat) : Int)
  rw [Int.toNat_of_nonneg g.1]
end Law
namespace Law
open PySem L2
theorem rg_upto (n : Nat) : rgV 0 (n : Int) = (upto n).map V.int := by
  unfold rgV upto
  rw [List.map_map, show ((n : Int) - 0).toNat = n by omega]
  refine List.map_congr_left fun i _ => ?_
  show V.int (0 + (i : Nat)) = V.int (i : Int)
  rw [Int.zero_add]
abbrev ldsOf (ms : List Mv) : List (List Int) := ms.map (·.2)
theorem lds_ok {many : Nat} {ms : List Mv} (h : SysOk many ms) : LdOk many (ldsOf ms) := ⟨h.m1, h.m2, fun xs hx => by
  obtain ⟨m, hm, rfl⟩ := List.mem_map.mp hx
  obtain ⟨_, _, _, a, b⟩ := h.mv m hm
  exact ⟨a, b⟩⟩
theorem mv_ix {K : PySem.W.Frag} {H : Hp} {vs : List V} {ms : List Mv} {r : Int} (h : MvsIn K H vs ms) (hr : 0 ≤ r ∧ r < ((ms.length : Nat) : Int)) :
    ∃ m aa sa la, atI vs r = some (.ref aa) ∧ ms[r.toNat]? = some m ∧ SqT K H aa [.ref sa, .ref la] ∧ SqT K H sa [.int m.1.1, .int m.1.2] ∧ SqT K H la (m.2.map V.int) := by
  have hv : r.toNat < vs.length := by have := h.1; omega
  obtain ⟨m, h1, a, s, l, h2, h3, h4, h5⟩ := h.2 r.toNat vs[r.toNat] (List.getElem?_eq_getElem hv)
  refine ⟨m, a, s, l, ?_, h1, h3, h4, h5⟩
  have z : atI vs ((r.toNat : Nat) : Int) = some vs[r.toNat] := atI_nat (List.getElem?_eq_getElem hv)
  rw [show ((r.toNat : Nat) : Int) = r by omega, h2] at z
  exact z
theorem ints_at {xs : List Int} {s : Int} (h0 : 0 ≤ s) (h1 : s < ((xs.length : Nat) : Int)) : atI (xs.map V.int) s = some (.int (xs.getD s.toNat 0)) := by
  have h : s.toNat < xs.length := by omega
  have e : s = ((s.toNat : Nat) : Int) := by omega
  have z : atI (xs.map V.int) ((s.toNat : Nat) : Int) = some (.int (xs.getD s.toNat 0)) := atI_nat (by rw [List.getElem?_map, List.getElem?_eq_getElem h, getD_of h] <;> rfl)
  rw [← e] at z
  exact z
/-- xs[a:b] of a tuple, a ≤ b ≤ its length -/
theorem sl_nat {K : PySem.W.Frag} {H : Hp} {p : Addr} {xs : List V} {a b : Nat} {Q : VK} (hS : SqT K H p xs) (h1 : a ≤ b) (h2 : b ≤ xs.length) (k : ∀ l H', Same H H' → SqT K H' l ((xs.drop a).take (b - a)) → Q (.ref l) H') : rSlA K (.ref p) (some ((a : Nat) : Int)) (some ((b : Nat) : Int)) H Q := by
  refine ⟨p, xs, rfl, hS, fun h => ?_, fun _ q hq => ?_⟩
  · rw [HT.sIx_nat, HT.sIx_nat, Nat.min_eq_left (show a ≤ xs.length by omega), Nat.min_eq_left h2] at h
    refine k p H (Same.refl H) ?_
    rw [h.1, h.2, List.drop_zero, Nat.sub_zero, List.take_length]
    exact hS
  · have e : cutV xs (some ((a : Nat) : Int)) (some ((b : Nat) : Int)) = (xs.drop a).take (b - a) := by
      unfold cutV
      rw [HT.sIx_nat, HT.sIx_nat, Nat.min_eq_left (show a ≤ xs.length by omega), Nat.min_eq_left h2]
    rw [e]
    exact k q _ (Same.new hq) (SqT.of upd_same)
theorem sl_to {K : PySem.W.Frag} {H : Hp} {p : Addr} {xs : List V} {b : Nat} {Q : VK} (hS : SqT K H p xs) (k : ∀ l H', Same H H' → SqT K H' l (xs.take b) → Q (.ref l) H') : rSlA K (.ref p) none (some ((b : Nat) : Int)) H Q := by
  have e0 : HT.sIx xs.length 0 none = 0 := rfl
  refine ⟨p, xs, rfl, hS, fun h => ?_, fun _ q hq => ?_⟩
  · rw [HT.sIx_nat] at h
    refine k p H (Same.refl H) ?_
    rw [List.take_of_length_le (by omega)]
    exact hS
  · have e : cutV xs none (some ((b : Nat) : Int)) = xs.take b := by
      unfold cutV
      rw [HT.sIx_nat, e0, List.drop_zero, Nat.sub_zero]
      rcases Nat.le_total b xs.length with c | c
      · rw [Nat.min_eq_left c]
      · rw [Nat.min_eq_right c, List.take_length, List.take_of_length_le c]
    rw [e]
    exact k q _ (Same.new hq) (SqT.of upd_same)
theorem pl_one (b : Bool) : decide (V.str (plS b) = V.str ("one" : Str)) = b := by
  cases b
  · exact decide_eq_false fun e => absurd (V.str.inj e) (by decide +kernel)
  · exact decide_eq_true rfl
theorem pl_in (b : Bool) : inV (V.str (plS b)) [V.str ("one" : Str), V.str ("double" : Str)] = true := by cases b <;> decide +kernel
theorem dec_len1 (n : Nat) : decide (V.int (n : Int) = V.int 1) = decide (n = 1) := by
  by_cases h : n = 1
  · subst h
    rfl
  · rw [decide_eq_false h]
    exact decide_eq_false fun e => h (by injection e; omega)
/-- what is drawn: told, or undecided -/
def ResAt (K : PySem.W.Frag) (H : Hp) (t : Addr) (k : Nat) (e : List Int) : Prop := ((lotF e).length = 1 ∧ SqT K H t [.str "told", .int ((lotF e).headD 0), .int (k : Int)]) ∨
  ((lotF e).length ≠ 1 ∧ ∃ l, SqT K H t [.str "undecided", .ref l, .int (k : Int)] ∧ SqT K H l ((lotF e).map V.int))
theorem ResAt.kp {K : PySem.W.Frag} {p t : Addr} {H H' : Hp} {k : Nat} {e : List Int} (h : ResAt K H t k e) (s : Kp p H H') (hp : HandAt H p) : ResAt K H' t k e := by
  rcases h with ⟨a, b⟩ | ⟨a, l, b, c⟩
  · exact .inl ⟨a, sqT_kp s hp b⟩
  · exact .inr ⟨a, l, sqT_kp s hp b, sqT_kp s hp c⟩
theorem ResAt.same {K : PySem.W.Frag} {t : Addr} {H H' : Hp} {k : Nat} {e : List Int} (h : ResAt K H t k e) (s : Same H H') : ResAt K H' t k e := by
  rcases h with ⟨a, b⟩ | ⟨a, l, b, c⟩
  · exact .inl ⟨a, s.sqT b⟩
  · exact .inr ⟨a, l, s.sqT b, s.sqT c⟩
theorem at_head {e : List Int} (h : (lotF e).length = 1) : atI ((lotF e).map V.int) 0 = some (.int ((lotF e).headD 0)) := by
  have z := ints_at (xs := lotF e) (s := 0) (by decide) (by omega)
  rw [show (lotF e).getD (0 : Int).toNat 0 = (lotF e).headD 0 by cases lotF e <;> rfl] at z
  exact z
def RowOk (n : Nat) (row : List Int) : Prop := row.length ≤ 400 ∧ ∀ r ∈ row, 0 ≤ r ∧ r < (n : Int)
end Law
namespace Law
open PySem L2
/-! ### the program: rows, states led -/
section
variable {P : Program} {w : World} {K : PySem.W.Frag} {mg : Str → Option Value} {base : Heap}
def spIsRow (K : PySem.W.Frag) (C : Addr) : Sp := fun vs H Q _ => ∃ (p b : Addr) (many : Nat) (ms : List Mv) (row : List Int), vs = [.ref p, .ref b] ∧ SysAt K C H p many ms ∧ SqT K H b (row.map V.int) ∧ RowOk ms.length row ∧ ∀ H', Same H H' → Q (.bl true) H'
theorem scIsRow : FnScope ["system", "thing"] ["system", "thing"] (defScope s_is_row) := ⟨rfl, rfl, rfl, by decide +kernel, rfl, by decide +kernel, by decide +kernel⟩
theorem ok_isrow {f C fR : Addr} {fd fdR : FuncData} (F : Fun K "is_row" "is_row" s_is_row f fd) (T : NmA mg) (S : SysT K mg C) (R : Cl P w K mg base CX0 3 "is_row_below" fR fdR ["bound", "thing"] (spRowB K)) : FnOk P w K mg base CX0 4 f fd ["system", "thing"] (spIsRow K C) := by
  refine F.ok scIsRow (fun vs H Q E h => ?_) (fun cdv A' outer s H vs Q E hr h => ?_)
  · obtain ⟨p, b, many, ms, row, rfl, _⟩ := h
    rfl
  · obtain ⟨p, b, many, ms, row, rfl, ⟨dx, mv, hp, vs, hV, hM⟩, hR, ⟨rl, rb⟩, k⟩ := h
    have hvl : vs.length = ms.length := hM.1
    refine ⟨_, pss_one (ps_ret (pe_and (R.call hr (pa_cons (pe_callB call_len_seq (by rfl) T.len PySem.boot_len (pa_cons (pe_fld (pv 0) rfl) pa_nil)) (pa_cons (pv 1) pa_nil)))
      (pe_one (pe_cmpR op_le (pe_callB call_len_seq (by rfl) T.len PySem.boot_len (pa_cons (pv 1) pa_nil)) pe_int (nomark _))))), ?_⟩
    refine ⟨_, rfl, p, C, dx, _, _, rfl, hp, S.cl, S.nM, sysF_moves _ _, mv, _, rfl, .inr hV, _, rfl, ((vs.length : Nat) : Int), b, _, rfl, hR, by rw [List.length_map]; omega, fun x hx => ?_, fun H1 s1 => ?_⟩
    · obtain ⟨i, _, rfl⟩ := List.mem_map.mp hx
      exact ⟨i, rfl⟩
    · have hall : (row.map V.int).all (isW 0 (((vs.length : Nat) : Int) - 1)) = true := by
        rw [List.all_eq_true]
        intro x hx
        obtain ⟨i, hi, rfl⟩ := List.mem_map.mp hx
        obtain ⟨g1, g2⟩ := rb i hi
        show (decide (0 ≤ i) && decide (i ≤ ((vs.length : Nat) : Int) - 1)) = true
        rw [decide_eq_true g1, decide_eq_true (show i ≤ ((vs.length : Nat) : Int) - 1 by omega)] <;> rfl
      rw [hall]
      refine ⟨_, rfl, iteT ⟨_, rfl, b, _, rfl, .inr (s1.sqT hR), _, _, rfl, rfl, ?_⟩⟩
      rw [List.length_map]
      show Q (.bl (decide (((row.length : Nat) : Int) ≤ 400))) H1
      rw [decide_eq_true (show ((row.length : Nat) : Int) ≤ 400 by omega)]
      exact k H1 s1
end
end Law
namespace Law
open PySem L2
section
variable {P : Program} {w : World} {K : PySem.W.Frag} {mg : Str → Option Value} {base : Heap}
def spLotOf (K : PySem.W.Frag) : Sp := fun vs H Q _ => ∃ (a : Addr) (e : List Int), vs = [.ref a] ∧ (SqL K H a (e.map V.int) ∨ SqT K H a (e.map V.int)) ∧ e.length ≤ 63 ∧ In12 e ∧ ∀ l H', Same H H' → H' l = some (.tup ((lotF e).map V.int)) → Q (.ref l) H'
abbrev nLotOf : List Str := ["things"]
theorem scLotOf : FnScope nLotOf ["things"] (defScope s_lot_of) := ⟨rfl, rfl, rfl, by decide +kernel, rfl, by decide +kernel, by decide +kernel⟩
theorem ok_lot_of {f : Addr} {fd : FuncData} (F : Fun K "lot_of" "lot_of" s_lot_of f fd) (T : NmA mg) : FnOk P w K mg base CX0 1 f fd ["things"] (spLotOf K) := by
  refine F.ok scLotOf (fun vs H Q E h => ?_) (fun cdv A' outer s H vs Q E hr h => ?_)
  · obtain ⟨a, e, rfl, _⟩ := h
    rfl
  · obtain ⟨a, e, rfl, hS, h63, h12, k⟩ := h
    refine ⟨_, pss_one (ps_ret (pe_callTy call_tuple_of (by rfl) T.tuple (by decide +kernel) (pa_cons (pe_callB (cr_sortedSet (by rfl)) (by rfl) T.sorted (by decide +kernel) (pa_cons (pe_callTy (cr_setA (by rfl)) (by rfl) T.set (by decide +kernel) (pa_cons (pv 0) pa_nil)) pa_nil)) pa_nil))), ?_⟩
    refine ⟨_, rfl, a, e, rfl, hS, by omega, fun q c hq hc => ?_⟩
    refine ⟨q, _, c, rfl, upd_same, by omega, fun ns r p1 p2 p3 hr' => ?_⟩
    refine ⟨r, _, rfl, .inl ⟨SqL.of upd_same, fun l hl => ?_⟩⟩
    refine k l _ (((Same.new hq).trans (Same.new hr')).trans (Same.new hl)) ?_
    rw [upd_same, lot_eq h12 p1 fun z => by rw [p2 z, decide_eq_true_iff]]
abbrev nLawLot : List Str := ["states"]
theorem scLawLot : FnScope nLawLot ["states"] (defScope s_law_lot) := ⟨rfl, rfl, rfl, by decide +kernel, rfl, by decide +kernel, by decide +kernel⟩
theorem ok_lot {f : Addr} {fd : FuncData} (F : Fun K "_law_lot" "_law_lot" s_law_lot f fd) (T : NmA mg) : FnOk P w K mg base CX0 1 f fd ["states"] (spLotOf K) := by
  refine F.ok scLawLot (fun vs H Q E h => ?_) (fun cdv A' outer s H vs Q E hr h => ?_)
  · obtain ⟨a, e, rfl, _⟩ := h
    rfl
  · obtain ⟨a, e, rfl, hS, h63, h12, k⟩ := h
    refine ⟨_, pss_one (ps_ret (pe_callTy call_tuple_of (by rfl) T.tuple (by decide +kernel) (pa_cons (pe_callB (cr_sortedSet (by rfl)) (by rfl) T.sorted (by decide +kernel) (pa_cons (pe_callTy (cr_setA (by rfl)) (by rfl) T.set (by decide +kernel) (pa_cons (pv 0) pa_nil)) pa_nil)) pa_nil))), ?_⟩
    refine ⟨_, rfl, a, e, rfl, hS, by omega, fun q c hq hc => ?_⟩
    refine ⟨q, _, c, rfl, upd_same, by omega, fun ns r p1 p2 p3 hr' => ?_⟩
    refine ⟨r, _, rfl, .inl ⟨SqL.of upd_same, fun l hl => ?_⟩⟩
    refine k l _ (((Same.new hq).trans (Same.new hr')).trans (Same.new hl)) ?_
    rw [upd_same, lot_eq h12 p1 fun z => by rw [p2 z, decide_eq_true_iff]]
def spIsPlan : Sp := fun vs H Q _ => ∃ (b : Bool), vs = [.str (plS b)] ∧ ∀ H', Same H H' → Q (.bl true) H'
abbrev nIsPlan : List Str := ["thing"]
theorem scIsPlan : FnScope nIsPlan ["thing"] (defScope s_is_plan) := ⟨rfl, rfl, rfl, by decide +kernel, rfl, by decide +kernel, by decide +kernel⟩
theorem ok_is_plan {f : Addr} {fd : FuncData} (F : Fun K "is_plan" "is_plan" s_is_plan f fd) (T : NmA mg) : FnOk P w K mg base CX0 1 f fd ["thing"] spIsPlan := by
  refine F.ok scIsPlan (fun vs H Q E h => ?_) (fun cdv A' outer s H vs Q E hr h => ?_)
  · obtain ⟨b, rfl, _⟩ := h
    rfl
  · obtain ⟨b, rfl, k⟩ := h
    refine ⟨_, pss_one (ps_ret (pe_and (pe_callB call_isi (by rfl) T.isi (by decide +kernel) (pa_cons (pv 0) (pa_cons (pe_bltn (v := .ty "str") (u := .type "str") (by rfl) T.str (by decide +kernel) rfl) pa_nil))) (pe_one (pe_cmpR op_in_seq (pv 0) (pe_tup (pa_cons pe_str (pa_cons pe_str pa_nil))) (by rfl))))), ?_⟩
    refine ⟨_, rfl, _, _, _, _, _, rfl, .ty "str", .base (.str _), (show PySem.W.kitOne K (.type "str") (.type "str") = some true from kit_ty (by decide +kernel)), _, rfl, iteT ?_⟩
    refine ⟨_, rfl, (by show 2 ≤ sizeLine; decide), fun t ht => ⟨t, _, rfl, .inr (SqT.of upd_same), rfl, rfl, ?_⟩⟩
    show Q (.bl (inV (V.str (plS b)) [V.str ("one" : Str), V.str ("double" : Str)])) _
    rw [pl_in]
    exact k _ (Same.new ht)
def spLooks (K : PySem.W.Frag) : Sp := fun vs H Q _ => ∃ (b : Bool) (n : Nat), vs = [.str (plS b), .int (n : Int)] ∧ n ≤ 400 ∧ ∀ D H' (ks : List Nat), Same H H' → H' D = some (.lst ((ks.map fun i : Nat => (i : Int)).map V.int)) → IsLk b n ks → Q (.ref D) H'
abbrev nLooks : List Str := ["plan", "many", "found", "look"]
theorem scLooks : FnScope nLooks ["plan", "many"] (defScope s_looks) := ⟨rfl, rfl, rfl, by decide +kernel, rfl, by decide +kernel, by decide +kernel⟩
theorem ok_looks {f : Addr} {fd : FuncData} (F : Fun K "looks" "looks" s_looks f fd) (T : NmA mg) : FnOk P w K mg base CX0 1 f fd ["plan", "many"] (spLooks K) := by
  refine F.ok scLooks (fun vs H Q E h => ?_) (fun cdv A' outer s H vs Q E hr h => ?_)
  · obtain ⟨b, n, rfl, _⟩ := h
    rfl
  · obtain ⟨b, n, rfl, n4, k⟩ := h
    refine ⟨_, pss_cons (ps_if (pt_cmpR op_eq (pv 0) pe_str (nomark _))
        (pss_one (ps_ret (pe_listRg (by rfl) (by rfl) T.list (prg_1 (by rfl) T.range (pe_op op_add (pv 1) pe_int))))) pss_nil)
      (pss_cons (ps_set (i := 2) scLooks.nd rfl (Or.inl rfl) (pe_lst (pa_cons pe_int pa_nil)))
      (pss_cons (ps_set (i := 3) scLooks.nd rfl (Or.inl rfl) pe_int)
      (pss_cons (ps_while PassesOwn.never (pt_cmpR op_le (pv 3) (pv 1) (nomark _))
        (pss_cons (ps_expr (pe_bm PySem.F.plainAttrs_list PySem.F.slot_list_append PySem.F.type_list_append mt_append (pv 2) (pa_cons (pv 3) pa_nil)))
        (pss_one (ps_set (i := 3) scLooks.nd rfl (Or.inl rfl) (pe_op op_mul (pv 3) pe_int)))))
      (pss_one (ps_ret (pv 2)))))), ?_⟩
    refine ⟨_, rfl, rfl, _, rfl, ?_⟩
    rw [pl_one]
    cases b with
    | true =>
      refine iteT ⟨_, rfl, _, _, rfl, rfl, ((n : Int) + 1), rfl, RgOk.of_le (by decide) (by omega) (by decide) (by omega), fun q hq => ?_⟩
      refine k q _ (List.range (n + 1)) (Same.new hq) ?_ (lk_one n)
      rw [upd_same]
      have := rg_upto (n + 1)
      rw [Int.natCast_add] at this
      exact congrArg (fun z => some (HO.lst z)) this
    | false =>
      refine iteF ⟨by show 1 ≤ sizeLine; decide, fun D hD => ?_⟩
      refine ⟨fun m σ H' => Same H H' ∧ ∃ j : Nat, H' D = some (.lst (((dblF j).map fun i : Nat => (i : Int)).map V.int)) ∧ (∀ i, i < j → 2 ^ i ≤ n) ∧ σ = [some (.str (plS false)), some (.int (n : Int)), some (.ref D), some (.int ((2 ^ j : Nat) : Int))] ∧ m = n + 1 - 2 ^ j, ⟨_, Same.new hD, 0, upd_same, fun i hi => absurd hi (Nat.not_lt_zero i), rfl, rfl⟩, ?_⟩
      rintro m σ H' ⟨s1, j, h1, h2, rfl, rfl⟩
      refine ⟨_, rfl, _, rfl, _, _, rfl, rfl, _, rfl, ite2 (fun hle => ?_) (fun hle => ?_)⟩
      · have hle : 2 ^ j ≤ n := by
          have := of_decide_eq_true hle
          omega
        have hj : j < 9 := by
          rcases Nat.lt_or_ge j 9 with c | c
          · exact c
          · have : 2 ^ 9 ≤ 2 ^ j := Nat.pow_le_pow_right (by decide) c
            omega
        refine ⟨fun σ' H1 => Same H H1 ∧ ∃ j' : Nat, H1 D = some (.lst (((dblF j').map fun i : Nat => (i : Int)).map V.int)) ∧ (∀ i, i < j' → 2 ^ i ≤ n) ∧ σ' = [some (.str (plS false)), some (.int (n : Int)), some (.ref D), some (.int ((2 ^ j' : Nat) : Int))] ∧ n + 1 - 2 ^ j' < n + 1 - 2 ^ j, ?_, ?_⟩
        · rintro σ' H1 ⟨a1, j', a2, a3, rfl, a4⟩
          exact ⟨_, a4, a1, j', a2, a3, rfl, rfl⟩
        · refine ⟨_, rfl, .inl ⟨rfl, _, SqL.of h1⟩, _, rfl, D, _, _, rfl, rfl, h1, ?_, ?_⟩
          · rw [List.length_map, List.length_map]
            unfold dblF
            rw [List.length_cons, List.length_map, List.length_range]
            exact small1000 (by omega)
          · refine ⟨_, rfl, _, _, rfl, rfl, .inr ⟨by decide, by decide⟩, s1.mut hD, j + 1, ?_, fun i hi => ?_, ?_, ?_⟩
            · rw [upd_same, dbl_snoc, List.map_append, List.map_append] <;> rfl
            · rcases Nat.lt_or_ge i j with c | c
              · exact h2 i c
              · have : i = j := by omega
                subst this
                exact hle
            · rw [Nat.pow_succ, Int.natCast_mul] <;> rfl
            · have := Nat.pow_succ (n := 2) (m := j)
              have := Nat.two_pow_pos j
              omega
      · have hlt : n < 2 ^ j := by
          have z : ¬ ((2 ^ j : Nat) : Int) ≤ (n : Int) := fun q => hle (decide_eq_true q)
          omega
        exact ⟨_, rfl, k D H' (dblF j) s1 h1 (lk_dbl h2 hlt)⟩
def spAhead (K : PySem.W.Frag) (C : Addr) : Sp := fun vs H Q _ => ∃ (sy ea : Addr) (c : Int) (many : Nat) (ms : List Mv) (e : List Int), vs = [.ref sy, .int c, .ref ea] ∧ SysAt K C H sy many ms ∧ LdOk many (ldsOf ms) ∧ 0 ≤ c ∧ c < ((ms.length : Nat) : Int) ∧ SqT K H ea (e.map V.int) ∧ e.length = many ∧
  ∀ l H', Same H H' → H' l = some (.tup ((aheadF ((ldsOf ms).getD c.toNat []) e).map V.int)) → Q (.ref l) H'
theorem ahead_take (mv e : List Int) (i : Nat) (s : Int) (h : mv[i]? = some s) : ((mv.take (i + 1)).map fun s => e.getD s.toNat 0) = ((mv.take i).map fun s => e.getD s.toNat 0) ++ [e.getD s.toNat 0] := by
  rw [List.take_add_one, h, List.map_append] <;> rfl
abbrev nLedAhead : List Str := ["system", "move", "leads", "_", "first", "state"]
theorem scLedAhead : FnScope nLedAhead ["system", "move", "leads"] (defScope s_led_ahead) := ⟨rfl, rfl, rfl, by decide +kernel, rfl, by decide +kernel, by decide +kernel⟩
theorem ok_led_ahead {f : Addr} {fd : FuncData} {C : Addr} (F : Fun K "led_ahead" "led_ahead" s_led_ahead f fd) (T : NmA mg) (S : SysT K mg C) : FnOk P w K mg base CX0 1 f fd ["system", "move", "leads"] (spAhead K C) := by
  refine F.ok scLedAhead (fun vs H Q E h => ?_) (fun cdv A' outer s H vs Q E hr h => ?_)
  · obtain ⟨sy, ea, c, many, ms, e, rfl, _⟩ := h
    rfl
  · obtain ⟨sy, ea, c, many, ms, e, rfl, hS, ok, c0, c1, hE, he, k⟩ := h
    refine ⟨_, pss_cons (ps_asg (pe_ix ix_tup (pe_fld (pv 0) rfl) (pv 1) (fun _ _ => rfl)) (pg_tup (by rfl) (pgs_cons (pg_name (i := 3) scLedAhead.nd rfl (Or.inl rfl)) (pgs_cons (pg_name (i := 4) scLedAhead.nd rfl (Or.inl rfl)) pgs_nil))))
      (pss_one (ps_ret (pe_callTy call_tuple_of (by rfl) T.tuple (by decide +kernel) (pa_cons (pe_lc (own := [("state", 5)]) (g := (gName 5)) (tt := tYes) rfl scLedAhead.nd  (pi_tup (pv 4)) (blkOk_by (own := [("state", 5)]) (N := nLedAhead) (sc := defScope s_led_ahead) (by decide +kernel)) (fun _ _ _ _ _ => (pg_name (i := 5) scLedAhead.nd rfl (Or.inl rfl))) (fun _ _ _ _ _ => pts_nil) (fun _ _ _ _ _ => (pe_ix (r := rIxT K) (show IxR _ (rIxT K) from ix_tup) (pv 2) (pv 5) (fun _ _ => rfl)))) pa_nil)))), ?_⟩
    obtain ⟨dx, mv, hp, vs, hV, hM⟩ := id hS
    obtain ⟨m, aa, sa, la, h1, h2, h3, h4, h5⟩ := mv_ix hM ⟨c0, c1⟩
    obtain ⟨xs, x1, x2, x3, x4⟩ := ld_at ok (c := c) ⟨c0, by rw [List.length_map]; exact c1⟩
    rw [List.getElem?_map, h2] at x1
    have x1 : m.2 = xs := Option.some.inj x1
    have m12 := ok.m2
    refine ⟨_, rfl, sy, C, dx, _, _, rfl, hp, S.cl, S.nM, sysF_moves _ _, _, rfl, mv, _, _, _, rfl, rfl, hV, h1, aa, _, rfl, h3, rfl, _, _, rfl, _, _, rfl, rfl, ?_⟩
    refine ⟨_, rfl, la, rfl, ⟨_, h5⟩, fun D hD => ?_⟩
    refine lc_tup (K := K) (a := la) (xs := m.2.map V.int) (fun i H' => Same H H' ∧ H' D = some (.lst (((m.2.take i).map fun s => e.getD s.toNat 0).map V.int))) ⟨Same.new hD, upd_same⟩ (fun i H' _ g => g.1.sqT h5) (fun i x H' hi g => ?_) fun H' g => ?_
    · obtain ⟨t1, g1⟩ := g
      rw [List.getElem?_map] at hi
      obtain ⟨z, hz, rfl⟩ := Option.map_eq_some_iff.mp hi
      have hil := (List.getElem?_eq_some_iff.mp hz).1
      have zb := x4 z (by rw [← x1]; exact List.mem_of_getElem? hz)
      refine ⟨rfl, _, rfl, _, rfl, ea, _, _, _, rfl, rfl, t1.sqT hE, ints_at zb.1 (by omega), _, g1, ?_, t1.mut hD, ?_⟩
      · rw [List.length_map, List.length_map, List.length_take]
        have : m.2.length = many := by rw [x1, x3]
        exact small1000 (by omega)
      · rw [upd_same, ahead_take _ _ _ _ hz, List.map_append] <;> rfl
    · obtain ⟨t1, g1⟩ := g
      rw [List.length_map, List.take_length] at g1
      refine ⟨D, _, rfl, .inl ⟨SqL.of g1, fun l hl => k l _ (t1.trans (Same.new hl)) ?_⟩⟩
      rw [upd_same, x2, ← x1] <;> rfl
end
end Law


namespace Law
open PySem L2
section
variable {P : Program} {w : World} {K : PySem.W.Frag} {mg : Str → Option Value} {base : Heap}
def spPlan (K : PySem.W.Frag) (C : Addr) : Sp := fun vs H Q _ => ∃ (sy ca sa : Addr) (b : Bool) (many : Nat) (ms : List Mv) (cs st : List Int), vs = [.ref sy, .ref ca, .str (plS b), .ref sa] ∧ SysAt K C H sy many ms ∧ LdOk many (ldsOf ms) ∧ SqT K H ca (cs.map V.int) ∧ CsOk ms.length cs ∧ cs.length ≤ 400 ∧ SqT K H sa (st.map V.int) ∧ InM many st ∧ st.length ≤ 12 ∧
  ∀ t l H' (k : Nat), Same H H' → SqT K H' t [.ref l, .int (k : Int)] → SqT K H' l ((selF (ldsOf ms) many st cs k).map V.int) → Pick b cs.length (oneF (ldsOf ms) many st cs) k → Q (.ref t) H'
theorem sel_turn {K : PySem.W.Frag} {many : Nat} {e st : List Int} (he : e.length = many) {i : Nat} {s : Int} (hs : InM many st) (h : st[i]? = some s) : atI (e.map V.int) s = some (.int (e.getD s.toNat 0)) := by
  have zb := hs s (List.mem_of_getElem? h)
  exact ints_at zb.1 (by omega)
abbrev nLedByPlan : List Str := ["system", "coins", "plan", "states", "leads", "at", "look", "move", "state"]
theorem scLedByPlan : FnScope nLedByPlan ["system", "coins", "plan", "states"] (defScope s_led_by_plan) := ⟨rfl, rfl, rfl, by decide +kernel, rfl, by decide +kernel, by decide +kernel⟩
theorem ok_led_by_plan {f : Addr} {fd : FuncData} {fcLooks : Addr} {fdcLooks : FuncData} {fcAhead : Addr} {fdcAhead : FuncData} {fcLotOf : Addr} {fdcLotOf : FuncData} {C : Addr} (F : Fun K "led_by_plan" "led_by_plan" s_led_by_plan f fd) (T : NmA mg) (cLooks : Cl P w K mg base CX0 1 "looks" fcLooks fdcLooks ["plan", "many"] (spLooks K)) (cAhead : Cl P w K mg base CX0 1 "led_ahead" fcAhead fdcAhead ["system", "move", "leads"] (spAhead K C)) (cLotOf : Cl P w K mg base CX0 1 "lot_of" fcLotOf fdcLotOf ["things"] (spLotOf K)) (S : SysT K mg C) : FnOk P w K mg base CX0 2 f fd ["system", "coins", "plan", "states"] (spPlan K C) := by
  refine F.ok scLedByPlan (fun vs H Q E h => ?_) (fun cdv A' outer s H vs Q E hr h => ?_)
  · obtain ⟨sy, ca, sa, b, many, ms, cs, st, rfl, _⟩ := h
    rfl
  · obtain ⟨sy, ca, sa, b, many, ms, cs, st, rfl, hS, ok, hC, cok, c400, hT, stok, s12, k⟩ := h
    refine ⟨_, pss_cons (ps_set (i := 4) scLedByPlan.nd rfl (Or.inr rfl) (pe_tupRg (by rfl) (by rfl) T.tuple (prg_1 (by rfl) T.range (pe_fld (pv 0) rfl))))
      (pss_cons (ps_set (i := 5) scLedByPlan.nd rfl (Or.inl rfl) pe_int)
      (Evl.pss_cut (ps_for PassesOwn.never rfl (pi_list (cLooks.call (hr.mono (by decide)) (pa_cons (pv 2) (pa_cons (pe_callB call_len_seq (by rfl) T.len PySem.boot_len (pa_cons (pv 1) pa_nil)) pa_nil)))) (pg_name (i := 6) scLedByPlan.nd rfl (Or.inl rfl))
        (pss_cons (ps_for PassesOwn.never rfl (pi_tup (pe_slice sl_tupA (pv 1) (po_some (pv 5)) (po_some (pv 6)))) (pg_name (i := 7) scLedByPlan.nd rfl (Or.inl rfl))
          (pss_one (ps_set (i := 4) scLedByPlan.nd rfl (Or.inr rfl) (cAhead.call (hr.mono (by decide)) (pa_cons (pv 0) (pa_cons (pv 7) (pa_cons (pv 4) pa_nil)))))))
        (pss_cons (ps_set (i := 5) scLedByPlan.nd rfl (Or.inl rfl) (pv 6))
        (pss_one (ps_if (pt_cmpR op_eq (pe_callB call_len_seq (by rfl) T.len PySem.boot_len (pa_cons (cLotOf.call (hr.mono (by decide)) (pa_cons (pe_lc (own := [("state", 8)]) (g := (gName 8)) (tt := tYes) rfl scLedByPlan.nd  (pi_tup (pv 3)) (blkOk_by (own := [("state", 8)]) (N := nLedByPlan) (sc := defScope s_led_by_plan) (by decide +kernel)) (fun _ _ _ _ _ => (pg_name (i := 8) scLedByPlan.nd rfl (Or.inl rfl))) (fun _ _ _ _ _ => pts_nil) (fun _ _ _ _ _ => (pe_ix (r := rIxT K) (show IxR _ (rIxT K) from ix_tup) (pv 4) (pv 8) (fun _ _ => rfl)))) pa_nil)) pa_nil)) pe_int (nomark _))
          (pss_one ps_break) pss_nil)))))
      (pss_one (ps_ret (pe_tup (pa_cons (pe_callTy call_tuple_of (by rfl) T.tuple (by decide +kernel) (pa_cons (pe_lc (own := [("state", 8)]) (g := (gName 8)) (tt := tYes) rfl scLedByPlan.nd  (pi_tup (pv 3)) (blkOk_by (own := [("state", 8)]) (N := nLedByPlan) (sc := defScope s_led_by_plan) (by decide +kernel)) (fun _ _ _ _ _ => (pg_name (i := 8) scLedByPlan.nd rfl (Or.inl rfl))) (fun _ _ _ _ _ => pts_nil) (fun _ _ _ _ _ => (pe_ix (r := rIxT K) (show IxR _ (rIxT K) from ix_tup) (pv 4) (pv 8) (fun _ _ => rfl)))) pa_nil)) (pa_cons (pv 5) pa_nil))))))), ?_⟩
    obtain ⟨dx, mv, hp, _⟩ := id hS
    have m1 := ok.m1
    have m12 := ok.m2
    have lms : (ldsOf ms).length = ms.length := by rw [List.length_map]
    have cok' : CsOk (ldsOf ms).length cs := by rw [lms]; exact cok
    refine ⟨_, rfl, sy, C, dx, _, _, rfl, hp, S.cl, S.nK, sysF_many _ _, (many : Int), rfl, RgOk.of_le (by decide) (by omega) (by decide) (by omega), fun q hq => ?_⟩
    rw [rg_upto]
    have s1 : Same H (upd H q (.tup ((upto many).map V.int))) := Same.new hq
    have g1 : (upd H q (.tup ((upto many).map V.int))) q = some (.tup ((upto many).map V.int)) := upd_same
    generalize upd H q (.tup ((upto many).map V.int)) = H1 at s1 g1 ⊢
    refine ⟨fun σ' H' => Same H H' ∧ ∃ (k : Nat) (la : Addr) (u v : Option V), σ' = [some (.ref sy), some (.ref ca), some (.str (plS b)), some (.ref sa), some (.ref la), some (.int (k : Int)), u, v, none] ∧ H' la = some (.tup ((endsF (ldsOf ms) many (cs.take k)).map V.int)) ∧ Pick b cs.length (oneF (ldsOf ms) many st cs) k, ?_, ?_⟩
    · refine ⟨_, rfl, _, rfl, ca, _, rfl, .inr (s1.sqT hC), b, (cs.map V.int).length, rfl, by rw [List.length_map]; exact c400, fun D H2 ks s2 h2 isl => ?_⟩
      rw [List.length_map] at isl
      have s12 := s1.trans s2
      have zks : ∀ (j x : Nat), ks[j]? = some x → x ≤ cs.length := fun j x h => ((isl.mem x).mp (List.mem_of_getElem? h)).1
      refine ⟨D, rfl, ⟨_, SqL.of h2⟩, for_list (K := K) (a := D) (xs := (ks.map fun i : Nat => (i : Int)).map V.int) (fun i σ H' => Same H2 H' ∧ ∃ (at_ : Nat) (la : Addr) (u v : Option V), σ = [some (.ref sy), some (.ref ca), some (.str (plS b)), some (.ref sa), some (.ref la), some (.int (at_ : Int)), u, v, none] ∧ H' la = some (.tup ((endsF (ldsOf ms) many (cs.take at_)).map V.int)) ∧
        ((i = 0 ∧ at_ = 0) ∨ ∃ j, i = j + 1 ∧ ks[j]? = some at_) ∧ ∀ j x, j < i → ks[j]? = some x → oneF (ldsOf ms) many st cs x = false) ⟨Same.refl H2, 0, q, none, none, rfl, s2 _ _ g1, .inl ⟨rfl, rfl⟩, fun j x hj => absurd hj (Nat.not_lt_zero j)⟩ (fun i σ H' _ g => SqL.of (g.1 _ _ h2)) ?_ ?_⟩
      · rintro i x σ H' hi ⟨t1, at_, la, u, v, rfl, gl, hat, hno⟩
        rw [List.getElem?_map, List.getElem?_map] at hi
        obtain ⟨xi, hxi, rfl⟩ := Option.map_eq_some_iff.mp hi
        obtain ⟨look, hlk, rfl⟩ := Option.map_eq_some_iff.mp hxi
        have hlc := zks i look hlk
        have hal : at_ ≤ look := by
          rcases hat with ⟨_, h⟩ | ⟨j, rfl, hj⟩
          · omega
          · obtain ⟨a1, a2⟩ := List.getElem?_eq_some_iff.mp hj
            obtain ⟨b1, b2⟩ := List.getElem?_eq_some_iff.mp hlk
            have := List.pairwise_iff_getElem.mp isl.asc j (j + 1) a1 b1 (Nat.lt_succ_self j)
            omega
        have tt := s12.trans t1
        refine ⟨_, rfl, _, rfl, _, rfl, _, rfl, _, rfl, sl_nat (tt.sqT hC) hal (by rw [List.length_map]; exact hlc) fun sl H3 s3 h3 => ?_⟩
        have e3 : (((cs.map V.int).drop at_).take (look - at_)) = ((cs.drop at_).take (look - at_)).map V.int := by rw [List.map_take, List.map_drop]
        rw [e3] at h3
        have lsl : ((cs.drop at_).take (look - at_)).length = look - at_ := by
          rw [List.length_take, List.length_drop]
          omega
        have tH3 := tt.trans s3
        refine ⟨sl, rfl, ⟨_, h3⟩, for_tup (K := K) (a := sl) (xs := ((cs.drop at_).take (look - at_)).map V.int) (fun j σ H' => Same H3 H' ∧ ∃ (lb : Addr) (v : Option V), σ = [some (.ref sy), some (.ref ca), some (.str (plS b)), some (.ref sa), some (.ref lb), some (.int (at_ : Int)), some (.int (look : Int)), v, none] ∧ H' lb = some (.tup ((endsF (ldsOf ms) many (cs.take (at_ + j))).map V.int))) ⟨Same.refl H3, la, v, rfl, s3 _ _ gl⟩ (fun j σ H' _ g => g.1.sqT h3) ?_ ?_⟩
        · rintro j y σ H4 hj ⟨t4, lb, v4, rfl, g4⟩
          rw [List.getElem?_map] at hj
          obtain ⟨c, hc, rfl⟩ := Option.map_eq_some_iff.mp hj
          have hjl := (List.getElem?_eq_some_iff.mp hc).1
          rw [lsl] at hjl
          have hcc : cs[at_ + j]? = some c := by
            rw [List.getElem?_take_of_lt hjl, List.getElem?_drop] at hc
            exact hc
          have cb := cok c (List.mem_of_getElem? hcc)
          obtain ⟨el, _⟩ := ends_ok ok (cok'.take (at_ + j))
          have t14 := tH3.trans t4
          refine ⟨_, rfl, _, rfl, _, rfl, sy, lb, c, many, ms, _, rfl, hS.same t14, ok, cb.1, cb.2, SqT.of g4, el, fun l5 H5 s5 g5 => ⟨t4.trans s5, l5, _, rfl, ?_⟩⟩
          rw [g5, show at_ + (j + 1) = at_ + j + 1 by omega, List.take_add_one, hcc]
          show some (HO.tup _) = some (HO.tup ((endsF (ldsOf ms) many (cs.take (at_ + j) ++ [c])).map V.int))
          rw [ends_snoc]
        · rintro σ H4 ⟨t4, lb, v4, rfl, g4⟩
          rw [List.length_map, lsl, show at_ + (look - at_) = look by omega] at g4
          have t14 := tH3.trans t4
          obtain ⟨el, _⟩ := ends_ok ok (cok'.take look)
          refine ⟨_, rfl, _, rfl, sa, rfl, ⟨_, t14.sqT hT⟩, fun D2 hD2 => ?_⟩
          refine lc_tup (K := K) (a := sa) (xs := st.map V.int) (fun i H' => Same H4 H' ∧ H' D2 = some (.lst (((st.take i).map fun s => (endsF (ldsOf ms) many (cs.take look)).getD s.toNat 0).map V.int))) ⟨Same.new hD2, upd_same⟩ (fun i H' _ g => (t14.trans g.1).sqT hT) (fun i x H' hi g => ?_) fun H5 g => ?_
          · obtain ⟨t5, g5⟩ := g
            rw [List.getElem?_map] at hi
            obtain ⟨z, hz, rfl⟩ := Option.map_eq_some_iff.mp hi
            have hil := (List.getElem?_eq_some_iff.mp hz).1
            refine ⟨rfl, _, rfl, _, rfl, lb, _, _, _, rfl, rfl, t5.sqT (SqT.of g4), sel_turn (K := K) el stok hz, _, g5, ?_, t5.mut hD2, ?_⟩
            · rw [List.length_map, List.length_map, List.length_take]
              exact small1000 (by omega)
            · rw [upd_same, ahead_take _ _ _ _ hz, List.map_append] <;> rfl
          · obtain ⟨t5, g5⟩ := g
            rw [List.length_map, List.take_length] at g5
            obtain ⟨si, sl2⟩ := sel_in ok stok cok' look
            refine ⟨D2, selF (ldsOf ms) many st cs look, rfl, .inl (SqL.of g5), by rw [sl2]; omega, si.in12 m12, fun l6 H6 s6 g6 => ?_⟩
            refine ⟨l6, _, rfl, .inr (SqT.of g6), rfl, _, rfl, ?_⟩
            have t46 := t5.trans s6
            rw [List.length_map, dec_len1]
            refine ite2 (fun h1 => ?_) (fun h1 => ?_)
            · exact ⟨t14.trans t46, look, lb, _, _, rfl, t46 _ _ g4, pick_hit isl hlk (fun j x hj hx => hno j x hj hx) h1⟩
            · refine ⟨((t1.trans s3).trans t4).trans t46, look, lb, _, _, rfl, t46 _ _ g4, .inr ⟨i, rfl, hlk⟩, fun j x hj hx => ?_⟩
              rcases Nat.lt_or_ge j i with c | c
              · exact hno j x c hx
              · have : j = i := by omega
                subst this
                rw [hlk] at hx
                cases hx
                exact Bool.eq_false_iff.mpr h1
      · rintro σ H' ⟨t1, at_, la, u, v, rfl, gl, hat, hno⟩
        rw [List.length_map, List.length_map] at hat hno
        have hlast : ks.getLast? = some at_ := by
          have h0 : 0 < ks.length := by
            obtain ⟨m, hm, _⟩ := List.getElem_of_mem ((isl.mem 0).mpr (zero_look b cs.length))
            omega
          rcases hat with ⟨h, _⟩ | ⟨j, h, hj⟩
          · omega
          · rw [List.getLast?_eq_getElem?, h]
            exact hj
        exact ⟨s12.trans t1, at_, la, _, _, rfl, gl, pick_end isl hlast fun j x hx => hno j x (List.getElem?_eq_some_iff.mp hx).1 hx⟩
    · rintro σ H' ⟨t1, kk, la, u, v, rfl, gl, pk⟩
      obtain ⟨el, _⟩ := ends_ok ok (cok'.take kk)
      refine ⟨_, rfl, sa, rfl, ⟨_, t1.sqT hT⟩, fun D2 hD2 => ?_⟩
      refine lc_tup (K := K) (a := sa) (xs := st.map V.int) (fun i H2 => Same H' H2 ∧ H2 D2 = some (.lst (((st.take i).map fun s => (endsF (ldsOf ms) many (cs.take kk)).getD s.toNat 0).map V.int))) ⟨Same.new hD2, upd_same⟩ (fun i H2 _ g => (t1.trans g.1).sqT hT) (fun i x H2 hi g => ?_) fun H5 g => ?_
      · obtain ⟨t5, g5⟩ := g
        rw [List.getElem?_map] at hi
        obtain ⟨z, hz, rfl⟩ := Option.map_eq_some_iff.mp hi
        have hil := (List.getElem?_eq_some_iff.mp hz).1
        refine ⟨rfl, _, rfl, _, rfl, la, _, _, _, rfl, rfl, t5.sqT (SqT.of gl), sel_turn (K := K) el stok hz, _, g5, ?_, t5.mut hD2, ?_⟩
        · rw [List.length_map, List.length_map, List.length_take]
          exact small1000 (by omega)
        · rw [upd_same, ahead_take _ _ _ _ hz, List.map_append] <;> rfl
      · obtain ⟨t5, g5⟩ := g
        rw [List.length_map, List.take_length] at g5
        refine ⟨D2, _, rfl, .inl ⟨SqL.of g5, fun l6 hl6 => ?_⟩⟩
        refine ⟨_, rfl, by show 2 ≤ sizeLine; decide, fun t7 ht7 => ?_⟩
        have s6 : Same H5 (upd H5 l6 (.tup ((selF (ldsOf ms) many st cs kk).map V.int))) := Same.new hl6
        exact k t7 l6 _ kk (((t1.trans t5).trans s6).trans (Same.new ht7)) (SqT.of upd_same) (SqT.of ((Same.new ht7) _ _ upd_same)) pk
def spDrawn (K : PySem.W.Frag) (C : Addr) : Sp := fun vs H Q _ => ∃ (sy ca : Addr) (b : Bool) (many : Nat) (ms : List Mv) (cs : List Int), vs = [.ref sy, .ref ca, .str (plS b)] ∧ SysAt K C H sy many ms ∧ LdOk many (ldsOf ms) ∧ SqT K H ca (cs.map V.int) ∧ CsOk ms.length cs ∧ cs.length ≤ 400 ∧
  ∀ t H' (k : Nat), Same H H' → ResAt K H' t k (selF (ldsOf ms) many (upto many) cs k) → Pick b cs.length (oneF (ldsOf ms) many (upto many) cs) k → Q (.ref t) H'
abbrev nDrawn : List Str := ["system", "coins", "plan", "found", "many", "lot"]
theorem scDrawn : FnScope nDrawn ["system", "coins", "plan"] (defScope s_drawn) := ⟨rfl, rfl, rfl, by decide +kernel, rfl, by decide +kernel, by decide +kernel⟩
theorem ok_drawn {f : Addr} {fd : FuncData} {fcIsRow : Addr} {fdcIsRow : FuncData} {fcIsPlan : Addr} {fdcIsPlan : FuncData} {fcPlan : Addr} {fdcPlan : FuncData} {fcLotOf : Addr} {fdcLotOf : FuncData} {C : Addr} (F : Fun K "drawn" "drawn" s_drawn f fd) (T : NmA mg) (cIsRow : Cl P w K mg base CX0 4 "is_row" fcIsRow fdcIsRow ["system", "thing"] (spIsRow K C)) (cIsPlan : Cl P w K mg base CX0 1 "is_plan" fcIsPlan fdcIsPlan ["thing"] spIsPlan) (cPlan : Cl P w K mg base CX0 2 "led_by_plan" fcPlan fdcPlan ["system", "coins", "plan", "states"] (spPlan K C)) (cLotOf : Cl P w K mg base CX0 1 "lot_of" fcLotOf fdcLotOf ["things"] (spLotOf K)) (S : SysT K mg C) : FnOk P w K mg base CX0 5 f fd ["system", "coins", "plan"] (spDrawn K C) := by
  refine F.ok scDrawn (fun vs H Q E h => ?_) (fun cdv A' outer s H vs Q E hr h => ?_)
  · obtain ⟨sy, ca, b, many, ms, cs, rfl, _⟩ := h
    rfl
  · obtain ⟨sy, ca, b, many, ms, cs, rfl, hS, ok, hC, cok, c400, k⟩ := h
    refine ⟨_, pss_cons (ps_if (pt_not (pt_val (cIsRow.call (hr.mono (by decide)) (pa_cons (pv 0) (pa_cons (pv 1) pa_nil)))))
        pss_never pss_nil)
      (pss_cons (ps_if (pt_not (pt_val (cIsPlan.call (hr.mono (by decide)) (pa_cons (pv 2) pa_nil))))
        pss_never pss_nil)
      (pss_cons (ps_asg (cPlan.call (hr.mono (by decide)) (pa_cons (pv 0) (pa_cons (pv 1) (pa_cons (pv 2) (pa_cons (pe_tupRg (by rfl) (by rfl) T.tuple (prg_1 (by rfl) T.range (pe_fld (pv 0) rfl))) pa_nil))))) (pg_tup (by rfl) (pgs_cons (pg_name (i := 3) scDrawn.nd rfl (Or.inl rfl)) (pgs_cons (pg_name (i := 4) scDrawn.nd rfl (Or.inl rfl)) pgs_nil))))
      (pss_cons (ps_set (i := 5) scDrawn.nd rfl (Or.inl rfl) (cLotOf.call (hr.mono (by decide)) (pa_cons (pv 3) pa_nil)))
      (pss_one (ps_ret (pe_ifExp (pt_cmpR op_eq (pe_callB call_len_seq (by rfl) T.len PySem.boot_len (pa_cons (pv 5) pa_nil)) pe_int (nomark _)) (pe_tup (pa_cons pe_str (pa_cons (pe_ix ix_tup (pv 5) pe_int (fun _ _ => rfl)) (pa_cons (pv 4) pa_nil)))) (pe_tup (pa_cons pe_str (pa_cons (pv 5) (pa_cons (pv 4) pa_nil)))))))))), ?_⟩
    have m12 := ok.m2
    have lms : (ldsOf ms).length = ms.length := by rw [List.length_map]
    have cok' : CsOk (ldsOf ms).length cs := by rw [lms]; exact cok
    refine ⟨_, rfl, _, rfl, sy, ca, many, ms, cs, rfl, hS, hC, ⟨c400, cok⟩, fun H1 s1 => ⟨_, rfl, iteF ?_⟩⟩
    refine ⟨_, rfl, b, rfl, fun H2 s2 => ⟨_, rfl, iteF ?_⟩⟩
    have t2 := s1.trans s2
    obtain ⟨dx, mv, hp, _⟩ := id (hS.same t2)
    refine ⟨_, rfl, _, rfl, _, rfl, _, rfl, sy, C, dx, _, _, rfl, hp, S.cl, S.nK, sysF_many _ _, (many : Int), rfl, RgOk.of_le (by decide) (by omega) (by decide) (by omega), fun q hq => ?_⟩
    rw [rg_upto]
    have s3 : Same H2 (upd H2 q (.tup ((upto many).map V.int))) := Same.new hq
    have g3 : (upd H2 q (.tup ((upto many).map V.int))) q = some (.tup ((upto many).map V.int)) := upd_same
    generalize upd H2 q (.tup ((upto many).map V.int)) = H3 at s3 g3 ⊢
    have t3 := t2.trans s3
    refine ⟨sy, ca, q, b, many, ms, cs, upto many, rfl, hS.same t3, ok, t3.sqT hC, cok, c400, SqT.of g3, upto_in many, by rw [upto_len]; exact m12, fun t l H4 kk s4 h4 g4 pk => ?_⟩
    obtain ⟨si, sl2⟩ := sel_in ok (upto_in many) cok' kk
    refine ⟨t, _, rfl, h4, rfl, _, _, rfl, _, _, rfl, rfl, ?_⟩
    refine ⟨_, rfl, l, selF (ldsOf ms) many (upto many) cs kk, rfl, .inr g4, by rw [sl2, upto_len]; omega, si.in12 m12, fun l5 H5 s5 g5 => ?_⟩
    have t5 := (t3.trans s4).trans s5
    refine ⟨_, rfl, l5, _, rfl, .inr (SqT.of g5), rfl, _, rfl, ?_⟩
    rw [List.length_map, dec_len1]
    refine ite2 (fun h1 => ?_) (fun h1 => ?_)
    · have h1 := of_decide_eq_true h1
      refine ⟨_, rfl, l5, _, _, _, rfl, rfl, SqT.of g5, at_head h1, _, rfl, by show 3 ≤ sizeLine; decide, fun t6 ht6 => ?_⟩
      exact k t6 _ kk (t5.trans (Same.new ht6)) (.inl ⟨h1, SqT.of upd_same⟩) pk
    · have h1 : (lotF (selF (ldsOf ms) many (upto many) cs kk)).length ≠ 1 := fun e => h1 (decide_eq_true e)
      refine ⟨_, rfl, _, rfl, by show 3 ≤ sizeLine; decide, fun t6 ht6 => ?_⟩
      exact k t6 _ kk (t5.trans (Same.new ht6)) (.inr ⟨h1, l5, SqT.of upd_same, SqT.of ((Same.new ht6) _ _ g5)⟩) pk
end
end Law

namespace L2
open PySem
def rLenK (K : PySem.W.Frag) : List V → Hp → VK → Prop := fun xs H Q => ∃ p ys, xs = [.ref p] ∧ (SqL K H p ys ∨ SqT K H p ys) ∧ Q (.int (ys.length : Nat)) H
end L2
namespace Law
open PySem L2
theorem tups_at {K : PySem.W.Frag} {H : Hp} {vs : List V} {Ls : List (List Int)} {c : Int} (h : TupsIn K H vs Ls) (h0 : 0 ≤ c) (h1 : c < ((Ls.length : Nat) : Int)) : ∃ xs l, atI vs c = some (.ref l) ∧ Ls[c.toNat]? = some xs ∧ SqT K H l (xs.map V.int) := by
  have hv : c.toNat < vs.length := by have := h.1; omega
  obtain ⟨xs, e1, l, e2, e3⟩ := h.2 c.toNat vs[c.toNat] (List.getElem?_eq_getElem hv)
  have z : atI vs ((c.toNat : Nat) : Int) = some vs[c.toNat] := atI_nat (List.getElem?_eq_getElem hv)
  rw [show ((c.toNat : Nat) : Int) = c by omega, e2] at z
  exact ⟨xs, l, z, e1, e3⟩
theorem lds_of {many : Nat} {Ls : List (List Int)} {ws : List Int} (h : WOk many Ls ws) : LdOk many Ls := ⟨h.m1, h.m2, h.ld⟩
theorem lds_moves (Ls : List (List Int)) (ws : List Int) : ldsOf (movesF Ls ws) = Ls := by
  unfold ldsOf movesF
  rw [List.map_map]
  refine ext_at (n := Ls.length) (by rw [List.length_map, List.length_range]) rfl fun i hi => ?_
  rw [List.getElem?_map, List.getElem?_range hi, List.getElem?_eq_getElem hi]
  show some (Ls.getD i []) = _
  rw [getD_of hi]
theorem at_last {α : Type} {xs : List α} {v : α} (h : xs.getLast? = some v) : atI xs (-1) = some v := by
  obtain ⟨ys, rfl⟩ := List.getLast?_eq_some_iff.mp h
  exact atI_last ys v
theorem inV_ints (x : Int) (xs : List Int) : inV (V.int x) (xs.map V.int) = decide (x ∈ xs) := by
  unfold inV
  rw [List.any_map]
  by_cases h : x ∈ xs
  · rw [decide_eq_true h, List.any_eq_true]
    exact ⟨x, h, by show (x == x) = true; exact beq_self_eq_true x⟩
  · rw [decide_eq_false h, List.any_eq_false]
    intro y hy e
    have e : (y == x) = true := e
    rw [beq_iff_eq] at e
    exact h (e ▸ hy)
theorem flat_ints (xs : List Int) : (xs.map V.int).all flatV = true := by
  rw [List.all_map, List.all_eq_true]
  intro x _
  rfl
section
variable {P : Program} {w : World} {K : PySem.W.Frag} {mg : Str → Option Value} {base : Heap}
def spBehind (K : PySem.W.Frag) : Sp := fun vs H Q _ => ∃ (wd ra : Addr) (many : Nat) (Ls : List (List Int)) (ws row : List Int), vs = [.ref wd, .ref ra] ∧ WAt K H wd many Ls ws ∧ LdOk many Ls ∧ SqT K H ra (row.map V.int) ∧ CsOk Ls.length row ∧
  ∀ D H', Same H H' → H' D = some (.lst ((behindF Ls many row).map V.int)) → Q (.ref D) H'
abbrev nLawBehind : List Str := ["world", "row", "found", "state", "move"]
theorem scLawBehind : FnScope nLawBehind ["world", "row"] (defScope s_law_behind) := ⟨rfl, rfl, rfl, by decide +kernel, rfl, by decide +kernel, by decide +kernel⟩
theorem ok_behind {f : Addr} {fd : FuncData} (F : Fun K "_law_behind" "_law_behind" s_law_behind f fd) (T : NmA mg) : FnOk P w K mg base CX0 1 f fd ["world", "row"] (spBehind K) := by
  refine F.ok scLawBehind (fun vs H Q E h => ?_) (fun cdv A' outer s H vs Q E hr h => ?_)
  · obtain ⟨wd, ra, many, Ls, ws, row, rfl, _⟩ := h
    rfl
  · obtain ⟨wd, ra, many, Ls, ws, row, rfl, hW, ok, hR, rok, k⟩ := h
    have hu := hu_of hr
    refine ⟨_, pss_cons (ps_set (i := 2) scLawBehind.nd rfl (Or.inl rfl) (pe_lst pa_nil))
      (pss_cons (ps_for PassesOwn.never rfl (pi_range1 (by rfl) T.range (pa_cons (pe_dget hu (pv 0) pe_str (fun _ _ => rfl)) pa_nil)) (pg_name (i := 3) scLawBehind.nd rfl (Or.inl rfl))
        (pss_cons (ps_for PassesOwn.never rfl (pi_tup (pv 1)) (pg_name (i := 4) scLawBehind.nd rfl (Or.inl rfl))
          (pss_one (ps_set (i := 3) scLawBehind.nd rfl (Or.inl rfl) (pe_ix ix_tup (pe_ix ix_list (pe_dget hu (pv 0) pe_str (fun _ _ => rfl)) (pv 4) (fun _ _ => rfl)) (pv 3) (fun _ _ => rfl)))))
        (pss_one (ps_expr (pe_bm PySem.F.plainAttrs_list PySem.F.slot_list_append PySem.F.type_list_append mt_append (pv 2) (pa_cons (pv 3) pa_nil))))))
      (pss_one (ps_ret (pv 2)))), ?_⟩
    obtain ⟨la, wa, vs, h1, h2, h3, h4⟩ := id hW
    have m12 := ok.m2
    refine ⟨by show 0 ≤ sizeLine; decide, fun D hD => ?_⟩
    refine ⟨_, rfl, wd, _, rfl, gw_many ((Same.new hD) _ _ h1), (many : Int), rfl, by omega, by omega, ?_⟩
    refine for_range (lo := 0) (n := many) (fun i σ H' => Same H H' ∧ ∃ u v : Option V, H' D = some (.lst (((List.range i).map fun s : Nat => goneL Ls row (s : Int)).map V.int)) ∧ σ = [some (.ref wd), some (.ref ra), some (.ref D), u, v]) ⟨Same.new hD, none, none, upd_same, rfl⟩ ?_ ?_
    · rintro i σ H' hi ⟨t1, u, v, g1, rfl⟩
      rw [Int.zero_add]
      refine ⟨_, rfl, ra, rfl, ⟨_, t1.sqT hR⟩, for_tup (K := K) (a := ra) (xs := row.map V.int) (fun j σ H2 => H2 = H' ∧ ∃ y : Option V, σ = [some (.ref wd), some (.ref ra), some (.ref D), some (.int (goneL Ls (row.take j) (i : Int))), y]) ⟨rfl, v, rfl⟩ (fun j σ H2 _ g => by rw [g.1]; exact t1.sqT hR) ?_ ?_⟩
      · rintro j x σ H2 hj ⟨rfl, y, rfl⟩
        rw [List.getElem?_map] at hj
        obtain ⟨c, hc, rfl⟩ := Option.map_eq_some_iff.mp hj
        have cb := rok c (List.mem_of_getElem? hc)
        have gb := goneL_in ok (row.take j) (i : Int) (CsOk.take rok j) ⟨by omega, by omega⟩
        obtain ⟨y1, y2, xs, y3, y4⟩ := lead_in ok cb gb
        obtain ⟨xs', l, z1, z2, z3⟩ := tups_at h3 cb.1 cb.2
        rw [y3] at z2
        cases z2
        have sl := (List.getElem?_eq_some_iff.mp y4).1
        have z4 := ints_at (xs := xs) gb.1 (by omega)
        rw [List.getD_eq_getElem?_getD, y4] at z4
        refine ⟨_, rfl, wd, _, rfl, gw_leads (t1 _ _ h1), _, rfl, la, _, _, _, rfl, rfl, SqL.of (t1 _ _ h2), z1, _, rfl, l, _, _, _, rfl, rfl, t1.sqT z3, z4, rfl, some (.int c), ?_⟩
        rw [List.take_add_one, hc]
        show _ = [some (V.ref wd), some (V.ref ra), some (V.ref D), some (V.int (goneL Ls (row.take j ++ [c]) (i : Int))), _]
        rw [goneL_snoc]
        rfl
      · rintro σ H2 ⟨rfl, y, rfl⟩
        rw [List.length_map, List.take_length]
        refine ⟨_, rfl, .inl ⟨rfl, _, SqL.of g1⟩, _, rfl, D, _, _, rfl, rfl, g1, ?_, t1.mut hD, _, _, ?_, rfl⟩
        · rw [List.length_map, List.length_map, List.length_range]
          exact small1000 (by omega)
        · rw [upd_same, List.range_succ, List.map_append, List.map_append] <;> rfl
    · rintro σ H' ⟨t1, u, v, g1, rfl⟩
      exact ⟨_, rfl, k D H' t1 g1⟩
def spDrawnL (K : PySem.W.Frag) : Sp := fun vs H Q _ => ∃ (wd ca : Addr) (b : Bool) (many : Nat) (Ls : List (List Int)) (ws cs : List Int), vs = [.ref wd, .ref ca, .str (plS b)] ∧ WAt K H wd many Ls ws ∧ LdOk many Ls ∧ SqT K H ca (cs.map V.int) ∧ CsOk Ls.length cs ∧ cs.length ≤ 400 ∧
  ∀ t H' (k : Nat), Same H H' → ResAt K H' t k (selF Ls many (upto many) cs k) → Pick b cs.length (oneF Ls many (upto many) cs) k → Q (.ref t) H'
theorem pl_dbl (b : Bool) : decide (V.str (plS b) = V.str ("double" : Str)) = !b := by
  cases b
  · exact decide_eq_true rfl
  · exact decide_eq_false fun e => absurd (V.str.inj e) (by decide +kernel)
def ks0 (b : Bool) (n : Nat) : List Nat := if b = true then List.range (n + 1) else lits
theorem ks0_lk {b : Bool} {n : Nat} (h : n ≤ 400) : IsLk b n ((ks0 b n).filter fun x => decide (x ≤ n)) := by
  cases b
  · exact lk_lits h
  · exact lk_filter
theorem ks0_len {b : Bool} {n : Nat} (h : n ≤ 400) : (ks0 b n).length ≤ 401 := by
  cases b
  · show lits.length ≤ 401
    decide
  · show (List.range (n + 1)).length ≤ 401
    rw [List.length_range]
    omega
abbrev iL (ks : List Nat) : List V := (ks.map fun i : Nat => (i : Int)).map V.int
theorem iL_snoc (a : List Nat) (x : Nat) : iL (a ++ [x]) = iL a ++ [V.int (x : Int)] := by
  show ((a ++ [x]).map fun i : Nat => (i : Int)).map V.int = _
  rw [List.map_append, List.map_append] <;> rfl
theorem filter_snoc {xs : List Nat} {f : Nat → Bool} {i x : Nat} (h : xs[i]? = some x) : (xs.take (i + 1)).filter f = (xs.take i).filter f ++ (if f x = true then [x] else []) := by
  rw [List.take_add_one, h, List.filter_append]
  congr 1
  show [x].filter f = _
  by_cases c : f x = true
  · rw [if_pos c, List.filter_cons_of_pos c] <;> rfl
  · rw [if_neg c, List.filter_cons_of_neg c] <;> rfl
abbrev nLawDrawn : List Str := ["world", "coins", "plan", "looks_v", "ends", "look", "state"]
theorem scLawDrawn : FnScope nLawDrawn ["world", "coins", "plan"] (defScope s_law_drawn) := ⟨rfl, rfl, rfl, by decide +kernel, rfl, by decide +kernel, by decide +kernel⟩
theorem ok_drawnL {f : Addr} {fd : FuncData} {fcLawLot : Addr} {fdcLawLot : FuncData} (F : Fun K "_law_drawn" "_law_drawn" s_law_drawn f fd) (T : NmA mg) (cLawLot : Cl P w K mg base CX0 1 "_law_lot" fcLawLot fdcLawLot ["states"] (spLotOf K)) : FnOk P w K mg base CX0 2 f fd ["world", "coins", "plan"] (spDrawnL K) := by
  refine F.ok scLawDrawn (fun vs H Q E h => ?_) (fun cdv A' outer s H vs Q E hr h => ?_)
  · obtain ⟨wd, ca, b, many, Ls, ws, cs, rfl, _⟩ := h
    rfl
  · obtain ⟨wd, ca, b, many, Ls, ws, cs, rfl, hW, ok, hC, cok, c400, k⟩ := h
    have hu := hu_of hr
    refine ⟨_, Evl.pss_cut (ps_set (i := 3) scLawDrawn.nd rfl (Or.inl rfl) (pe_ifExp (pt_cmpR op_eq (pv 2) pe_str (nomark _)) (pe_lst (pa_cons pe_int (pa_cons pe_int (pa_cons pe_int (pa_cons pe_int (pa_cons pe_int (pa_cons pe_int (pa_cons pe_int (pa_cons pe_int (pa_cons pe_int (pa_cons pe_int pa_nil))))))))))) (pe_listRg (by rfl) (by rfl) T.list (prg_1 (by rfl) T.range (pe_op op_add (pe_callB call_len_seq (by rfl) T.len PySem.boot_len (pa_cons (pv 1) pa_nil)) pe_int)))))
      (pss_cons (ps_asg (pe_tup (pa_cons (pe_lc (own := [("look", 5)]) (g := (gName 5)) (tt := _) rfl scLawDrawn.nd  (pi_list (pv 3)) (blkOk_by (own := [("look", 5)]) (N := nLawDrawn) (sc := defScope s_law_drawn) (by decide +kernel)) (fun _ _ _ _ _ => (pg_name (i := 5) scLawDrawn.nd rfl (Or.inl rfl))) (fun _ _ _ _ _ => (pts_one (pt_cmpR op_le (pv 5) (pe_callB (r := rLenK K) (show CallR _ (.builtin "len") (rLenK K) from call_len_seq) (by rfl) T.len PySem.boot_len (pa_cons (pv 1) pa_nil)) (nomark _)))) (fun _ _ _ _ _ => (pv 5))) (pa_cons (pe_listRg (by rfl) (by rfl) T.list (prg_1 (by rfl) T.range (pe_dget hu (pv 0) pe_str (fun _ _ => rfl)))) pa_nil))) (pg_tup (by rfl) (pgs_cons (pg_name (i := 3) scLawDrawn.nd rfl (Or.inl rfl)) (pgs_cons (pg_name (i := 4) scLawDrawn.nd rfl (Or.inr rfl)) pgs_nil))))
      (pss_cons (ps_for PassesOwn.never rfl (pi_range1 (by rfl) T.range (pa_cons (pe_op op_add (pe_ix ix_list (pv 3) (pe_un un_neg pe_int) (fun _ _ => rfl)) pe_int) pa_nil)) (pg_name (i := 5) scLawDrawn.nd rfl (Or.inl rfl))
        (Evl.pss_cut (ps_if (pt_cmpR op_gt (pv 5) pe_int (nomark _))
          (pss_one (ps_set (i := 4) scLawDrawn.nd rfl (Or.inr rfl) (pe_lc (own := [("state", 6)]) (g := (gName 6)) (tt := tYes) rfl scLawDrawn.nd  (pi_tup (pe_ix ix_list (pe_dget hu (pv 0) pe_str (fun _ _ => rfl)) (pe_ix ix_tup (pv 1) (pe_op op_sub (pv 5) pe_int) (fun _ _ => rfl)) (fun _ _ => rfl))) (blkOk_by (own := [("state", 6)]) (N := nLawDrawn) (sc := defScope s_law_drawn) (by decide +kernel)) (fun _ _ _ _ _ => (pg_name (i := 6) scLawDrawn.nd rfl (Or.inl rfl))) (fun _ _ _ _ _ => pts_nil) (fun _ _ _ _ _ => (pe_ix (r := rIxL K) (show IxR _ (rIxL K) from ix_list) (pv 4) (pv 6) (fun _ _ => rfl)))))) pss_nil)
        (pss_one (ps_if (PW.pt (pw_and (pt_cmpR op_in_seq (pv 5) (pv 3) (by rfl)) (pw_and1 (pt_cmpR op_eq (pe_callB cr_lenSet (by rfl) T.len PySem.boot_len (pa_cons (pe_callTy (cr_setA (by rfl)) (by rfl) T.set (by decide +kernel) (pa_cons (pv 4) pa_nil)) pa_nil)) pe_int (nomark _)))))
          (pss_one (ps_ret (pe_tup (pa_cons pe_str (pa_cons (pe_ix ix_list (pv 4) pe_int (fun _ _ => rfl)) (pa_cons (pv 5) pa_nil)))))) pss_nil))))
      (pss_one (ps_ret (pe_tup (pa_cons pe_str (pa_cons (cLawLot.call (hr.mono (by decide)) (pa_cons (pv 4) pa_nil)) (pa_cons (pe_ix ix_list (pv 3) (pe_un un_neg pe_int) (fun _ _ => rfl)) pa_nil)))))))), ?_⟩
    obtain ⟨la, wa, vs, h1, h2, h3, h4⟩ := id hW
    have m1 := ok.m1
    have m12 := ok.m2
    have cl : (cs.map V.int).length = cs.length := List.length_map ..
    refine ⟨fun σ' H' => Same H H' ∧ ∃ L0 : Addr, σ' = [some (.ref wd), some (.ref ca), some (.str (plS b)), some (.ref L0), none, none, none] ∧ H' L0 = some (.lst (iL (ks0 b cs.length))), ?_, ?_⟩
    · refine ⟨_, rfl, rfl, _, rfl, ?_⟩
      rw [pl_dbl]
      cases b with
      | false => exact iteT ⟨by show 10 ≤ sizeLine; decide, fun q hq => ⟨Same.new hq, q, rfl, upd_same⟩⟩
      | true =>
        refine iteF ⟨_, rfl, ca, _, rfl, .inr hC, _, _, rfl, rfl, (((cs.map V.int).length : Nat) : Int) + 1, rfl, RgOk.of_le (by decide) (by omega) (by decide) (by omega), fun q hq => ⟨Same.new hq, q, rfl, ?_⟩⟩
        have := rg_upto (cs.length + 1)
        rw [Int.natCast_add] at this
        rw [upd_same, cl]
        exact congrArg (fun z => some (HO.lst z)) this
    · rintro σ' H1 ⟨t1, L0, rfl, g1⟩
      refine ⟨_, rfl, L0, rfl, ⟨_, SqL.of g1⟩, fun D hD => ?_⟩
      refine lc_list (K := K) (a := L0) (xs := iL (ks0 b cs.length)) (fun i H' => Same H1 H' ∧ H' D = some (.lst (iL (((ks0 b cs.length).take i).filter fun x => decide (x ≤ cs.length))))) ⟨Same.new hD, upd_same⟩ (fun i H' _ g => SqL.of (g.1 _ _ g1)) (fun i x H' hi g => ?_) fun H2 g => ?_
      · obtain ⟨t2, g2⟩ := g
        rw [List.getElem?_map, List.getElem?_map] at hi
        obtain ⟨xi, hxi, rfl⟩ := Option.map_eq_some_iff.mp hi
        obtain ⟨j, hj, rfl⟩ := Option.map_eq_some_iff.mp hxi
        have hil := (List.getElem?_eq_some_iff.mp hj).1
        have k4 := ks0_len (b := b) c400
        refine ⟨rfl, _, rfl, _, rfl, ca, _, rfl, .inr ((t1.trans t2).sqT hC), _, _, rfl, rfl, _, rfl, ite2 (fun hle => ?_) (fun hle => ?_)⟩
        · have hle := of_decide_eq_true hle
          refine ⟨_, rfl, _, g2, ?_, t2.mut hD, ?_⟩
          · rw [List.length_map, List.length_map]
            have := List.length_filter_le (fun x => decide (x ≤ cs.length)) ((ks0 b cs.length).take i)
            rw [List.length_take] at this
            exact small1000 (by omega)
          · rw [upd_same, filter_snoc hj, if_pos (show decide (j ≤ cs.length) = true from decide_eq_true (by omega)), iL_snoc]
        · refine ⟨t2, ?_⟩
          have hle : ¬ j ≤ cs.length := fun q => hle (decide_eq_true (by omega))
          rw [filter_snoc hj, if_neg (show ¬ decide (j ≤ cs.length) = true from fun q => hle (of_decide_eq_true q)), List.append_nil]
          exact g2
      obtain ⟨t2, g2⟩ := g
      rw [List.length_map, List.length_map, List.take_length] at g2
      have isl := ks0_lk (b := b) c400
      generalize (ks0 b cs.length).filter (fun x => decide (x ≤ cs.length)) = ks at g2 isl
      have t12 := t1.trans t2
      refine ⟨_, rfl, wd, _, rfl, gw_many (t12 _ _ h1), (many : Int), rfl, RgOk.of_le (by decide) (by omega) (by decide) (by omega), fun q hq => ⟨by show 2 ≤ sizeLine; decide, fun t ht => ?_⟩⟩
      have s3 : Same H2 (upd (upd H2 q (.lst (rgV 0 (many : Int)))) t (.tup [.ref D, .ref q])) := (Same.new hq).trans (Same.new ht)
      have q3 : (upd (upd H2 q (.lst (rgV 0 (many : Int)))) t (.tup [.ref D, .ref q])) q = some (.lst ((upto many).map V.int)) := by
        rw [← rg_upto]
        exact (Same.new ht) _ _ upd_same
      refine ⟨t, _, rfl, SqT.of upd_same, rfl, _, _, rfl, _, _, rfl, rfl, ?_⟩
      generalize upd (upd H2 q (.lst (rgV 0 (many : Int)))) t (.tup [.ref D, .ref q]) = H3 at s3 q3 ⊢
      have t3 := t12.trans s3
      have g3 := s3 _ _ g2
      have h0 : 0 < ks.length := by
        obtain ⟨m, hm, _⟩ := List.getElem_of_mem ((isl.mem 0).mpr (zero_look b cs.length))
        omega
      obtain ⟨last, hlast⟩ : ∃ x, ks.getLast? = some x := ⟨ks[ks.length - 1], by rw [List.getLast?_eq_getElem?]; exact List.getElem?_eq_getElem (by omega)⟩
      have hll : last ≤ cs.length := ((isl.mem last).mp (List.mem_of_getLast? hlast)).1
      have hat : atI (iL ks) (-1) = some (.int (last : Int)) := at_last (by rw [List.getLast?_map, List.getLast?_map, hlast]; rfl)
      refine ⟨_, rfl, 1, rfl, D, _, _, _, rfl, rfl, SqL.of g3, hat, _, _, rfl, rfl, ((last + 1 : Nat) : Int), rfl, by omega, by omega, ?_⟩
      refine for_range (lo := 0) (n := last + 1) (fun i σ H' => Same H3 H' ∧ ∃ (ea : Addr) (u v : Option V), σ = [some (.ref wd), some (.ref ca), some (.str (plS b)), some (.ref D), some (.ref ea), u, v] ∧ H' ea = some (.lst ((endsF Ls many (cs.take (i - 1))).map V.int)) ∧ ∀ j, j < i → lkM b cs.length j → oneF Ls many (upto many) cs j = false)
        ⟨Same.refl H3, q, none, none, rfl, q3, fun j hj => absurd hj (Nat.not_lt_zero j)⟩ ?_ ?_
      · rintro i σ H' hi ⟨t4, ea, u, v, rfl, g4, hno⟩
        rw [Int.zero_add]
        have t14 := t3.trans t4
        refine ⟨fun σ' H'' => Same H' H'' ∧ ∃ (eb : Addr) (v' : Option V), σ' = [some (.ref wd), some (.ref ca), some (.str (plS b)), some (.ref D), some (.ref eb), some (.int (i : Int)), v'] ∧ H'' eb = some (.lst ((endsF Ls many (cs.take i)).map V.int)), ?_, ?_⟩
        · refine ⟨_, rfl, _, _, rfl, rfl, _, rfl, ite2 (fun hp => ?_) (fun hp => ?_)⟩
          · have hp : 0 < i := by
              have := of_decide_eq_true hp
              omega
            have hil : i - 1 < cs.length := by omega
            have cb := cok _ (List.getElem_mem hil)
            have hca : atI (cs.map V.int) ((i : Int) - 1) = some (.int cs[i - 1]) := by
              have := ints_at (xs := cs) (s := (i : Int) - 1) (by omega) (by omega)
              rw [show ((i : Int) - 1).toNat = i - 1 by omega, getD_of hil] at this
              exact this
            obtain ⟨xs, l, z1, z2, z3⟩ := tups_at h3 cb.1 cb.2
            obtain ⟨xs', y1, y2, y3, y4⟩ := ld_at ok cb
            rw [z2] at y1
            cases y1
            obtain ⟨el, _⟩ := ends_ok ok (cok.take (i - 1))
            refine ⟨_, rfl, wd, _, rfl, gw_leads (t14 _ _ h1), _, rfl, _, rfl, _, _, rfl, rfl, ca, _, _, _, rfl, rfl, t14.sqT hC, hca, la, _, _, _, rfl, rfl, SqL.of (t14 _ _ h2), z1, l, rfl, ⟨_, t14.sqT z3⟩, fun D2 hD2 => ?_⟩
            refine lc_tup (K := K) (a := l) (xs := xs.map V.int) (fun m H5 => Same H' H5 ∧ H5 D2 = some (.lst (((xs.take m).map fun s => (endsF Ls many (cs.take (i - 1))).getD s.toNat 0).map V.int))) ⟨Same.new hD2, upd_same⟩ (fun m H5 _ g => (t14.trans g.1).sqT z3) (fun m x H5 hm g => ?_) fun H5 g => ?_
            · obtain ⟨t5, g5⟩ := g
              rw [List.getElem?_map] at hm
              obtain ⟨z, hz, rfl⟩ := Option.map_eq_some_iff.mp hm
              have hml := (List.getElem?_eq_some_iff.mp hz).1
              refine ⟨rfl, _, rfl, _, rfl, ea, _, _, _, rfl, rfl, SqL.of (t5 _ _ g4), sel_turn (K := K) el y4 hz, _, g5, ?_, t5.mut hD2, ?_⟩
              · rw [List.length_map, List.length_map, List.length_take]
                exact small1000 (by omega)
              · rw [upd_same, ahead_take _ _ _ _ hz, List.map_append] <;> rfl
            · obtain ⟨t5, g5⟩ := g
              rw [List.length_map, List.take_length] at g5
              refine ⟨t5, D2, _, rfl, ?_⟩
              rw [g5, show cs.take i = cs.take (i - 1) ++ [cs[i - 1]] by
                have := List.take_append_getElem hil
                rw [this]
                congr 1
                omega, ends_snoc, y2] <;> rfl
          · have hp : i = 0 := by
              have z : ¬ (0 : Int) < (i : Int) := fun q => hp (decide_eq_true q)
              omega
            subst hp
            exact ⟨Same.refl H', ea, _, rfl, g4⟩
        · rintro σ' H5 ⟨t5, eb, v', rfl, g5⟩
          have t45 := t4.trans t5
          have t15 := t14.trans t5
          obtain ⟨el, ei⟩ := ends_ok ok (cok.take i)
          have e12 := ei.in12 m12
          have ese := sel_all ok cok i
          have nxt : ∀ H6, Same H5 H6 → (lkM b cs.length i → oneF Ls many (upto many) cs i = false) → Same H3 H6 ∧ ∃ (ea : Addr) (u v : Option V), [some (V.ref wd), some (.ref ca), some (.str (plS b)), some (.ref D), some (.ref eb), some (.int (i : Int)), v'] = [some (.ref wd), some (.ref ca), some (.str (plS b)), some (.ref D), some (.ref ea), u, v] ∧ H6 ea = some (.lst ((endsF Ls many (cs.take (i + 1 - 1))).map V.int)) ∧ ∀ j, j < i + 1 → lkM b cs.length j → oneF Ls many (upto many) cs j = false := by
            intro H6 t6 hz
            refine ⟨t45.trans t6, eb, _, _, rfl, by rw [Nat.add_sub_cancel]; exact t6 _ _ g5, fun j hj hl => ?_⟩
            rcases Nat.lt_or_ge j i with c | c
            · exact hno j c hl
            · have : j = i := by omega
              subst this
              exact hz hl
          refine ⟨_, rfl, _, rfl, D, _, rfl, .inl (SqL.of (t45 _ _ g3)), rfl, flat_ints _, _, rfl, ?_⟩
          show (if (inV (V.int (i : Int)) (iL ks)) = true then _ else _)
          rw [inV_ints]
          refine ite2 (fun hin => ?_) (fun hin => ?_)
          · have hin : i ∈ ks := by
              obtain ⟨j, hj, e⟩ := List.mem_map.mp (of_decide_eq_true hin)
              have : j = i := by omega
              exact this ▸ hj
            have hlk := (isl.mem i).mp hin
            refine ⟨_, rfl, eb, _, rfl, .inl (SqL.of g5), by omega, fun q2 c hq2 hc2 => ⟨q2, _, c, rfl, upd_same, ?_⟩⟩
            rintro ⟨ms, nd, hl, hm⟩
            have e1 : c = (lotF (endsF Ls many (cs.take i))).length := by
              rw [← hl]
              exact lot_len e12 nd fun z => by rw [← hm z, decide_eq_true_iff]
            refine ⟨rfl, _, rfl, ?_⟩
            rw [dec_len1]
            refine ite2 (fun h1c => ?_) (fun h1c => ?_)
            · have h1c := of_decide_eq_true h1c
              have l1 : (lotF (endsF Ls many (cs.take i))).length = 1 := by omega
              obtain ⟨z, y1, y2, y3⟩ := lot_one e12 l1
              have hz0 := ints_at (xs := endsF Ls many (cs.take i)) (s := 0) (by decide) (by omega)
              have l0 : 0 < (endsF Ls many (cs.take i)).length := by omega
              rw [show (0 : Int).toNat = 0 from rfl, getD_of l0, y2 _ (List.getElem_mem l0)] at hz0
              refine ⟨_, rfl, eb, _, _, _, rfl, rfl, SqL.of ((Same.new hq2) _ _ g5), hz0, _, rfl, by show 3 ≤ sizeLine; decide, fun t6 ht6 => ?_⟩
              refine k t6 _ i ((t15.trans (Same.new hq2)).trans (Same.new ht6)) (.inl ⟨?_, ?_⟩) ⟨hlk, fun j hj hji => hno j hji hj, .inl ?_⟩
              · rw [ese]
                exact l1
              · rw [ese, y1]
                exact SqT.of upd_same
              · unfold oneF
                rw [ese]
                exact decide_eq_true l1
            · refine nxt _ (Same.new hq2) fun _ => ?_
              unfold oneF
              rw [ese, ← e1]
              exact Bool.eq_false_iff.mpr h1c
          · refine nxt H5 (Same.refl H5) fun hl => ?_
            exact absurd (decide_eq_true (List.mem_map.mpr ⟨i, (isl.mem i).mpr hl, rfl⟩)) hin
      · rintro σ H5 ⟨t4, ea, u, v, rfl, g4, hno⟩
        rw [Nat.add_sub_cancel] at g4
        have t14 := t3.trans t4
        obtain ⟨el, ei⟩ := ends_ok ok (cok.take last)
        have ese := sel_all ok cok last
        have pk : Pick b cs.length (oneF Ls many (upto many) cs) last := pick_end isl hlast fun j x hx => by
          have hx' := List.mem_of_getElem? hx
          have hxl := (isl.mem x).mp hx'
          refine hno x ?_ hxl
          obtain ⟨a1, a2⟩ := List.getElem?_eq_some_iff.mp hx
          rw [List.getLast?_eq_getElem?] at hlast
          obtain ⟨b1, b2⟩ := List.getElem?_eq_some_iff.mp hlast
          rcases Nat.lt_or_ge j (ks.length - 1) with c | c
          · have := List.pairwise_iff_getElem.mp isl.asc j (ks.length - 1) a1 b1 c
            omega
          · have : j = ks.length - 1 := by omega
            subst this
            omega
        have p0 := hno last (Nat.lt_succ_self _) pk.at_
        have n1 : (lotF (endsF Ls many (cs.take last))).length ≠ 1 := fun e => by
          unfold oneF at p0
          rw [ese, decide_eq_true e] at p0
          cases p0
        refine ⟨_, rfl, ea, _, rfl, .inl (SqL.of g4), by omega, ei.in12 m12, fun l6 H6 s6 g6 => ?_⟩
        refine ⟨_, rfl, 1, rfl, D, _, _, _, rfl, rfl, SqL.of (s6 _ _ (t4 _ _ g3)), hat, by show 3 ≤ sizeLine; decide, fun t7 ht7 => ?_⟩
        refine k t7 _ last ((t14.trans s6).trans (Same.new ht7)) (.inr ⟨?_, l6, SqT.of upd_same, ?_⟩) pk
        · rw [ese]
          exact n1
        · rw [ese]
          exact SqT.of ((Same.new ht7) _ _ g6)
end
end Law

namespace Law
open PySem L2
theorem rep_any {K : PySem.W.Frag} {H : Hp} {l : Addr} {xs : List Int} {k : Int} {Q : VK} (hS : SqT K H l (xs.map V.int)) (hn : xs ≠ []) (h1 : xs.length ≤ 1000) (k2 : 2 ≤ k) (k3 : k ≤ 1000) (kk : ∀ p H', Same H H' → SqT K H' p ((List.replicate k.toNat xs).flatten.map V.int) → Q (.ref p) H') : rRepI K (.ref l) (.int k) H Q := by
  refine ⟨l, k, _, rfl, rfl, hS, fun e => hn (List.map_eq_nil_iff.mp e), by omega, k3, by rw [List.length_map]; exact h1, fun e => by omega, fun e => by omega, fun _ p hp => kk p _ (Same.new hp) ?_⟩
  rw [List.map_flatten, List.map_replicate]
  exact SqT.of upd_same
theorem cat_any {K : PySem.W.Frag} {H : Hp} {a b : Addr} {xs ys : List Int} {Q : VK} (ha : SqT K H a (xs.map V.int)) (hb : SqT K H b (ys.map V.int)) (hl : xs.length + ys.length ≤ 1000) (kk : ∀ p H', Same H H' → SqT K H' p ((xs ++ ys).map V.int) → Q (.ref p) H') : rCatA K (.ref a) (.ref b) H Q := by
  refine ⟨a, b, _, _, rfl, rfl, ha, hb, ?_, fun e => ?_, fun _ e => ?_, fun _ _ c hc => ?_⟩
  · rw [List.length_map, List.length_map]
    exact Nat.le_of_lt (small1000 (by omega))
  · refine kk b H (Same.refl H) ?_
    rw [List.map_append, e, List.nil_append]
    exact hb
  · refine kk a H (Same.refl H) ?_
    rw [List.map_append, e, List.append_nil]
    exact ha
  · refine kk c _ (Same.new hc) ?_
    rw [List.map_append]
    exact SqT.of upd_same
theorem sl_butlast {K : PySem.W.Frag} {H : Hp} {p : Addr} {xs : List V} {Q : VK} (hS : SqT K H p xs) (k : ∀ l H', Same H H' → SqT K H' l (xs.take (xs.length - 1)) → Q (.ref l) H') : rSlA K (.ref p) none (some (-1)) H Q := by
  have e0 : HT.sIx xs.length 0 none = 0 := rfl
  have e1 : HT.sIx xs.length xs.length (some (-1)) = xs.length - 1 := by
    show (if (-1 : Int) < 0 then ((-1 : Int) + (xs.length : Int)).toNat else min (-1 : Int).toNat xs.length) = xs.length - 1
    rw [if_pos (by decide)]
    omega
  refine ⟨p, xs, rfl, hS, fun h => ?_, fun _ q hq => ?_⟩
  · rw [e1] at h
    refine k p H (Same.refl H) ?_
    rw [h.2, List.take_length]
    exact hS
  · have e : cutV xs none (some (-1)) = xs.take (xs.length - 1) := by
      unfold cutV
      rw [e1, e0, List.drop_zero, Nat.sub_zero]
    rw [e]
    exact k q _ (Same.new hq) (SqT.of upd_same)
theorem two_at (a b i : Int) : ∃ z, atI [V.int a, V.int b] (i % 2) = some (V.int z) ∧ (z = a ∨ z = b) := by
  rcases Int.emod_two_eq i with e | e
  · rw [e]
    exact ⟨a, ats0 _ _, .inl rfl⟩
  · rw [e]
    exact ⟨b, ats1 _ _, .inr rfl⟩
theorem Stp.back {p : Addr} {H H1 H2 : Hp} (a : Stp p H H1) (s : Same H1 H2) : Stp p H H2 := a.post s
section
variable {P : Program} {w : World} {K : PySem.W.Frag} {mg : Str → Option Value} {base : Heap}
def spCoins (K : PySem.W.Frag) : Sp := fun vs H Q _ => ∃ (p wd : Addr) (most many : Nat) (Ls : List (List Int)) (ws : List Int), vs = [.ref p, .ref wd, .int (most : Int)] ∧ most ≤ 400 ∧ HandAt H p ∧ WAt K H wd many Ls ws ∧ WOk many Ls ws ∧
  ∀ l H' (cs : List Int), Stp p H H' → H' l = some (.tup (cs.map V.int)) → CsOk Ls.length cs → cs.length ≤ most → Q (.ref l) H'
abbrev nLawCoins : List Str := ["hand", "world", "most", "many", "moves", "some", "k"]
def spLate (K : PySem.W.Frag) : Sp := fun vs H Q _ => ∃ (p : Addr), vs = [.ref p] ∧ HandAt H p ∧
  ∀ (t wd ca : Addr) (H' : Hp) (many : Nat) (Ls : List (List Int)) (ws cs : List Int), Stp p H H' → SqT K H' t [.ref wd, .ref ca] → WAt K H' wd many Ls ws → WOk many Ls ws → SqT K H' ca (cs.map V.int) → CsOk Ls.length cs → cs.length ≤ 400 → Q (.ref t) H'
def lateR (n : Nat) : List Int := (List.replicate (n - 2) ([1] ++ (List.replicate (n - 1) [(0 : Int)]).flatten)).flatten ++ [1]
theorem late_len (n : Nat) : (lateR n).length = (n - 2) * (1 + (n - 1)) + 1 := by
  unfold lateR
  rw [rep_one, List.length_append, List.length_flatten, List.map_replicate, List.length_append, List.length_replicate]
  simp
theorem late_mem (n : Nat) : ∀ x ∈ lateR n, 0 ≤ x ∧ x < 2 := by
  intro x hx
  unfold lateR at hx
  rw [rep_one] at hx
  rcases List.mem_append.mp hx with h | h
  · obtain ⟨l, h1, h2⟩ := List.mem_flatten.mp h
    rw [(List.mem_replicate.mp h1).2] at h2
    rcases List.mem_append.mp h2 with h3 | h3
    · rw [List.mem_singleton.mp h3]
      decide
    · rw [(List.mem_replicate.mp h3).2]
      decide
  · rw [List.mem_singleton.mp h]
    decide
abbrev nLawLate : List Str := ["hand", "many", "leads", "row", "still", "ahead", "weights", "state", "k", "move"]
theorem scLawLate : FnScope nLawLate ["hand"] (defScope s_law_late) := ⟨rfl, rfl, rfl, by decide +kernel, rfl, by decide +kernel, by decide +kernel⟩
theorem ok_late {f : Addr} {fd : FuncData} {fD : Addr} {fdD : FuncData} {fA : Addr} {fdA : FuncData} (F : Fun K "_law_late" "_law_late" s_law_late f fd) (T : NmA mg) (D : Cl P w K mg base CX0 1 "_law_draw" fD fdD ["hand", "many"] spDraw) (A : Cl P w K mg base CX0 2 "_law_any" fA fdA ["hand", "things"] (spAny K)) : FnOk P w K mg base CX0 3 f fd ["hand"] (spLate K) := by
  refine F.ok scLawLate (fun vs H Q E h => ?_) (fun cdv A' outer s H vs Q E hr h => ?_)
  · obtain ⟨p, rfl, _⟩ := h
    rfl
  · obtain ⟨p, rfl, hH, k⟩ := h
    have hu := hu_of hr
    refine ⟨_, pss_cons (ps_set (i := 1) scLawLate.nd rfl (Or.inr rfl) (pe_op op_add pe_int (D.call (hr.mono (by decide)) (pa_cons (pv 0) (pa_cons pe_int pa_nil)))))
      (pss_cons (ps_set (i := 2) scLawLate.nd rfl (Or.inl rfl) (pe_lst (pa_cons (pe_callTy call_tuple_of (by rfl) T.tuple (by decide +kernel) (pa_cons (pe_lc (own := [("state", 7)]) (g := (gName 7)) (tt := tYes) rfl scLawLate.nd  (pi_range1 (by rfl) T.range (pa_cons (pv 1) pa_nil)) (blkOk_by (own := [("state", 7)]) (N := nLawLate) (sc := defScope s_law_late) (by decide +kernel)) (fun _ _ _ _ _ => (pg_name (i := 7) scLawLate.nd rfl (Or.inl rfl))) (fun _ _ _ _ _ => pts_nil) (fun _ _ _ _ _ => (pe_op op_mod (pe_callTy (r := fun xs H Q => (∃ i, xs = [.int i] ∧ Q (.int i) H) ∨ ∃ k, xs = [.bl k] ∧ Q (.int (if k then 1 else 0)) H) call_int1 (by rfl) T.int (by decide +kernel) (pa_cons (pe_op op_add (pv 7) pe_int) pa_nil)) (pv 1)))) pa_nil)) (pa_cons (pe_callTy call_tuple_of (by rfl) T.tuple (by decide +kernel) (pa_cons (pe_op op_cat (pe_listRg (by rfl) (by rfl) T.list (prg_1 (by rfl) T.range (pe_op op_sub (pv 1) pe_int))) (pe_lst (pa_cons pe_int pa_nil))) pa_nil)) pa_nil))))
      (pss_cons (ps_set (i := 2) scLawLate.nd rfl (Or.inl rfl) (pe_op op_cat (pv 2) (pe_op op_rep (pe_lst (pa_cons (pe_tupRg (by rfl) (by rfl) T.tuple (prg_1 (by rfl) T.range (pv 1))) pa_nil)) (D.call (hr.mono (by decide)) (pa_cons (pv 0) (pa_cons pe_int pa_nil))))))
      (pss_cons (ps_set (i := 3) scLawLate.nd rfl (Or.inl rfl) (pe_op op_catA (pe_op op_repI (pe_op op_catA (pe_tup (pa_cons pe_int pa_nil)) (pe_op op_repI (pe_tup (pa_cons pe_int pa_nil)) (pe_op op_sub (pv 1) pe_int))) (pe_op op_sub (pv 1) pe_int)) (pe_tup (pa_cons pe_int pa_nil))))
      (Evl.pss_cut (ps_set (i := 4) scLawLate.nd rfl (Or.inr rfl) (pe_ifExp (pt_cmpR op_gt (pe_callB call_len_seq (by rfl) T.len PySem.boot_len (pa_cons (pv 2) pa_nil)) pe_int (nomark _)) (pe_lst (pa_cons pe_int (pa_cons (pe_op op_sub (pe_callB call_len_seq (by rfl) T.len PySem.boot_len (pa_cons (pv 2) pa_nil)) pe_int) pa_nil))) (pe_lst (pa_cons pe_int (pa_cons pe_int pa_nil)))))
      (pss_cons (ps_set (i := 5) scLawLate.nd rfl (Or.inl rfl) (pe_callTy call_tuple_of (by rfl) T.tuple (by decide +kernel) (pa_cons (pe_lc (own := [("k", 8)]) (g := (gName 8)) (tt := tYes) rfl scLawLate.nd  (pi_range1 (by rfl) T.range (pa_cons (D.call (hr.mono (by decide)) (pa_cons (pv 0) (pa_cons (pe_op op_sub pe_int (pe_callB call_len_seq (by rfl) T.len PySem.boot_len (pa_cons (pv 3) pa_nil))) pa_nil))) pa_nil)) (blkOk_by (own := [("k", 8)]) (N := nLawLate) (sc := defScope s_law_late) (by decide +kernel)) (fun _ _ _ _ _ => (pg_name (i := 8) scLawLate.nd rfl (Or.inl rfl))) (fun _ _ _ _ _ => pts_nil) (fun _ _ _ _ _ => (A.call (hr.mono (by decide)) (pa_cons (pv 0) (pa_cons (pv 4) pa_nil))))) pa_nil)))
      (pss_cons (ps_setLc (i := 6) (own := [("move", 9)]) (g := (gName 9)) (tt := tYes) (by rfl) scLawLate.nd rfl rfl (sw_true rfl rfl rfl (by decide +kernel)) (pi_list (pv 2)) (blkOk_by (own := [("move", 9)]) (N := nLawLate) (sc := defScope s_law_late) (by decide +kernel)) (fun _ _ _ _ _ => (pg_name (i := 9) scLawLate.nd rfl (Or.inl rfl))) (fun _ _ _ _ _ => pts_nil) (fun _ _ _ _ _ => (pe_op op_add pe_int (D.call (hr.mono (by decide)) (pa_cons (pv 0) (pa_cons pe_int pa_nil))))))
      (pss_one (ps_ret (pe_tup (pa_cons (pe_disp (pps_cons pe_str (pv 1) (pps_cons pe_str (pv 2) (pps_cons pe_str (pv 6) (pps_cons pe_str (pe_callB (cr_sum rfl) (by rfl) T.sum (by decide +kernel) (pa_cons (pv 6) pa_nil)) pps_nil)))) (by rfl) (by rfl) (fun z => by cases z) (by decide)) (pa_cons (pe_op op_catA (pv 5) (pe_revT (pv 3))) pa_nil))))))))))), ?_⟩
    refine ⟨_, rfl, p, 7, rfl, by decide, by decide, hH, fun d H1 d0 d1 S1 => ⟨_, _, rfl, rfl, ?_⟩⟩
    obtain ⟨c, rfl⟩ := Int.eq_ofNat_of_zero_le d0
    obtain ⟨n, hn⟩ : ∃ n : Nat, n = 6 + c := ⟨_, rfl⟩
    show gName 1 (V.int (6 + (c : Int))) _ H1 _
    rw [show (6 : Int) + (c : Int) = (n : Int) by omega]
    have n6 : 6 ≤ n := by omega
    have n12 : n ≤ 12 := by omega
    have np : (0 : Int) < (n : Int) := by omega
    -- the two moves
    refine ⟨_, rfl, (n : Int), rfl, by omega, by omega, fun D hD => ?_⟩
    refine lc_range (lo := 0) (n := n) (Grow p D H1 n) (Grow.zero S1.hand hD) (fun i H' hi g => ?_) fun H2 g => ?_
    · exact ⟨rfl, _, rfl, _, _, rfl, rfl, .inl ⟨_, rfl, _, rfl, _, _, rfl, rfl, np, g.put S1.hand hD (Stp.refl g.1.hand) (by omega) (Int.emod_nonneg _ (by omega)) (Int.emod_lt_of_pos _ np)⟩⟩
    obtain ⟨S2, xs1, g1, g2', g3'⟩ := g
    refine ⟨D, _, rfl, .inl ⟨SqL.of g1, fun l1 hl1 => ?_⟩⟩
    have S3 : Stp p H (upd H2 l1 (.tup (xs1.map V.int))) := (S1.trans S2).post (Same.new hl1)
    have k1 : (upd H2 l1 (.tup (xs1.map V.int))) l1 = some (.tup (xs1.map V.int)) := upd_same
    generalize upd H2 l1 (.tup (xs1.map V.int)) = H3 at S3 k1 ⊢
    refine ⟨_, rfl, _, _, rfl, rfl, ((n - 1 : Nat) : Int), ?_, RgOk.of_le (by decide) (by omega) (by decide) (by omega), fun q hq => ?_⟩
    · show V.int ((n : Int) - 1) = _
      rw [show ((n - 1 : Nat) : Int) = (n : Int) - 1 by omega]
    rw [rg_upto]
    have s4 : Same H3 (upd H3 q (.lst ((upto (n - 1)).map V.int))) := Same.new hq
    have k4 : (upd H3 q (.lst ((upto (n - 1)).map V.int))) q = some (.lst ((upto (n - 1)).map V.int)) := upd_same
    generalize upd H3 q (.lst ((upto (n - 1)).map V.int)) = H4 at s4 k4 ⊢
    refine ⟨by show 1 ≤ sizeLine; decide, fun z0 hz0 => ?_⟩
    have s5 : Same H4 (upd H4 z0 (.lst [.int 0])) := Same.new hz0
    refine ⟨q, z0, _, _, rfl, rfl, s5 _ _ k4, upd_same, ?_, fun q2 hq2 => ?_⟩
    · rw [List.length_map, upto_len]
      exact Nat.le_of_lt (small1000 (by show n - 1 + 1 ≤ 1000; omega))
    generalize upd H4 z0 (.lst [.int 0]) = H5 at s5 hq2 ⊢
    refine ⟨q2, _, rfl, .inl ⟨SqL.of upd_same, fun l2 hl2 => ?_⟩⟩
    have e2 : (upto (n - 1)).map V.int ++ [V.int 0] = (upto (n - 1) ++ [0]).map V.int := by rw [List.map_append] <;> rfl
    rw [e2] at hl2 ⊢
    have s6 : Same H5 (upd (upd H5 q2 (.lst ((upto (n - 1) ++ [0]).map V.int))) l2 (.tup ((upto (n - 1) ++ [0]).map V.int))) := (Same.new hq2).trans (Same.new hl2)
    have k6 : (upd (upd H5 q2 (.lst ((upto (n - 1) ++ [0]).map V.int))) l2 (.tup ((upto (n - 1) ++ [0]).map V.int))) l2 = some (.tup ((upto (n - 1) ++ [0]).map V.int)) := upd_same
    generalize upd (upd H5 q2 (.lst ((upto (n - 1) ++ [0]).map V.int))) l2 (.tup ((upto (n - 1) ++ [0]).map V.int)) = H6 at s6 k6 ⊢
    have t36 := (s4.trans s5).trans s6
    have S6 := S3.post t36
    have k1' := t36 _ _ k1
    refine ⟨by show 2 ≤ sizeLine; decide, fun L0 hL0 => ?_⟩
    have s7 : Same H6 (upd H6 L0 (.lst [.ref l1, .ref l2])) := Same.new hL0
    have k7 : (upd H6 L0 (.lst [.ref l1, .ref l2])) L0 = some (.lst [.ref l1, .ref l2]) := upd_same
    generalize upd H6 L0 (.lst [.ref l1, .ref l2]) = H7 at s7 k7 ⊢
    have S7 := S6.post s7
    -- leads + [tuple(range(many))] * draw
    refine ⟨_, rfl, _, rfl, (n : Int), rfl, RgOk.of_le (by decide) (by omega) (by decide) (by omega), fun l3 hl3 => ?_⟩
    rw [rg_upto]
    have s8 : Same H7 (upd H7 l3 (.tup ((upto n).map V.int))) := Same.new hl3
    have k8 : (upd H7 l3 (.tup ((upto n).map V.int))) l3 = some (.tup ((upto n).map V.int)) := upd_same
    generalize upd H7 l3 (.tup ((upto n).map V.int)) = H8 at s8 k8 ⊢
    refine ⟨by show 1 ≤ sizeLine; decide, fun z1 hz1 => ?_⟩
    have s9 : Same H8 (upd H8 z1 (.lst [.ref l3])) := Same.new hz1
    have k9 : (upd H8 z1 (.lst [.ref l3])) z1 = some (.lst [.ref l3]) := upd_same
    generalize upd H8 z1 (.lst [.ref l3]) = H9 at s9 k9 ⊢
    have S9 := (S7.post s8).post s9
    refine ⟨_, rfl, p, 2, rfl, by decide, by decide, S9.hand, fun d2 H10 e0 e1 S10 => ?_⟩
    obtain ⟨m, rfl⟩ := Int.eq_ofNat_of_zero_le e0
    have nz1 : z1 ≠ p := ne_of k9 S9.hand.dk.choose_spec (by intro z; cases z)
    refine ⟨z1, _, _, rfl, rfl, S10.keep _ _ nz1 k9, by omega, by omega, ?_, fun r1 hr1 => ?_⟩
    · show 1 * _ ≤ sizeLine
      exact Nat.le_of_lt (small1000 (by omega))
    have e3 : (List.replicate ((m : Int)).toNat [V.ref l3]).flatten = List.replicate m (V.ref l3) := by rw [Int.toNat_natCast, rep_one]
    have s11 : Same H10 (upd H10 r1 (.lst (List.replicate ((m : Int)).toNat [V.ref l3]).flatten)) := Same.new hr1
    have k11 : (upd H10 r1 (.lst (List.replicate ((m : Int)).toNat [V.ref l3]).flatten)) r1 = some (.lst (List.replicate m (V.ref l3))) := by rw [upd_same, e3]
    generalize upd H10 r1 (.lst (List.replicate ((m : Int)).toNat [V.ref l3]).flatten) = H11 at s11 k11 ⊢
    have nL0 : L0 ≠ p := ne_of k7 S7.hand.dk.choose_spec (by intro z; cases z)
    have k7' := s11 _ _ (S10.keep _ _ nL0 (s9 _ _ (s8 _ _ k7)))
    refine ⟨L0, r1, _, _, rfl, rfl, k7', k11, ?_, fun L1 hL1 => ?_⟩
    · rw [List.length_replicate]
      exact Nat.le_of_lt (small1000 (by show 2 + m ≤ 1000; omega))
    have s12 : Same H11 (upd H11 L1 (.lst ([V.ref l1, V.ref l2] ++ List.replicate m (V.ref l3)))) := Same.new hL1
    have k12 : (upd H11 L1 (.lst ([V.ref l1, V.ref l2] ++ List.replicate m (V.ref l3)))) L1 = some (.lst ([V.ref l1, V.ref l2] ++ List.replicate m (V.ref l3))) := upd_same
    generalize upd H11 L1 (.lst ([V.ref l1, V.ref l2] ++ List.replicate m (V.ref l3))) = H12 at s12 k12 ⊢
    have S12 := ((S9.trans S10).post s11).post s12
    obtain ⟨Ls, hLs⟩ : ∃ Ls : List (List Int), Ls = [xs1, upto (n - 1) ++ [0]] ++ List.replicate m (upto n) := ⟨_, rfl⟩
    obtain ⟨vs, hvs⟩ : ∃ vs : List V, vs = [V.ref l1, V.ref l2] ++ List.replicate m (V.ref l3) := ⟨_, rfl⟩
    have lvs : vs.length = 2 + m := by
      rw [hvs, List.length_append, List.length_replicate]
      rfl
    have lLs : Ls.length = 2 + m := by
      rw [hLs, List.length_append, List.length_replicate]
      rfl
    have hT : TupsIn K H12 vs Ls := by
      have a1 : SqT K H12 l1 (xs1.map V.int) := s12.sqT (s11.sqT (S10.sqT S9.hand (SqT.of (s9 _ _ (s8 _ _ (s7 _ _ k1'))))))
      have a2 : SqT K H12 l2 ((upto (n - 1) ++ [0]).map V.int) := s12.sqT (s11.sqT (S10.sqT S9.hand (SqT.of (s9 _ _ (s8 _ _ (s7 _ _ k6))))))
      have a3 : SqT K H12 l3 ((upto n).map V.int) := s12.sqT (s11.sqT (S10.sqT S9.hand (SqT.of (s9 _ _ k8))))
      refine ⟨by rw [lvs, lLs], fun i v hv => ?_⟩
      have hil := (List.getElem?_eq_some_iff.mp hv).1
      rw [lvs] at hil
      rw [hvs] at hv
      rw [hLs]
      match i, hil, hv with
      | 0, _, hv => exact ⟨xs1, rfl, l1, (Option.some.inj hv).symm, a1⟩
      | 1, _, hv => exact ⟨_, rfl, l2, (Option.some.inj hv).symm, a2⟩
      | i + 2, hil, hv =>
        have h1 : (List.replicate m (V.ref l3))[i]? = some v := hv
        rw [List.getElem?_replicate, if_pos (by omega)] at h1
        refine ⟨upto n, ?_, l3, (Option.some.inj h1).symm, a3⟩
        show (List.replicate m (upto n))[i]? = _
        rw [List.getElem?_replicate, if_pos (by omega)]
    rw [← hvs] at k12
    -- the row
    refine ⟨by show 1 ≤ sizeLine; decide, fun r2 hr2 => ?_⟩
    have s13 : Same H12 (upd H12 r2 (.tup [.int 1])) := Same.new hr2
    have k13 : SqT K (upd H12 r2 (.tup [.int 1])) r2 (([1] : List Int).map V.int) := SqT.of upd_same
    generalize upd H12 r2 (.tup [.int 1]) = H13 at s13 k13 ⊢
    refine ⟨by show 1 ≤ sizeLine; decide, fun r3 hr3 => ?_⟩
    have s14 : Same H13 (upd H13 r3 (.tup [.int 0])) := Same.new hr3
    have k14 : SqT K (upd H13 r3 (.tup [.int 0])) r3 (([0] : List Int).map V.int) := SqT.of upd_same
    generalize upd H13 r3 (.tup [.int 0]) = H14 at s14 k14 ⊢
    refine ⟨_, rfl, _, _, rfl, rfl, rep_any k14 (by simp) (by decide) (by omega) (by omega) fun r4 H15 s15 k15 => ?_⟩
    rw [show ((n : Int) - 1).toNat = n - 1 by omega] at k15
    have l15 : ((List.replicate (n - 1) [(0 : Int)]).flatten).length = n - 1 := by rw [rep_one, List.length_replicate]
    refine cat_any (s15.sqT (s14.sqT k13)) k15 (by rw [l15]; show 1 + (n - 1) ≤ 1000; omega) fun r5 H16 s16 k16 => ?_
    refine ⟨_, rfl, _, _, rfl, rfl, rep_any k16 (by simp) (by rw [List.length_append, l15]; show 1 + (n - 1) ≤ 1000; omega) (by omega) (by omega) fun r6 H17 s17 k17 => ?_⟩
    rw [show ((n : Int) - 2).toNat = n - 2 by omega] at k17
    refine ⟨by show 1 ≤ sizeLine; decide, fun r7 hr7 => ?_⟩
    have s18 : Same H17 (upd H17 r7 (.tup [.int 1])) := Same.new hr7
    have k18 : SqT K (upd H17 r7 (.tup [.int 1])) r7 (([1] : List Int).map V.int) := SqT.of upd_same
    generalize upd H17 r7 (.tup [.int 1]) = H18 at s18 k18 ⊢
    have hll := late_len n
    have b1 : (n - 2) * (1 + (n - 1)) ≤ 10 * 12 := Nat.mul_le_mul (by omega) (by omega)
    refine cat_any (s18.sqT k17) k18 ?_ fun row H19 s19 k19 => ?_
    · have : ((List.replicate (n - 2) ([1] ++ (List.replicate (n - 1) [(0 : Int)]).flatten)).flatten).length + 1 = (lateR n).length := by
        unfold lateR
        rw [List.length_append (bs := [1])] <;> rfl
      show _ + 1 ≤ 1000
      omega
    have t19 : Same H12 H19 := (((((s13.trans s14).trans s15).trans s16).trans s17).trans s18).trans s19
    have k19 : SqT K H19 row ((lateR n).map V.int) := k19
    have S19 := S12.post t19
    have w12 := t19 _ _ k12
    have T19 := hT.same t19
    have nL1 : L1 ≠ p := ne_of w12 S19.hand.dk.choose_spec (by intro z; cases z)
    clear t19 s13 s14 s15 s16 s17 s18 s19 k13 k14 k15 k16 k17 k18
    -- still
    refine ⟨fun σ' H' => Same H19 H' ∧ ∃ (st : Addr) (a b : Int), H' st = some (.lst [.int a, .int b]) ∧ (0 ≤ a ∧ a < ((Ls.length : Nat) : Int)) ∧ (0 ≤ b ∧ b < ((Ls.length : Nat) : Int)) ∧ σ' = [some (.ref p), some (.int (n : Int)), some (.ref L1), some (.ref row), some (.ref st), none, none, none, none, none], ?_, ?_⟩
    · refine ⟨_, rfl, L1, _, rfl, .inl (SqL.of w12), _, _, rfl, rfl, _, rfl, ite2 (fun _ => ?_) (fun _ => ?_)⟩
      · refine ⟨_, rfl, L1, _, rfl, .inl (SqL.of w12), _, _, rfl, rfl, by show 2 ≤ sizeLine; decide, fun st hst => ?_⟩
        exact ⟨Same.new hst, st, _, _, upd_same, ⟨by decide, by omega⟩, ⟨by omega, by omega⟩, rfl⟩
      · refine ⟨by show 2 ≤ sizeLine; decide, fun st hst => ?_⟩
        exact ⟨Same.new hst, st, _, _, upd_same, ⟨by decide, by omega⟩, ⟨by decide, by omega⟩, rfl⟩
    · rintro σ' H20 ⟨s20, st, a, b, k20, ha, hb, rfl⟩
      have S20 := S19.post s20
      have nst : st ≠ p := ne_of k20 S20.hand.dk.choose_spec (by intro z; cases z)
      have k19' := s20.sqT k19
      refine ⟨_, rfl, _, rfl, row, _, rfl, .inr k19', _, _, rfl, rfl, p, 390 - (((lateR n).map V.int).length : Int), rfl, ?_, ?_, S20.hand, fun d3 H21 f0 f1 S21 => ?_⟩
      · rw [List.length_map]
        omega
      · rw [List.length_map]
        omega
      rw [List.length_map] at f1
      obtain ⟨u, rfl⟩ := Int.eq_ofNat_of_zero_le f0
      refine ⟨(u : Int), rfl, by omega, by omega, fun D2 hD2 => ?_⟩
      refine lc_range (lo := 0) (n := u) (Grow p D2 H21 ((Ls.length : Nat) : Int)) (Grow.zero S21.hand hD2) (fun i H' hi g => ?_) fun H22 g => ?_
      · refine ⟨rfl, _, rfl, _, rfl, p, st, _, rfl, .inl (SqL.of (g.1.keep _ _ nst (S21.keep _ _ nst k20))), by show 0 < 2; decide, by show 2 < _; decide, g.1.hand, fun j x H5 hj S5 => ?_⟩
        have e : ∃ z : Int, x = .int z ∧ 0 ≤ z ∧ z < ((Ls.length : Nat) : Int) := by
          have hx := List.mem_of_getElem? hj
          simp only [List.mem_cons, List.not_mem_nil, or_false] at hx
          rcases hx with rfl | rfl
          · exact ⟨a, rfl, ha.1, ha.2⟩
          · exact ⟨b, rfl, hb.1, hb.2⟩
        obtain ⟨z, rfl, z0, z1⟩ := e
        exact g.put S21.hand hD2 S5 (by omega) z0 z1
      obtain ⟨S22, ah, g1, g2, g3⟩ := g
      refine ⟨D2, _, rfl, .inl ⟨SqL.of g1, fun ta hta => ?_⟩⟩
      have s23 : Same H22 (upd H22 ta (.tup (ah.map V.int))) := Same.new hta
      have k23 : SqT K (upd H22 ta (.tup (ah.map V.int))) ta (ah.map V.int) := SqT.of upd_same
      generalize upd H22 ta (.tup (ah.map V.int)) = H23 at s23 k23 ⊢
      have S2023 : Stp p H20 H23 := (S21.trans S22).post s23
      have S23 := S20.trans S2023
      have w23 := S2023.keep _ _ nL1 (s20 _ _ w12)
      have T23 := (T19.same s20).kp S2023.kp S20.hand
      have k19'' := S2023.sqT S20.hand k19'
      refine ⟨_, rfl, L1, rfl, ⟨_, SqL.of w23⟩, fun D3 hD3 => ?_⟩
      refine lc_list (K := K) (a := L1) (xs := vs) (GrowP p D3 H23 fun x => 0 < x ∧ x < 2 ^ 34) (GrowP.zero S23.hand hD3) (fun i H' _ gg => SqL.of (gg.1.keep _ _ nL1 w23)) (fun i x H' hi gg => ?_) fun H24 gg => ?_
      · have hil := (List.getElem?_eq_some_iff.mp hi).1
        exact ⟨rfl, _, rfl, p, 9, rfl, by decide, by decide, gg.1.hand, fun d4 H6 a0 a1 S6 => ⟨_, _, rfl, rfl, gg.put S23.hand hD3 S6 (by omega) ⟨by omega, by omega⟩⟩⟩
      obtain ⟨S24, ws, w1, w2, w3⟩ := gg
      have w24 := S24.keep _ _ nL1 w23
      have T24 := T23.kp S24.kp S23.hand
      intro wd hwd
      have s25 : Same H24 (upd H24 wd (.dK [])) := Same.new hwd
      refine ⟨_, rfl, _, rfl, _, rfl, _, rfl, D3, _, rfl, SqL.of (s25 _ _ w1), upd_same, wdK (n : Int) L1 D3 ws.sum, rfl, (show 4 ≤ 15 by decide), ?_⟩
      rw [merge_wd, upd_upd]
      have s26 : Same H24 (upd H24 wd (.dK (wdK (n : Int) L1 D3 ws.sum))) := Same.new hwd
      have hW : WAt K (upd H24 wd (.dK (wdK (n : Int) L1 D3 ws.sum))) wd n Ls ws := ⟨L1, D3, vs, upd_same, s26 _ _ w24, T24.same s26, s26 _ _ w1⟩
      generalize upd H24 wd (.dK (wdK (n : Int) L1 D3 ws.sum)) = H26 at s26 hW ⊢
      have kr := s26.sqT (S24.sqT S23.hand k19'')
      have ka := s26.sqT (S24.sqT S23.hand k23)
      refine ⟨_, rfl, _, rfl, row, _, rfl, kr, fun rv hrv => ?_⟩
      have s27 : Same H26 (upd H26 rv (.tup ((lateR n).map V.int).reverse)) := Same.new hrv
      have kv : SqT K (upd H26 rv (.tup ((lateR n).map V.int).reverse)) rv ((lateR n).reverse.map V.int) := by
        rw [List.map_reverse]
        exact SqT.of upd_same
      generalize upd H26 rv (.tup ((lateR n).map V.int).reverse) = H27 at s27 kv ⊢
      refine cat_any (s27.sqT ka) kv (by rw [List.length_reverse]; omega) fun cc H28 s28 k28 => ⟨by show 2 ≤ sizeLine; decide, fun t ht => ?_⟩
      have s29 : Same H28 (upd H28 t (.tup [.ref wd, .ref cc])) := Same.new ht
      have tt := (s26.trans s27).trans (s28.trans s29)
      refine k t wd cc _ n Ls ws (ah ++ (lateR n).reverse) ((S23.trans S24).post tt) (SqT.of upd_same) (hW.same ((s27.trans s28).trans s29)) ⟨by omega, n12, by omega, by omega, by omega, ?_, w3⟩ (s29.sqT k28) ?_ ?_
      · intro xs hx
        rw [hLs] at hx
        rcases List.mem_append.mp hx with h | h
        · simp only [List.mem_cons, List.not_mem_nil, or_false] at h
          rcases h with rfl | rfl
          · exact ⟨g2', g3'⟩
          · refine ⟨by rw [List.length_append, upto_len]; show n - 1 + 1 = n; omega, fun x hx => ?_⟩
            rcases List.mem_append.mp hx with h | h
            · have := mem_upto.mp h
              omega
            · rw [List.mem_singleton.mp h]
              omega
        · rw [(List.mem_replicate.mp h).2]
          exact ⟨upto_len n, fun x hx => mem_upto.mp hx⟩
      · intro x hx
        rcases List.mem_append.mp hx with h | h
        · exact g3 x h
        · have := late_mem n x (List.mem_reverse.mp h)
          omega
      · rw [List.length_append, List.length_reverse]
        omega
end
end Law


namespace L2
open PySem PySem.Spec PyProof.Rows TL
/-! ### texts: cut at a sign -/
theorem first_of {c : Nat} : ∀ {l : List Nat}, c ∈ l → ∃ a b, l = a ++ c :: b ∧ c ∉ a
  | [], h => absurd h List.not_mem_nil
  | x :: l, h => by
    by_cases e : x = c
    · exact ⟨[], l, by rw [e] <;> rfl, List.not_mem_nil⟩
    · rcases List.mem_cons.mp h with h | h
      · exact absurd h.symm e
      · obtain ⟨a, b, h1, h2⟩ := first_of h
        refine ⟨x :: a, b, by rw [h1] <;> rfl, fun m => ?_⟩
        rcases List.mem_cons.mp m with m | m
        · exact e m.symm
        · exact h2 m
theorem part_at {x : Str} {c : Nat} {a b : List Nat} (e : tl x = a ++ c :: b) (h : c ∉ a) : Txt.partition x ⟨#[c]⟩ = (⟨a.toArray⟩, ⟨#[c]⟩, ⟨b.toArray⟩) := by
  have hy : tl (⟨#[c]⟩ : Str) = [c] := rfl
  rw [partition_par x ⟨#[c]⟩ (by rw [hy]; simp), hy, e, show a ++ c :: b = a ++ ([c] ++ b) from rfl, par_part1 h, List.nil_append]
theorem part_no {x : Str} {c : Nat} (h : c ∉ tl x) : Txt.partition x ⟨#[c]⟩ = (x, Str.empty, Str.empty) := by
  have hy : tl (⟨#[c]⟩ : Str) = [c] := rfl
  rw [partition_par x ⟨#[c]⟩ (by rw [hy]; simp), hy, par_none1 h]
theorem find_at {x : Str} {c : Nat} {a b : List Nat} (e : tl x = a ++ c :: b) (h : c ∉ a) : Txt.find x ⟨#[c]⟩ = (a.length : Int) := by
  have p := part_at e h
  unfold Txt.partition at p
  unfold Txt.find
  cases ho : Builtin.Str.occurrences x ⟨#[c]⟩ 0 x.length 1 with
  | nil =>
    rw [ho] at p
    have q : Str.empty = (⟨#[c]⟩ : Str) := congrArg (fun z : Str × Str × Str => z.2.1) p
    have q := congrArg (fun z : Str => z.length) q
    exact absurd (show (0 : Nat) = 1 from q) (by decide)
  | cons i r =>
    rw [ho] at p
    obtain ⟨hb, _⟩ := PySem.StrLaws.occ_spec x ⟨#[c]⟩ 0 x.length 1 i (by rw [ho]; exact List.mem_cons_self ..)
    have q : Builtin.Str.strSub x 0 i = (⟨a.toArray⟩ : Str) := congrArg (fun z : Str × Str × Str => z.1) p
    have q := congrArg (fun z : Str => (tl z).length) q
    have l : (tl x).length = x.length := (len_tl x).symm
    change (tl (Builtin.Str.strSub x 0 i)).length = a.length at q
    rw [tl_strSub, List.length_take, List.length_drop, l] at q
    have hb' : i + 1 ≤ x.length := hb
    have : i = a.length := by omega
    show (i : Int) = (a.length : Int)
    omega
theorem tl_cutS_to {z : Str} {n : Nat} : tl (cutS z none (some (n : Int))) = (tl z).take n := by
  unfold cutS
  show ((z.cps.toList.drop 0).take (HT.sIx z.length z.length (some (n : Int)) - 0)) = _
  have l := len_tl z
  rw [HT.sIx_nat, List.drop_zero, Nat.sub_zero]
  rcases Nat.le_total n z.length with h | h
  · rw [Nat.min_eq_left h]
  · rw [Nat.min_eq_right h]
    show (tl z).take z.length = _
    rw [List.take_of_length_le (by omega), List.take_of_length_le (by omega)]
theorem tl_cutS_from {z : Str} {n : Nat} : tl (cutS z (some (n : Int)) none) = (tl z).drop n := by
  unfold cutS
  show ((z.cps.toList.drop (HT.sIx z.length 0 (some (n : Int)))).take (z.length - HT.sIx z.length 0 (some (n : Int)))) = _
  have l := len_tl z
  rw [HT.sIx_nat]
  show ((tl z).drop (min n z.length)).take (z.length - min n z.length) = _
  rw [List.take_of_length_le (by rw [List.length_drop]; omega)]
  rcases Nat.le_total n z.length with h | h
  · rw [Nat.min_eq_left h]
  · rw [Nat.min_eq_right h, List.drop_of_length_le (by omega), List.drop_of_length_le (by omega)]
theorem tl_cutS_last {z : Str} : tl (cutS z none (some (-1))) = (tl z).take ((tl z).length - 1) := by
  unfold cutS
  show ((z.cps.toList.drop 0).take (HT.sIx z.length z.length (some (-1)) - 0)) = _
  have l := len_tl z
  have e : HT.sIx z.length z.length (some (-1)) = z.length - 1 := by
    have := HT.sIx_le z.length z.length (Nat.le_refl _) (some (-1))
    unfold HT.sIx
    simp only
    split <;> omega
  rw [e, List.drop_zero, Nat.sub_zero, l]
/-! ### numbers as texts -/
/-- what number_of_text tells -/
def numO (w : Str) : Option Int :=
  if (!Txt.isascii w || !Txt.isdigit w || decide ((12 : Int) < ((w.length : Nat) : Int))) = true then none else if (Txt.startswith w "0" && !decide (w = "0")) = true then none else some (NumText.digitsVal (tl w) : Int)
theorem asc_iff (w : Str) : Txt.isascii w = true ↔ ∀ c ∈ tl w, c < 128 := by
  unfold Txt.isascii
  rw [← Array.all_toList, List.all_eq_true]
  exact ⟨fun h c hc => of_decide_eq_true (h c hc), fun h c hc => decide_eq_true (h c hc)⟩
theorem dig_of {c : Nat} (h : c < 128) : Unicode.isDigit c = decide (48 ≤ c ∧ c ≤ 57) := by
  have key : ∀ c, c < 128 → Unicode.isDigit c = decide (48 ≤ c ∧ c ≤ 57) := by decide +kernel
  exact key c h
theorem dig_iff {w : Str} (ha : ∀ c ∈ tl w, c < 128) : Txt.isdigit w = true ↔ tl w ≠ [] ∧ NumText.AllDigits (tl w) := by
  unfold Txt.isdigit
  rw [Bool.and_eq_true, ← Array.all_toList, List.all_eq_true]
  have l := len_tl w
  constructor
  · rintro ⟨h1, h2⟩
    refine ⟨fun z => ?_, fun c hc => ?_⟩
    · rw [z] at l
      have := of_decide_eq_true h1
      rw [l] at this
      exact absurd this (by decide)
    · have := h2 c hc
      rw [dig_of (ha c hc)] at this
      exact of_decide_eq_true this
  · rintro ⟨h1, h2⟩
    refine ⟨decide_eq_true ?_, fun c hc => ?_⟩
    · have := List.length_pos_iff.mpr h1
      omega
    · rw [dig_of (ha c hc)]
      exact decide_eq_true (h2 c hc)
theorem tl_zero : tl ("0" : Str) = [48] := by decide +kernel
theorem starts0 (w : Str) : Txt.startswith w "0" = ((tl w).take 1 == [48]) := by
  unfold Txt.startswith
  rw [PySem.StrLaws.subAt_eq]
  have h0 : ("0" : Str).length = 1 := by decide +kernel
  have h1 : ("0" : Str).cps.toList = [48] := tl_zero
  have l := len_tl w
  rw [h0, h1, List.drop_zero]
  show (decide (0 + 1 ≤ w.length) && ((tl w).take 1 == [48])) = _
  cases hw : tl w with
  | nil =>
    rw [hw] at l
    have : ¬ (0 + 1 ≤ w.length) := by rw [l]; decide
    rw [decide_eq_false this] <;> rfl
  | cons c r =>
    rw [hw] at l
    have : 0 + 1 ≤ w.length := by rw [l, List.length_cons]; omega
    rw [decide_eq_true this, Bool.true_and]
theorem eq_zero (w : Str) : decide (w = ("0" : Str)) = decide (tl w = [48]) := by
  by_cases h : w = "0"
  · rw [decide_eq_true h, h, tl_zero] <;> rfl
  · rw [decide_eq_false h, decide_eq_false fun z => h (ext_tl (z.trans tl_zero.symm))]
theorem val_snoc (u : List Nat) (c : Nat) : NumText.digitsVal (u ++ [c]) = NumText.digitsVal u * 10 + (c - 48) := by
  unfold NumText.digitsVal
  rw [List.foldl_append] <;> rfl
/-- digits without a needless nought are their number's -/
theorem num_back : ∀ (k : Nat) (u : List Nat), u.length = k → u ≠ [] → NumText.AllDigits u → (u.head? = some 48 → u = [48]) → numL (NumText.digitsVal u) = u ∧ (u ≠ [48] → 0 < NumText.digitsVal u)
  | 0, u, hl, hn, _, _ => absurd (List.length_eq_zero_iff.mp hl) hn
  | k + 1, u, hl, hn, hd, h0 => by
    obtain ⟨v, c, rfl⟩ : ∃ v c, u = v ++ [c] := ⟨u.dropLast, u.getLast hn, (List.dropLast_concat_getLast hn).symm⟩
    have hc := hd c (List.mem_append.mpr (.inr (List.mem_singleton.mpr rfl)))
    rw [val_snoc]
    by_cases hv : v = []
    · subst hv
      have e : NumText.digitsVal [] = 0 := rfl
      rw [e, Nat.zero_mul, Nat.zero_add, numL_lt (by omega)]
      refine ⟨by show [48 + (c - 48)] = [c]; rw [show 48 + (c - 48) = c by omega], fun z => ?_⟩
      have : c ≠ 48 := fun q => z (by rw [q] <;> rfl)
      omega
    · have hv0 : v.head? = some 48 → v = [48] := fun q => by
        have z := h0 (by rw [List.head?_append, q] <;> rfl)
        have z := congrArg List.length z
        rw [List.length_append] at z
        have := List.length_pos_iff.mpr hv
        have z' : v.length + 1 = 1 := z
        omega
      rw [List.length_append] at hl
      obtain ⟨i1, i2⟩ := num_back k v (by simpa using hl) hv (fun d hd' => hd d (List.mem_append.mpr (.inl hd'))) hv0
      have v48 : v ≠ [48] := fun q => by
        have z := h0 (by rw [q] <;> rfl)
        rw [q] at z
        have z := congrArg List.length z
        exact absurd z (by simp)
      have p := i2 v48
      refine ⟨?_, fun _ => by omega⟩
      have e1 : (NumText.digitsVal v * 10 + (c - 48)) / 10 = NumText.digitsVal v := by omega
      have e2 : (NumText.digitsVal v * 10 + (c - 48)) % 10 = c - 48 := by omega
      rw [numL_step (by omega), e1, e2, i1, show 48 + (c - 48) = c by omega]
theorem numL_head {k : Nat} (h : (numL k).head? = some 48) : numL k = [48] := by
  have key : ∀ n k : Nat, k ≤ n → (numL k).head? = some 48 → k = 0 := by
    intro n
    induction n with
    | zero => exact fun k hk _ => by omega
    | succ n ih =>
      intro k hk h
      by_cases k10 : k < 10
      · rw [numL_lt k10] at h
        have := Option.some.inj h
        omega
      · rw [numL_step (by omega), List.head?_append] at h
        cases hq : (numL (k / 10)).head? with
        | none => exact absurd (List.head?_eq_none_iff.mp hq) (numL_ne _)
        | some z =>
          rw [hq] at h
          have := ih (k / 10) (by omega) (hq.trans h)
          omega
  have := key k k (Nat.le_refl _) h
  subst this
  exact numL_lt (by decide)
theorem numO_num {w : Str} {k : Nat} (h : tl w = numL k) (hk : k < 10 ^ 12) : numO w = some (k : Int) := by
  have hd := numL_digits k
  have ha : ∀ c ∈ tl w, c < 128 := fun c hc => by
    rw [h] at hc
    have := hd c hc
    omega
  have l := len_tl w
  have l12 : w.length ≤ 12 := by
    rw [l, h]
    exact numL_len (by decide) hk
  unfold numO
  have c1 : (!Txt.isascii w || !Txt.isdigit w || decide ((12 : Int) < ((w.length : Nat) : Int))) = false := by
    rw [(asc_iff w).mpr ha, (dig_iff ha).mpr ⟨by rw [h]; exact numL_ne k, by rw [h]; exact hd⟩, decide_eq_false (by omega)] <;> rfl
  have c2 : (Txt.startswith w "0" && !decide (w = "0")) = false := by
    rw [starts0, eq_zero, h]
    by_cases q : (numL k).take 1 = [48]
    · have hh : (numL k).head? = some 48 := by
        cases hn : numL k with
        | nil => exact absurd hn (numL_ne k)
        | cons c r =>
          rw [hn] at q
          have : c = 48 := by simpa using q
          rw [this] <;> rfl
      rw [decide_eq_true (numL_head hh), Bool.not_true, Bool.and_false]
    · rw [show ((numL k).take 1 == [48]) = false from beq_eq_false_iff_ne.mpr q, Bool.false_and]
  rw [c1, c2, h, numL_val] <;> rfl
theorem numO_back {w : Str} {i : Int} (h : numO w = some i) : ∃ k : Nat, i = (k : Int) ∧ tl w = numL k ∧ w.length ≤ 12 ∧ NumText.AllDigits (tl w) := by
  unfold numO at h
  by_cases c1 : (!Txt.isascii w || !Txt.isdigit w || decide ((12 : Int) < ((w.length : Nat) : Int))) = true
  · rw [if_pos c1] at h
    cases h
  · rw [if_neg c1] at h
    by_cases c2 : (Txt.startswith w "0" && !decide (w = "0")) = true
    · rw [if_pos c2] at h
      cases h
    · rw [if_neg c2] at h
      rw [Bool.not_eq_true, Bool.or_eq_false_iff, Bool.or_eq_false_iff, Bool.not_eq_false', Bool.not_eq_false'] at c1
      obtain ⟨⟨a1, a2⟩, a3⟩ := c1
      have ha := (asc_iff w).mp a1
      obtain ⟨d1, d2⟩ := (dig_iff ha).mp a2
      have l12 := of_decide_eq_false a3
      have h0 : (tl w).head? = some 48 → tl w = [48] := fun q => by
        rw [Bool.not_eq_true, starts0, eq_zero] at c2
        have t1 : ((tl w).take 1 == [48]) = true := by
          cases hw : tl w with
          | nil => rw [hw] at q; cases q
          | cons c r =>
            rw [hw] at q
            have := Option.some.inj q
            rw [this] <;> rfl
        rw [t1, Bool.true_and, Bool.not_eq_false'] at c2
        exact of_decide_eq_true c2
      obtain ⟨e1, _⟩ := num_back _ (tl w) rfl d1 d2 h0
      exact ⟨NumText.digitsVal (tl w), (Option.some.inj h).symm, e1.symm, by omega, d2⟩
def numV (w : Str) : V := match numO w with
  | some i => .int i
  | none => .non
/-- a word is a number below n -/
def goodW (n : Nat) (w : List Nat) : Bool := ((List.range n).map numL).contains w
theorem goodW_iff {n : Nat} {w : List Nat} : goodW n w = true ↔ ∃ k, k < n ∧ w = numL k := by
  unfold goodW
  rw [List.contains_iff_mem, List.mem_map]
  exact ⟨fun ⟨k, h1, h2⟩ => ⟨k, List.mem_range.mp h1, h2.symm⟩, fun ⟨k, h1, h2⟩ => ⟨k, List.mem_range.mpr h1, h2.symm⟩⟩
/-- what is_within tells of what number_of_text tells -/
theorem numO_good {n : Nat} (hn : n ≤ 10 ^ 12) (w : Str) : goodW n (tl w) = true ↔ ∃ k : Nat, numO w = some (k : Int) ∧ k < n ∧ tl w = numL k := by
  rw [goodW_iff]
  constructor
  · rintro ⟨k, h1, h2⟩
    exact ⟨k, numO_num h2 (by omega), h1, h2⟩
  · rintro ⟨k, _, h2, h3⟩
    exact ⟨k, h2, h3⟩
/-! ### a text of coins: its words, the first wrong one -/
def wdsOf (l : List Nat) : List (List Nat) := if l = [] then [] else spl [32] 0 [] l
def firstBad (n : Nat) : List (List Nat) → Option Nat
  | [] => none
  | w :: ws => if goodW n w = true then (firstBad n ws).map (· + 1) else some 0
theorem firstBad_none {n : Nat} : ∀ {ws : List (List Nat)}, firstBad n ws = none ↔ ∀ w ∈ ws, goodW n w = true
  | [] => ⟨fun _ w hw => absurd hw List.not_mem_nil, fun _ => rfl⟩
  | w :: ws => by
    unfold firstBad
    by_cases h : goodW n w = true
    · rw [if_pos h, Option.map_eq_none_iff, firstBad_none]
      exact ⟨fun q v hv => by
        rcases List.mem_cons.mp hv with e | e
        · rw [e]; exact h
        · exact q v e, fun q v hv => q v (List.mem_cons_of_mem _ hv)⟩
    · rw [if_neg h]
      exact ⟨fun q => (by cases q), fun q => absurd (q w List.mem_cons_self) h⟩
theorem firstBad_some {n : Nat} : ∀ {ws : List (List Nat)} {i : Nat}, (∀ j, j < i → ∃ w, ws[j]? = some w ∧ goodW n w = true) → (∃ w, ws[i]? = some w ∧ goodW n w = false) → firstBad n ws = some i
  | [], i, _, ⟨w, h, _⟩ => by simp at h
  | w :: ws, 0, _, ⟨v, h, g⟩ => by
    have e := Option.some.inj h
    subst e
    unfold firstBad
    rw [if_neg (by rw [g]; exact Bool.false_ne_true)]
  | w :: ws, i + 1, h, ⟨v, h1, g⟩ => by
    obtain ⟨u, hu, gu⟩ := h 0 (Nat.succ_pos _)
    have e := Option.some.inj hu
    subst e
    have ih := firstBad_some (ws := ws) (i := i) (fun j hj => h (j + 1) (by omega)) ⟨v, h1, g⟩
    unfold firstBad
    rw [if_pos gu, ih] <;> rfl
/-- (line, whether it is closed, what stands behind) -/
def cutL (l : List Nat) : List Nat × Bool × List Nat := match par [10] [] l with
  | some (a, b) => (a, true, b)
  | none => (l, false, [])
theorem cutL_at {l a b : List Nat} (e : l = a ++ 10 :: b) (h : 10 ∉ a) : cutL l = (a, true, b) := by
  unfold cutL
  rw [e, show a ++ 10 :: b = a ++ ([10] ++ b) from rfl, par_part1 h] <;> rfl
theorem cutL_no {l : List Nat} (h : 10 ∉ l) : cutL l = (l, false, []) := by
  unfold cutL
  rw [par_none1 h]
/-- the first wrong word of a text of coins, if one is wrong -/
def badF (n : Nat) (l : List Nat) : Option Nat := match firstBad n (wdsOf (cutL l).1) with
  | some i => some i
  | none => if (cutL l).2.1 = true ∧ (cutL l).2.2 = [] then none else some (wdsOf (cutL l).1).length
end L2
namespace L2
open PySem PySem.Spec PyProof.Rows
/-- a method of a plain class, called on its instances -/
structure Ml (P : Program) (w : World) (K : PySem.W.Frag) (mg : Str → Option Value) (base : Heap) (k : Nat) (C : Addr) (x : Str) (f : Addr) (fd : FuncData) (ps : List Str) (sp : Sp) : Prop where
  ok : FnOk P w K mg base CX0 k f fd ps sp
  b : Binds K fd ps []
  m : Meth K C x f
  cl : Cls K C
section
variable {X : Cx} {k : Nat} {C f : Addr} {fd : FuncData} {ps : List Str} {sp : Sp} {m : Str} {o e : Expr} {es : List Expr} {ta : TE} {t : TA} {pos apos : Pos} {pl : Sem Bool}
theorem Ml.call (c : Ml X.prog X.w X.K X.mg X.base k C m f fd ps sp) (hr : Room k X.A) (he : PE X o ta) (ha : PA X (e :: es) t)
    (hst : starEach (e :: es) X.env = (false, eval e X.env) :: starEach es X.env := by rfl) (hpl : (backTo pos (starEach es X.env)).any (·.1) = false := by rfl)
    (ht : eval (.Call (.Attribute o m apos) (e :: es) [] pos) X.env = (do
      let ov ← eval o X.env
      standAt apos.atName
      let (f, first) ← holding [ov] (getMethod ov m pl)
      callWith pos f first (backTo pos (starEach (e :: es) X.env)) (backToKw pos (keywordEach [] X.env))) := by rfl) :
    PE X (.Call (.Attribute o m apos) (e :: es) [] pos) (tMeth C m sp [] E0 ta t) := pe_meth he c.cl c.m c.ok hr c.b .nil pass0 ha hst hpl ht
theorem Ml.call0 (c : Ml X.prog X.w X.K X.mg X.base k C m f fd ps sp) (hr : Room k X.A) (he : PE X o ta)
    (ht : eval (.Call (.Attribute o m apos) [] [] pos) X.env = (do
      let ov ← eval o X.env
      standAt apos.atName
      let (f, first) ← holding [ov] (getMethod ov m pl)
      callWith pos f first (backTo pos (starEach [] X.env)) (backToKw pos (keywordEach [] X.env))) := by rfl) :
    PE X (.Call (.Attribute o m apos) [] [] pos) (tMeth C m sp [] E0 ta tNil) := pe_meth0 he c.cl c.m c.ok hr c.b .nil pass0 ht
end
theorem lk_hit {k : Str} {v : V} {es : List (Str × V)} : ((k, v) :: es).lookup k = some v := by simp [List.lookup]
theorem lk_ne {k a : Str} {v : V} {es : List (Str × V)} (h : ¬ k = a) : ((a, v) :: es).lookup k = es.lookup k := by
  have e : (k == a) = false := beq_eq_false_iff_ne.mpr h
  simp [List.lookup, e]
theorem putF_hit {k : Str} {v w : V} {es : List (Str × V)} : putF k w ((k, v) :: es) = (k, w) :: es := by
  show (if k = k then (k, w) :: es else (k, v) :: putF k w es) = _
  rw [if_pos rfl]
theorem putF_ne {k a : Str} {v w : V} {es : List (Str × V)} (h : ¬ a = k) : putF k w ((a, v) :: es) = (a, v) :: putF k w es := by
  show (if a = k then (a, w) :: es else (a, v) :: putF k w es) = _
  rw [if_neg h]
end L2
namespace Law
open PySem L2
/-! ### Drawers -/
theorem nSC : ¬ (("_system" : Str) = "_coins") := by decide +kernel
theorem nSL : ¬ (("_system" : Str) = "_leads") := by decide +kernel
theorem nSD : ¬ (("_system" : Str) = "_depth") := by decide +kernel
theorem nCL : ¬ (("_coins" : Str) = "_leads") := by decide +kernel
theorem nCD : ¬ (("_coins" : Str) = "_depth") := by decide +kernel
theorem nLD : ¬ (("_leads" : Str) = "_depth") := by decide +kernel
def drL (sy ca la : Addr) (d : V) : List (Str × V) := [("_system", .ref sy), ("_coins", .ref ca), ("_leads", .ref la), ("_depth", d)]
section
variable (sy ca la x : Addr) (d v : V)
theorem dr_s : (drL sy ca la d).lookup ("_system" : Str) = some (.ref sy) := lk_hit
theorem dr_c : (drL sy ca la d).lookup ("_coins" : Str) = some (.ref ca) := (lk_ne (Ne.symm nSC)).trans lk_hit
theorem dr_l : (drL sy ca la d).lookup ("_leads" : Str) = some (.ref la) := (lk_ne (Ne.symm nSL)).trans ((lk_ne (Ne.symm nCL)).trans lk_hit)
theorem dr_d : (drL sy ca la d).lookup ("_depth" : Str) = some d := (lk_ne (Ne.symm nSD)).trans ((lk_ne (Ne.symm nCD)).trans ((lk_ne (Ne.symm nLD)).trans lk_hit))
theorem dr_no {m : Str} (h1 : ¬ m = "_system") (h2 : ¬ m = "_coins") (h3 : ¬ m = "_leads") (h4 : ¬ m = "_depth") : (drL sy ca la d).lookup m = none := (lk_ne h1).trans ((lk_ne h2).trans ((lk_ne h3).trans ((lk_ne h4).trans rfl)))
theorem dp_c : putF "_coins" (.ref x) (drL sy ca la d) = drL sy x la d := (putF_ne nSC).trans (congrArg _ putF_hit)
theorem dp_l : putF "_leads" (.ref x) (drL sy ca la d) = drL sy ca x d := (putF_ne nSL).trans (congrArg _ ((putF_ne nCL).trans (congrArg _ putF_hit)))
theorem dp_d : putF "_depth" v (drL sy ca la d) = drL sy ca la v := (putF_ne nSD).trans (congrArg _ ((putF_ne nCD).trans (congrArg _ ((putF_ne nLD).trans (congrArg _ putF_hit)))))
end
theorem dr_read {sy ca la : Addr} {d : V} : (drL sy ca la d).lookup ("read" : Str) = none := dr_no _ _ _ _ (by decide +kernel) (by decide +kernel) (by decide +kernel) (by decide +kernel)
theorem dr_state {sy ca la : Addr} {d : V} : (drL sy ca la d).lookup ("state" : Str) = none := dr_no _ _ _ _ (by decide +kernel) (by decide +kernel) (by decide +kernel) (by decide +kernel)
theorem dr_depth {sy ca la : Addr} {d : V} : (drL sy ca la d).lookup ("depth" : Str) = none := dr_no _ _ _ _ (by decide +kernel) (by decide +kernel) (by decide +kernel) (by decide +kernel)
theorem dr_lot {sy ca la : Addr} {d : V} : (drL sy ca la d).lookup ("lot" : Str) = none := dr_no _ _ _ _ (by decide +kernel) (by decide +kernel) (by decide +kernel) (by decide +kernel)
theorem dr_coins {sy ca la : Addr} {d : V} : (drL sy ca la d).lookup ("coins" : Str) = none := dr_no _ _ _ _ (by decide +kernel) (by decide +kernel) (by decide +kernel) (by decide +kernel)
theorem dr_copy {sy ca la : Addr} {d : V} : (drL sy ca la d).lookup ("copy" : Str) = none := dr_no _ _ _ _ (by decide +kernel) (by decide +kernel) (by decide +kernel) (by decide +kernel)
/-- the class Drawer, as the top has made it -/
structure DrT (K : PySem.W.Frag) (mg : Str → Option Value) (C : Addr) : Prop where
  cl : Cls K C
  nS : NoAttr K C "_system"
  nC : NoAttr K C "_coins"
  nL : NoAttr K C "_leads"
  nD : NoAttr K C "_depth"
  mgC : mg "Drawer" = some (.ref C)
  ha : PySem.W.findIn K (.ref C) "__class__" = some (some (.builtin "object.__class__"))
  hn : PySem.W.specialIn K (.builtin "object.__class__") "__get__" = some (some (.builtin "getset_descriptor.__get__"))
  ht : PySem.W.takesIn K (.builtin "object.__class__") = some true
  hm : PySem.W.mroIn K C (.type "object") = some true
/-- how many coins are enough -/
def dpF (Ls : List (List Int)) (many : Nat) (cs : List Int) : Option Nat := (List.range (cs.length + 1)).find? (oneF Ls many (upto many) cs)
def dpV : Option Nat → V
  | some k => .int (k : Int)
  | none => .non
def stV (o : Option Nat) (e : List Int) : V := match o with
  | some _ => .int (e.getD 0 0)
  | none => .non
theorem dp_none {Ls : List (List Int)} {many : Nat} {cs : List Int} : dpF Ls many cs = none ↔ ∀ k, k ≤ cs.length → oneF Ls many (upto many) cs k = false := by
  unfold dpF
  rw [List.find?_eq_none]
  constructor
  · intro h k hk
    have := h k (List.mem_range.mpr (by omega))
    simpa using this
  · intro h k hk
    rw [h k (by have := List.mem_range.mp hk; omega)]
    simp
theorem dp_some {Ls : List (List Int)} {many : Nat} {cs : List Int} {k : Nat} (h : dpF Ls many cs = some k) : k ≤ cs.length ∧ oneF Ls many (upto many) cs k = true ∧ ∀ j, j < k → oneF Ls many (upto many) cs j = false := by
  unfold dpF at h
  have h1 := List.find?_some h
  have h2 := List.mem_of_find?_eq_some h
  refine ⟨by have := List.mem_range.mp h2; omega, h1, fun j hj => ?_⟩
  rw [List.find?_range_eq_some] at h
  simpa using h.2.2 j hj
theorem dp_of {Ls : List (List Int)} {many : Nat} {cs : List Int} {k : Nat} (h1 : k ≤ cs.length) (h2 : oneF Ls many (upto many) cs k = true) (h3 : ∀ j, j < k → oneF Ls many (upto many) cs j = false) : dpF Ls many cs = some k := by
  unfold dpF
  rw [List.find?_range_eq_some]
  exact ⟨h2, List.mem_range.mpr (by omega), fun j hj => by rw [h3 j hj] <;> rfl⟩
theorem dp_pick {Ls : List (List Int)} {many : Nat} {cs : List Int} {k : Nat} (h : Pick true cs.length (oneF Ls many (upto many) cs) k) : (oneF Ls many (upto many) cs k = true ∧ dpF Ls many cs = some k) ∨ (oneF Ls many (upto many) cs k = false ∧ dpF Ls many cs = none) := by
  rcases h.end_ with e | ⟨e1, e2⟩
  · exact .inl ⟨e, dp_of h.at_.1 e fun j hj => h.ahead j ⟨by have := h.at_.1; omega, .inl rfl⟩ hj⟩
  · refine .inr ⟨e2, dp_none.mpr fun j hj => ?_⟩
    by_cases z : j < k
    · exact h.ahead j ⟨hj, .inl rfl⟩ z
    · have := e1 cs.length ⟨Nat.le_refl _, .inl rfl⟩
      obtain rfl : j = k := by omega
      exact e2
theorem one_app {Ls : List (List Int)} {many : Nat} {cs ds : List Int} {k : Nat} (h : k ≤ cs.length) : oneF Ls many (upto many) (cs ++ ds) k = oneF Ls many (upto many) cs k := by
  unfold oneF selF
  rw [List.take_append_of_le_length h]
/-- a Drawer of the system at sy that has read cs -/
def DrAt (K : PySem.W.Frag) (C D : Addr) (H : Hp) (q sy : Addr) (many : Nat) (ms : List Mv) (cs : List Int) : Prop := ∃ dx ca la, H q = some (.ins D dx (drL sy ca la (dpV (dpF (ldsOf ms) many cs)))) ∧ SysAt K C H sy many ms ∧ SqT K H ca (cs.map V.int) ∧ SqT K H la ((endsF (ldsOf ms) many cs).map V.int)
theorem DrAt.same {K : PySem.W.Frag} {C D : Addr} {H H' : Hp} {q sy : Addr} {many : Nat} {ms : List Mv} {cs : List Int} (h : DrAt K C D H q sy many ms cs) (s : Same H H') : DrAt K C D H' q sy many ms cs := by
  obtain ⟨dx, ca, la, h1, h2, h3, h4⟩ := h
  exact ⟨dx, ca, la, s _ _ h1, h2.same s, s.sqT h3, s.sqT h4⟩
theorem lot_upto {many : Nat} (h : many ≤ 12) : lotF (upto many) = upto many := (lot_eq ((upto_in many).in12 h) (upto_asc many) fun k => Iff.rfl).symm
theorem one_nil {Ls : List (List Int)} {many : Nat} (h : many ≤ 12) : oneF Ls many (upto many) [] 0 = decide (many = 1) := by
  have e : selF Ls many (upto many) [] 0 = upto many := ahead_upto (upto_len many)
  unfold oneF
  rw [e, lot_upto h, upto_len]
theorem dp_nil {Ls : List (List Int)} {many : Nat} (h : many ≤ 12) : dpF Ls many [] = if many = 1 then some 0 else none := by
  by_cases e : many = 1
  · rw [if_pos e]
    exact dp_of (Nat.le_refl _) (by rw [one_nil h, decide_eq_true e]) fun j hj => absurd hj (Nat.not_lt_zero _)
  · rw [if_neg e]
    exact dp_none.mpr fun j hj => by
      have : j = 0 := by simpa using hj
      rw [this, one_nil h, decide_eq_false e]
theorem dp_snoc {Ls : List (List Int)} {many : Nat} {cs : List Int} {c : Int} : dpF Ls many (cs ++ [c]) = match dpF Ls many cs with
    | some k => some k
    | none => if oneF Ls many (upto many) (cs ++ [c]) (cs.length + 1) = true then some (cs.length + 1) else none := by
  have al : (cs ++ [c]).length = cs.length + 1 := by rw [List.length_append] <;> rfl
  cases h : dpF Ls many cs with
  | some k =>
    obtain ⟨h1, h2, h3⟩ := dp_some h
    exact dp_of (by omega) (by rw [one_app h1]; exact h2) fun j hj => by rw [one_app (by omega)]; exact h3 j hj
  | none =>
    have h0 := dp_none.mp h
    by_cases e : oneF Ls many (upto many) (cs ++ [c]) (cs.length + 1) = true
    · show dpF Ls many (cs ++ [c]) = if _ then _ else _
      rw [if_pos e]
      exact dp_of (by omega) e fun j hj => by rw [one_app (by omega)]; exact h0 j (by omega)
    · show dpF Ls many (cs ++ [c]) = if _ then _ else _
      rw [if_neg e]
      refine dp_none.mpr fun j hj => ?_
      by_cases z : j ≤ cs.length
      · rw [one_app z]
        exact h0 j z
      · rw [show j = cs.length + 1 by omega]
        exact Bool.eq_false_iff.mpr e
end Law
namespace L2
open PySem PySem.Spec PyProof.Rows TL
@[elab_as_elim] theorem new_step {H : Hp} {a : Addr} {o : HO} {Q : Hp → Prop} (h : H a = none) (k : ∀ G, Same H G → G a = some o → Q G) : Q (upd H a o) := k _ (Same.new h) upd_same
theorem catT {K : PySem.W.Frag} {H : Hp} {a b : Addr} {xs ys : List V} {Q : VK} (ha : SqT K H a xs) (hb : SqT K H b ys) (hl : xs.length + ys.length ≤ 1000) (kk : ∀ p H', Same H H' → SqT K H' p (xs ++ ys) → Q (.ref p) H') : rCatA K (.ref a) (.ref b) H Q := by
  refine ⟨a, b, _, _, rfl, rfl, ha, hb, Nat.le_of_lt (small1000 (by omega)), fun e => ?_, fun _ e => ?_, fun _ _ c hc => ?_⟩
  · refine kk b H (Same.refl H) ?_
    rw [e, List.nil_append]
    exact hb
  · refine kk a H (Same.refl H) ?_
    rw [e, List.append_nil]
    exact ha
  · exact kk c _ (Same.new hc) (SqT.of upd_same)
theorem logn {n : Int} (h : n.natAbs < 2 ^ 1000) : n.natAbs.log2 < 1920 := by
  by_cases z : n.natAbs = 0
  · rw [z]
    decide
  · have := (Nat.log2_lt z (k := 1000)).mpr h
    omega
/-- the signs of a text of coins -/
def txtF (cs : List Int) : List Nat := joinL [32] (cs.map fun c => numL c.toNat) ++ [10]
theorem natsum_le {c : Nat} : ∀ (l : List Nat), (∀ x ∈ l, x ≤ c) → l.sum ≤ l.length * c
  | [], _ => Nat.zero_le _
  | x :: l, h => by
    have := natsum_le l fun y hy => h y (List.mem_cons_of_mem _ hy)
    have := h x List.mem_cons_self
    rw [List.sum_cons, List.length_cons, Nat.add_mul, Nat.one_mul]
    omega
theorem len_joinL : ∀ (ps : List (List Nat)) (c : Nat), (∀ p ∈ ps, p.length ≤ c) → (joinL [32] ps).length ≤ ps.length * (c + 1)
  | [], _, _ => Nat.zero_le _
  | [p], c, h => by
    have := h p List.mem_cons_self
    show p.length ≤ 1 * (c + 1)
    omega
  | p :: q :: r, c, h => by
    have i := len_joinL (q :: r) c fun x hx => h x (List.mem_cons_of_mem _ hx)
    have := h p List.mem_cons_self
    show (p ++ ([32] ++ joinL [32] (q :: r))).length ≤ _
    rw [List.length_append, List.length_append, List.length_cons (a := p), Nat.add_mul (q :: r).length 1, Nat.one_mul]
    show p.length + (1 + _) ≤ _
    omega
end L2
namespace Law
open PySem L2 TL
theorem tl_str {c : Int} (h : 0 ≤ c) : tl (Str.ofString (toString c)) = numL c.toNat := by
  obtain ⟨k, rfl⟩ := Int.eq_ofNat_of_zero_le h
  exact tl_num k
theorem one_sp : tl (" " : Str) = [32] := by decide +kernel
theorem one_nl : tl ("\n" : Str) = [10] := by decide +kernel
theorem nl_is : ("\n" : Str) = (⟨#[10]⟩ : Str) := ext_tl one_nl
theorem sp_is : (" " : Str) = (⟨#[32]⟩ : Str) := ext_tl one_sp
theorem len_num {n : Nat} {cs : List Int} (hn : n ≤ 1000) (ok : CsOk n cs) : ∀ c ∈ cs, (numL c.toNat).length ≤ 3 := fun c hc => numL_len (by decide) (by
  have := ok c hc
  show c.toNat < 1000
  omega)
theorem dec_str (x y : Str) : decide (V.str x = V.str y) = decide (x = y) := by
  by_cases h : x = y
  · rw [h, decide_eq_true rfl, decide_eq_true rfl]
  · rw [decide_eq_false h]
    exact decide_eq_false fun e => h (V.str.inj e)
theorem sqT_q {K : PySem.W.Frag} {H H' : Hp} {q D dx a : Addr} {fs : List (Str × V)} {xs : List V} (k : ∀ b o, b ≠ q → H b = some o → H' b = some o) (hq : H q = some (.ins D dx fs)) (h : SqT K H a xs) : SqT K H' a xs := by
  rcases h with (h | ⟨o, h⟩) | h
  · exact .inl (.inl (k _ _ (ne_of h hq (by intro z; cases z)) h))
  · exact .inl (.inr ⟨o, k _ _ (ne_of h hq (by intro z; cases z)) h⟩)
  · exact .inr h
theorem mvs_q {K : PySem.W.Frag} {H H' : Hp} {q D dx a : Addr} {fs : List (Str × V)} {ms : List Mv} (k : ∀ b o, b ≠ q → H b = some o → H' b = some o) (hq : H q = some (.ins D dx fs)) (h : MvsAt K H a ms) : MvsAt K H' a ms := by
  obtain ⟨vs, h1, h2⟩ := h
  exact ⟨vs, sqT_q k hq h1, h2.1, fun i v hv => by
    obtain ⟨m, g1, a, t, l, g2, g3, g4, g5⟩ := h2.2 i v hv
    exact ⟨m, g1, a, t, l, g2, sqT_q k hq g3, sqT_q k hq g4, sqT_q k hq g5⟩⟩
theorem sys_ne {H : Hp} {q D dx sy C d2 mv : Addr} {many : Nat} {fs : List (Str × V)} (hq : H q = some (.ins D dx fs)) (hl : fs.length ≠ 2) (hs : H sy = some (.ins C d2 (sysF many mv))) : sy ≠ q := fun e => by
  rw [e, hq] at hs
  have z := Option.some.inj hs
  injection z with _ _ z
  exact hl (by rw [z, sysF_eq] <;> rfl)
theorem sys_q {K : PySem.W.Frag} {H H' : Hp} {C q D dx sy : Addr} {many : Nat} {fs : List (Str × V)} {ms : List Mv} (k : ∀ b o, b ≠ q → H b = some o → H' b = some o) (hq : H q = some (.ins D dx fs)) (hl : fs.length ≠ 2) (h : SysAt K C H sy many ms) : SysAt K C H' sy many ms := by
  obtain ⟨d2, mv, h1, h2⟩ := h
  exact ⟨d2, mv, k _ _ (sys_ne hq hl h1) h1, mvs_q k hq h2⟩
theorem lt1 {a : Str} {x : V} : (putF a x []).length < 1000 := by show 1 < 1000; decide
theorem lt2 {a b : Str} {x y : V} : (putF a x (putF b y [])).length < 1000 := by
  have h := length_putF a x (putF b y [])
  have h2 := length_putF b y []
  have h3 : ([] : List (Str × V)).length = 0 := rfl
  omega
theorem lt3 {a b c : Str} {x y z : V} : (putF a x (putF b y (putF c z []))).length < 1000 := by
  have h := length_putF a x (putF b y (putF c z []))
  have h2 := length_putF b y (putF c z [])
  have h4 := length_putF c z []
  have h3 : ([] : List (Str × V)).length = 0 := rfl
  omega
theorem at_zero {e : List Int} (h : 0 < e.length) : atI (e.map V.int) 0 = some (.int (e.getD 0 0)) := ints_at (xs := e) (s := 0) (by decide) (by omega)
section
variable {P : Program} {w : World} {K : PySem.W.Frag} {mg : Str → Option Value} {base : Heap}
def spNum : Sp := fun vs H Q _ => ∃ (x : Str), vs = [.str x] ∧ x.length ≤ 16000000 ∧ Q (numV x) H
abbrev nNumberOfText : List Str := ["text"]
theorem scNumberOfText : FnScope nNumberOfText ["text"] (defScope s_number_of_text) := ⟨rfl, rfl, rfl, by decide +kernel, rfl, by decide +kernel, by decide +kernel⟩
theorem ok_number_of_text {f : Addr} {fd : FuncData} (F : Fun K "number_of_text" "number_of_text" s_number_of_text f fd) (T : NmA mg) : FnOk P w K mg base CX0 1 f fd ["text"] spNum := by
  refine F.ok scNumberOfText (fun vs H Q E h => ?_) (fun cdv A' outer s H vs Q E hr h => ?_)
  · obtain ⟨x, rfl, _⟩ := h
    rfl
  · obtain ⟨x, rfl, hl, k⟩ := h
    refine ⟨_, pss_cons (ps_if (PW.pt (pw_or (pt_not (pt_val (pe_m0 PySem.F.slot_str_isascii PySem.F.type_str_isascii mt_isascii (pv 0)))) (pw_or (pt_not (pt_val (pe_m0 PySem.F.slot_str_isdigit PySem.F.type_str_isdigit mt_isdigit (pv 0)))) (pw_or1 (pt_cmpR op_gt (pe_callB call_len_str (by rfl) T.len PySem.boot_len (pa_cons (pv 0) pa_nil)) pe_int (nomark _))))))
        (pss_one (ps_ret pe_non)) pss_nil)
      (pss_cons (ps_if (PW.pt (pw_and (pt_val (pe_m1 PySem.F.slot_str_startswith PySem.F.type_str_startswith mt_startswith (pv 0) pe_str)) (pw_and1 (pt_cmpR op_ne (pv 0) pe_str (nomark _)))))
        (pss_one (ps_ret pe_non)) pss_nil)
      (pss_one (ps_ret (pe_callTy call_int_str (by rfl) T.int (by decide +kernel) (pa_cons (pv 0) pa_nil))))), ?_⟩
    have z : x.length ≤ sizeLine := by rw [sizeLine_eq]; omega
    unfold numV numO at k
    refine ⟨_, rfl, ⟨_, rfl⟩, x, rfl, rfl, trivial, ?_⟩
    refine ⟨_, rfl, ?_⟩
    cases ha : Txt.isascii x with
    | false =>
      rw [ha] at k
      exact iteT k
    | true =>
      refine iteF ⟨_, rfl, ⟨_, rfl⟩, x, rfl, rfl, trivial, _, rfl, ?_⟩
      cases hd : Txt.isdigit x with
      | false =>
        rw [ha, hd] at k
        exact iteT k
      | true =>
        rw [ha, hd] at k
        change Q (match (if decide ((12 : Int) < ((x.length : Nat) : Int)) = true then none else _) with | some i => .int i | none => .non) H at k
        refine iteF ⟨_, rfl, x, rfl, z, _, _, rfl, rfl, _, rfl, ite2 (fun h12 => ?_) (fun h12 => ?_)⟩
        · rw [if_pos h12] at k
          exact k
        · rw [if_neg h12] at k
          refine ⟨_, rfl, ⟨_, rfl⟩, x, _, rfl, rfl, _, rfl, ?_⟩
          have fin : (Txt.startswith x "0" && !decide (x = "0")) = false → ∃ a n, [V.str x] = [.str a] ∧ PySem.intText? a = some n ∧ a.length ≤ 640 ∧ Q (.int n) H := fun e => by
            rw [e] at k
            have as := (asc_iff x).mp ha
            obtain ⟨d1, d2⟩ := (dig_iff as).mp hd
            have l12 : ¬ (12 : Int) < ((x.length : Nat) : Int) := fun q => h12 (decide_eq_true q)
            exact ⟨x, _, rfl, intText_digits d2 d1 (by omega), by omega, k⟩
          cases hs : Txt.startswith x "0" with
          | false => exact iteF ⟨_, rfl, fin (by rw [hs] <;> rfl)⟩
          | true =>
            refine iteT ⟨_, rfl, rfl, _, rfl, ?_⟩
            rw [dec_str]
            cases hz : decide (x = ("0" : Str)) with
            | true => exact iteF ⟨_, rfl, fin (by rw [hs, hz] <;> rfl)⟩
            | false =>
              rw [hs, hz] at k
              exact iteT k
def spDInit (K : PySem.W.Frag) (C D : Addr) : Sp := fun vs H Q _ => ∃ (q dx sy : Addr) (many : Nat) (ms : List Mv), vs = [.ref q, .ref sy] ∧ H q = some (.ins D dx []) ∧ SysAt K C H sy many ms ∧ LdOk many (ldsOf ms) ∧
  ∀ H', (∀ b o, b ≠ q → H b = some o → H' b = some o) → DrAt K C D H' q sy many ms [] → Q .non H'
abbrev nDrawerInit : List Str := ["self", "system"]
theorem scDrawerInit : FnScope nDrawerInit ["self", "system"] (defScope s_Drawer_init) := ⟨rfl, rfl, rfl, by decide +kernel, rfl, by decide +kernel, by decide +kernel⟩
theorem ok_dinit {f : Addr} {fd : FuncData} {C D : Addr} (F : Fun K "__init__" "Drawer.__init__" s_Drawer_init f fd) (T : NmA mg) (S : SysT K mg C) (Y : DrT K mg D) : FnOk P w K mg base CX0 1 f fd ["self", "system"] (spDInit K C D) := by
  refine F.ok scDrawerInit (fun vs H Q E h => ?_) (fun cdv A' outer s H vs Q E hr h => ?_)
  · obtain ⟨q, dx, sy, many, ms, rfl, _⟩ := h
    rfl
  · obtain ⟨q, dx, sy, many, ms, rfl, hq, hS, ok, k⟩ := h
    refine ⟨_, pss_cons (ps_fld (pv 0) (pv 1) rfl)
      (pss_cons (ps_fld (pv 0) (pe_tup pa_nil) rfl)
      (pss_cons (ps_fld (pv 0) (pe_tupRg (by rfl) (by rfl) T.tuple (prg_1 (by rfl) T.range (pe_fld (pv 1) rfl))) rfl)
      (pss_one (ps_fld (pv 0) (pe_ifExp (pt_cmpR op_eq (pe_fld (pv 1) rfl) pe_int (nomark _)) pe_int pe_non) rfl)))), ?_⟩
    obtain ⟨d2, mv, hsy, hmv⟩ := id hS
    have nsy : sy ≠ q := sys_ne hq (by decide) hsy
    have m1 := ok.m1
    have m2 := ok.m2
    refine ⟨_, rfl, _, rfl, q, D, dx, _, rfl, hq, Y.cl, Y.nS, by decide, ?_⟩
    have k1 : ∀ b o, b ≠ q → H b = some o → (upd H q (.ins D dx (putF "_system" (.ref sy) []))) b = some o := fun b o n e => by rw [upd_ne n]; exact e
    have g1 : (upd H q (.ins D dx (putF "_system" (.ref sy) []))) q = _ := upd_same
    generalize upd H q (.ins D dx (putF "_system" (.ref sy) [])) = H1 at k1 g1 ⊢
    refine ⟨by show 0 ≤ sizeLine; decide, fun ca hca => ?_⟩
    refine new_step hca fun H2 s2 e2 => ?_
    have g2 := s2 _ _ g1
    refine ⟨_, rfl, q, D, dx, _, rfl, g2, Y.cl, Y.nC, lt1, ?_⟩
    have nca : ca ≠ q := (ne_of_none g1 hca).symm
    have k3 : ∀ b o, b ≠ q → H b = some o → (upd H2 q (.ins D dx (putF "_coins" (.ref ca) (putF "_system" (.ref sy) [])))) b = some o := fun b o n e => by rw [upd_ne n]; exact s2 _ _ (k1 b o n e)
    have e3 : (upd H2 q (.ins D dx (putF "_coins" (.ref ca) (putF "_system" (.ref sy) [])))) ca = some (.tup []) := by rw [upd_ne nca]; exact e2
    have g3 : (upd H2 q (.ins D dx (putF "_coins" (.ref ca) (putF "_system" (.ref sy) [])))) q = _ := upd_same
    generalize upd H2 q (.ins D dx (putF "_coins" (.ref ca) (putF "_system" (.ref sy) []))) = H3 at k3 g3 e3 ⊢
    refine ⟨_, rfl, sy, C, d2, _, _, rfl, k3 _ _ nsy hsy, S.cl, S.nK, sysF_many _ _, (many : Int), rfl, RgOk.of_le (by decide) (by omega) (by decide) (by omega), fun la hla => ?_⟩
    rw [rg_upto]
    refine new_step hla fun H4 s4 e4 => ?_
    have g4 := s4 _ _ g3
    refine ⟨_, rfl, q, D, dx, _, rfl, g4, Y.cl, Y.nL, lt2, ?_⟩
    have nla : la ≠ q := (ne_of_none g3 hla).symm
    have k5 : ∀ b o, b ≠ q → H b = some o → (upd H4 q (.ins D dx (putF "_leads" (.ref la) (putF "_coins" (.ref ca) (putF "_system" (.ref sy) []))))) b = some o := fun b o n e => by rw [upd_ne n]; exact s4 _ _ (k3 b o n e)
    have e5 : (upd H4 q (.ins D dx (putF "_leads" (.ref la) (putF "_coins" (.ref ca) (putF "_system" (.ref sy) []))))) ca = some (.tup []) := by rw [upd_ne nca]; exact s4 _ _ e3
    have l5 : (upd H4 q (.ins D dx (putF "_leads" (.ref la) (putF "_coins" (.ref ca) (putF "_system" (.ref sy) []))))) la = some (.tup ((upto many).map V.int)) := by rw [upd_ne nla]; exact e4
    have g5 : (upd H4 q (.ins D dx (putF "_leads" (.ref la) (putF "_coins" (.ref ca) (putF "_system" (.ref sy) []))))) q = _ := upd_same
    generalize upd H4 q (.ins D dx (putF "_leads" (.ref la) (putF "_coins" (.ref ca) (putF "_system" (.ref sy) [])))) = H5 at k5 g5 e5 l5 ⊢
    have ff : putF "_depth" (dpV (dpF (ldsOf ms) many [])) (putF "_leads" (.ref la) (putF "_coins" (.ref ca) (putF "_system" (.ref sy) []))) = drL sy ca la (dpV (dpF (ldsOf ms) many [])) := by
      show putF _ _ (putF _ _ (putF _ _ [("_system", V.ref sy)])) = _
      rw [putF_ne nSC]
      show putF _ _ (putF _ _ [("_system", V.ref sy), ("_coins", V.ref ca)]) = _
      rw [putF_ne nSL, putF_ne nCL]
      show putF _ _ [("_system", V.ref sy), ("_coins", V.ref ca), ("_leads", V.ref la)] = _
      rw [putF_ne nSD, putF_ne nCD, putF_ne nLD] <;> rfl
    have fin : ∀ d, d = dpV (dpF (ldsOf ms) many []) → Q .non (upd H5 q (.ins D dx (putF "_depth" d (putF "_leads" (.ref la) (putF "_coins" (.ref ca) (putF "_system" (.ref sy) [])))))) := fun d hd => by
      subst hd
      rw [ff]
      refine k _ (fun b o n e => by rw [upd_ne n]; exact k5 b o n e) ⟨dx, ca, la, upd_same, ?_, SqT.of (by rw [upd_ne nca]; exact e5), SqT.of (by rw [upd_ne nla]; exact l5)⟩
      exact sys_q (fun b o n e => by rw [upd_ne n]; exact k5 b o n e) hq (by decide) hS
    rw [dp_nil m2] at fin
    refine ⟨_, rfl, sy, C, d2, _, _, rfl, k5 _ _ nsy hsy, S.cl, S.nK, sysF_many _ _, rfl, _, rfl, ?_⟩
    rw [dec_len1]
    by_cases e : many = 1
    · rw [decide_eq_true e]
      refine iteT ⟨_, rfl, q, D, dx, _, rfl, g5, Y.cl, Y.nD, lt3, fin _ ?_⟩
      rw [if_pos e] <;> rfl
    · rw [decide_eq_false e]
      refine iteF ⟨_, rfl, q, D, dx, _, rfl, g5, Y.cl, Y.nD, lt3, fin _ ?_⟩
      rw [if_neg e] <;> rfl
def spState (D : Addr) (K : PySem.W.Frag) : Sp := fun vs H Q _ => ∃ (q dx sy ca la : Addr) (o : Option Nat) (e : List Int), vs = [.ref q] ∧ H q = some (.ins D dx (drL sy ca la (dpV o))) ∧ SqT K H la (e.map V.int) ∧ 0 < e.length ∧ Q (stV o e) H
abbrev nDrawerState : List Str := ["self"]
theorem scDrawerState : FnScope nDrawerState ["self"] (defScope s_Drawer_state) := ⟨rfl, rfl, rfl, by decide +kernel, rfl, by decide +kernel, by decide +kernel⟩
theorem ok_dstate {f : Addr} {fd : FuncData} {D : Addr} (F : Fun K "state" "Drawer.state" s_Drawer_state f fd) (T : NmA mg) (Y : DrT K mg D) : FnOk P w K mg base CX0 1 f fd ["self"] (spState D K) := by
  refine F.ok scDrawerState (fun vs H Q E h => ?_) (fun cdv A' outer s H vs Q E hr h => ?_)
  · obtain ⟨q, dx, sy, ca, la, o, e, rfl, _⟩ := h
    rfl
  · obtain ⟨q, dx, sy, ca, la, o, e, rfl, hq, hL, e0, k⟩ := h
    refine ⟨_, pss_one (ps_ret (pe_ifExp (pt_cmpR op_isN (pe_fld (pv 0) rfl) pe_non (nomark _)) pe_non (pe_ix ix_tup (pe_fld (pv 0) rfl) pe_int (fun _ _ => rfl)))), ?_⟩
    refine ⟨_, rfl, q, D, dx, _, _, rfl, hq, Y.cl, Y.nD, dr_d _ _ _ _, rfl, _, rfl, ?_⟩
    cases o with
    | none => exact iteT k
    | some j => exact iteF ⟨_, rfl, q, D, dx, _, _, rfl, hq, Y.cl, Y.nL, dr_l _ _ _ _, la, _, 0, _, rfl, rfl, hL, at_zero e0, k⟩
def spDepth (D : Addr) : Sp := fun vs H Q _ => ∃ (q dx sy ca la : Addr) (d : V), vs = [.ref q] ∧ H q = some (.ins D dx (drL sy ca la d)) ∧ Q d H
abbrev nDrawerDepth : List Str := ["self"]
theorem scDrawerDepth : FnScope nDrawerDepth ["self"] (defScope s_Drawer_depth) := ⟨rfl, rfl, rfl, by decide +kernel, rfl, by decide +kernel, by decide +kernel⟩
theorem ok_ddepth {f : Addr} {fd : FuncData} {D : Addr} (F : Fun K "depth" "Drawer.depth" s_Drawer_depth f fd) (T : NmA mg) (Y : DrT K mg D) : FnOk P w K mg base CX0 1 f fd ["self"] (spDepth D) := by
  refine F.ok scDrawerDepth (fun vs H Q E h => ?_) (fun cdv A' outer s H vs Q E hr h => ?_)
  · obtain ⟨q, dx, sy, ca, la, d, rfl, _⟩ := h
    rfl
  · obtain ⟨q, dx, sy, ca, la, d, rfl, hq, k⟩ := h
    refine ⟨_, pss_one (ps_ret (pe_fld (pv 0) rfl)), ?_⟩
    exact ⟨_, rfl, q, D, dx, _, _, rfl, hq, Y.cl, Y.nD, dr_d _ _ _ _, k⟩
def spCoinsM (D : Addr) : Sp := fun vs H Q _ => ∃ (q dx sy ca la : Addr) (d : V), vs = [.ref q] ∧ H q = some (.ins D dx (drL sy ca la d)) ∧ Q (.ref ca) H
abbrev nDrawerCoins : List Str := ["self"]
theorem scDrawerCoins : FnScope nDrawerCoins ["self"] (defScope s_Drawer_coins) := ⟨rfl, rfl, rfl, by decide +kernel, rfl, by decide +kernel, by decide +kernel⟩
theorem ok_dcoins {f : Addr} {fd : FuncData} {D : Addr} (F : Fun K "coins" "Drawer.coins" s_Drawer_coins f fd) (T : NmA mg) (Y : DrT K mg D) : FnOk P w K mg base CX0 1 f fd ["self"] (spCoinsM D) := by
  refine F.ok scDrawerCoins (fun vs H Q E h => ?_) (fun cdv A' outer s H vs Q E hr h => ?_)
  · obtain ⟨q, dx, sy, ca, la, d, rfl, _⟩ := h
    rfl
  · obtain ⟨q, dx, sy, ca, la, d, rfl, hq, k⟩ := h
    refine ⟨_, pss_one (ps_ret (pe_fld (pv 0) rfl)), ?_⟩
    exact ⟨_, rfl, q, D, dx, _, _, rfl, hq, Y.cl, Y.nC, dr_c _ _ _ _, k⟩
def spLotM (D : Addr) (K : PySem.W.Frag) : Sp := fun vs H Q _ => ∃ (q dx sy ca la : Addr) (d : V) (e : List Int), vs = [.ref q] ∧ H q = some (.ins D dx (drL sy ca la d)) ∧ SqT K H la (e.map V.int) ∧ e.length ≤ 63 ∧ In12 e ∧ ∀ l H', Same H H' → H' l = some (.tup ((lotF e).map V.int)) → Q (.ref l) H'
abbrev nDrawerLot : List Str := ["self"]
theorem scDrawerLot : FnScope nDrawerLot ["self"] (defScope s_Drawer_lot) := ⟨rfl, rfl, rfl, by decide +kernel, rfl, by decide +kernel, by decide +kernel⟩
theorem ok_dlot {f : Addr} {fd : FuncData} {fcLotOf : Addr} {fdcLotOf : FuncData} {D : Addr} (F : Fun K "lot" "Drawer.lot" s_Drawer_lot f fd) (T : NmA mg) (cLotOf : Cl P w K mg base CX0 1 "lot_of" fcLotOf fdcLotOf ["things"] (spLotOf K)) (Y : DrT K mg D) : FnOk P w K mg base CX0 2 f fd ["self"] (spLotM D K) := by
  refine F.ok scDrawerLot (fun vs H Q E h => ?_) (fun cdv A' outer s H vs Q E hr h => ?_)
  · obtain ⟨q, dx, sy, ca, la, d, e, rfl, _⟩ := h
    rfl
  · obtain ⟨q, dx, sy, ca, la, d, e, rfl, hq, hL, e63, e12, k⟩ := h
    refine ⟨_, pss_one (ps_ret (cLotOf.call (hr.mono (by decide)) (pa_cons (pe_fld (pv 0) rfl) pa_nil))), ?_⟩
    exact ⟨_, rfl, q, D, dx, _, _, rfl, hq, Y.cl, Y.nL, dr_l _ _ _ _, la, e, rfl, .inr hL, e63, e12, k⟩
def spRead (K : PySem.W.Frag) (C D : Addr) : Sp := fun vs H Q _ => ∃ (q sy : Addr) (many : Nat) (ms : List Mv) (cs : List Int) (c : Int), vs = [.ref q, .int c] ∧ DrAt K C D H q sy many ms cs ∧ LdOk many (ldsOf ms) ∧ CsOk ms.length cs ∧ 0 ≤ c ∧ c < ((ms.length : Nat) : Int) ∧ cs.length < 400 ∧
  ∀ H', (∀ b o, b ≠ q → H b = some o → H' b = some o) → DrAt K C D H' q sy many ms (cs ++ [c]) → Q (stV (dpF (ldsOf ms) many (cs ++ [c])) (endsF (ldsOf ms) many (cs ++ [c]))) H'
abbrev nDrawerRead : List Str := ["self", "move"]
theorem scDrawerRead : FnScope nDrawerRead ["self", "move"] (defScope s_Drawer_read) := ⟨rfl, rfl, rfl, by decide +kernel, rfl, by decide +kernel, by decide +kernel⟩
theorem ok_dread {f : Addr} {fd : FuncData} {fcWithin : Addr} {fdcWithin : FuncData} {fcAhead : Addr} {fdcAhead : FuncData} {fmLot : Addr} {fdmLot : FuncData} {fmState : Addr} {fdmState : FuncData} {C D : Addr} (F : Fun K "read" "Drawer.read" s_Drawer_read f fd) (T : NmA mg) (cWithin : Cl P w K mg base CX0 2 "is_within" fcWithin fdcWithin ["low", "high", "thing"] (spWithin K)) (cAhead : Cl P w K mg base CX0 1 "led_ahead" fcAhead fdcAhead ["system", "move", "leads"] (spAhead K C)) (mLot : Ml P w K mg base 2 D "lot" fmLot fdmLot ["self"] (spLotM D K)) (mState : Ml P w K mg base 1 D "state" fmState fdmState ["self"] (spState D K)) (S : SysT K mg C) (Y : DrT K mg D) : FnOk P w K mg base CX0 3 f fd ["self", "move"] (spRead K C D) := by
  refine F.ok scDrawerRead (fun vs H Q E h => ?_) (fun cdv A' outer s H vs Q E hr h => ?_)
  · obtain ⟨q, sy, many, ms, cs, c, rfl, _⟩ := h
    rfl
  · obtain ⟨q, sy, many, ms, cs, c, rfl, hD, ok, cok, c0, c1, l4, k⟩ := h
    refine ⟨_, pss_cons (ps_if (pt_not (pt_truth (cWithin.call (hr.mono (by decide)) (pa_cons pe_int (pa_cons (pe_op op_sub (pe_callB call_len_seq (by rfl) T.len PySem.boot_len (pa_cons (pe_fld (pe_fld (pv 0) rfl) rfl) pa_nil)) pe_int) (pa_cons (pv 1) pa_nil)))) (by intro _; rfl)))
        pss_never pss_nil)
      (pss_cons (ps_if (pt_cmpR op_eq (pe_callB call_len_seq (by rfl) T.len PySem.boot_len (pa_cons (pe_fld (pv 0) rfl) pa_nil)) pe_int (nomark _))
        pss_never pss_nil)
      (pss_cons (ps_fld (pv 0) (pe_op op_catA (pe_fld (pv 0) rfl) (pe_tup (pa_cons (pv 1) pa_nil))) rfl)
      (pss_cons (ps_fld (pv 0) (cAhead.call (hr.mono (by decide)) (pa_cons (pe_fld (pv 0) rfl) (pa_cons (pv 1) (pa_cons (pe_fld (pv 0) rfl) pa_nil)))) rfl)
      (pss_cons (ps_if (PW.pt (pw_and (pt_cmpR op_isN (pe_fld (pv 0) rfl) pe_non (nomark _)) (pw_and1 (pt_cmpR op_eq (pe_callB call_len_seq (by rfl) T.len PySem.boot_len (pa_cons (mLot.call0 (hr.mono (by decide)) (pv 0)) pa_nil)) pe_int (nomark _)))))
        (pss_one (ps_fld (pv 0) (pe_callB call_len_seq (by rfl) T.len PySem.boot_len (pa_cons (pe_fld (pv 0) rfl) pa_nil)) rfl)) pss_nil)
      (pss_one (ps_ret (mState.call0 (hr.mono (by decide)) (pv 0)))))))), ?_⟩
    obtain ⟨dx, ca, la, hq, hS, hC, hL⟩ := id hD
    obtain ⟨d2, mv, hsy, vs, hV, hM⟩ := id hS
    have nsy : sy ≠ q := sys_ne hq (show 4 ≠ 2 by decide) hsy
    have vl := hM.1
    have lms : (ldsOf ms).length = ms.length := by rw [List.length_map]
    have cok' : CsOk (ldsOf ms).length cs := by rw [lms]; exact cok
    have cokc : CsOk (ldsOf ms).length (cs ++ [c]) := fun x hx => by
      rcases List.mem_append.mp hx with hx | hx
      · exact cok' x hx
      · rw [List.mem_singleton.mp hx, lms]
        exact ⟨c0, c1⟩
    obtain ⟨el, ein⟩ := ends_ok ok cok'
    obtain ⟨el2, ein2⟩ := ends_ok ok cokc
    have m1 := ok.m1
    have m2 := ok.m2
    refine ⟨_, rfl, q, D, dx, _, _, rfl, hq, Y.cl, Y.nS, dr_s _ _ _ _, sy, C, d2, _, _, rfl, hsy, S.cl, S.nM, sysF_moves _ _, mv, _, rfl, .inr hV, _, _, rfl, rfl, _, rfl, 0, _, _, rfl, .inl ⟨c, rfl, _, rfl, ?_⟩⟩
    rw [decide_eq_true c0, decide_eq_true (show c ≤ ((vs.length : Nat) : Int) - 1 by omega)]
    refine iteF ⟨_, rfl, q, D, dx, _, _, rfl, hq, Y.cl, Y.nC, dr_c _ _ _ _, ca, _, rfl, .inr hC, rfl, _, rfl, ?_⟩
    rw [decide_eq_false (show ¬ V.int (((cs.map V.int).length : Nat) : Int) = V.int 400 from fun z => by
      injection z with z
      rw [List.length_map] at z
      omega)]
    refine iteF ⟨_, rfl, q, D, dx, _, _, rfl, hq, Y.cl, Y.nC, dr_c _ _ _ _, _, rfl, by show 1 ≤ sizeLine; decide, fun z hz => ?_⟩
    refine new_step hz fun H0 s0 e0 => ?_
    refine catT (s0.sqT hC) (SqT.of e0) (by rw [List.length_map]; show cs.length + 1 ≤ 1000; omega) fun ca2 H1 s1 h1 => ?_
    have s01 := s0.trans s1
    refine ⟨_, rfl, q, D, dx, _, rfl, s01 _ _ hq, Y.cl, Y.nC, by show 4 < 1000; decide, ?_⟩
    rw [dp_c]
    have h1' : SqT K H1 ca2 ((cs ++ [c]).map V.int) := by rw [List.map_append]; exact h1
    have k2 : ∀ b o, b ≠ q → H b = some o → (upd H1 q (.ins D dx (drL sy ca2 la (dpV (dpF (ldsOf ms) many cs))))) b = some o := fun b o n e => by rw [upd_ne n]; exact s01 _ _ e
    have g2 : (upd H1 q (.ins D dx (drL sy ca2 la (dpV (dpF (ldsOf ms) many cs))))) q = _ := upd_same
    have c2 : SqT K (upd H1 q (.ins D dx (drL sy ca2 la (dpV (dpF (ldsOf ms) many cs))))) ca2 ((cs ++ [c]).map V.int) := sqT_q (fun b o n e => by rw [upd_ne n]; exact e) (s01 _ _ hq) h1'
    generalize upd H1 q (.ins D dx (drL sy ca2 la (dpV (dpF (ldsOf ms) many cs)))) = H2 at k2 g2 c2 ⊢
    refine ⟨_, rfl, q, D, dx, _, _, rfl, g2, Y.cl, Y.nS, dr_s _ _ _ _, _, rfl, _, rfl, q, D, dx, _, _, rfl, g2, Y.cl, Y.nL, dr_l _ _ _ _, ?_⟩
    refine ⟨sy, la, c, many, ms, _, rfl, sys_q k2 hq (show 4 ≠ 2 by decide) hS, ok, c0, c1, sqT_q k2 hq hL, el, fun la2 H3 s3 h3 => ?_⟩
    have g3 := s3 _ _ g2
    rw [← ends_snoc] at h3
    refine ⟨_, rfl, q, D, dx, _, rfl, g3, Y.cl, Y.nL, by show 4 < 1000; decide, ?_⟩
    rw [dp_l]
    have k4 : ∀ b o, b ≠ q → H b = some o → (upd H3 q (.ins D dx (drL sy ca2 la2 (dpV (dpF (ldsOf ms) many cs))))) b = some o := fun b o n e => by rw [upd_ne n]; exact s3 _ _ (k2 b o n e)
    have g4 : (upd H3 q (.ins D dx (drL sy ca2 la2 (dpV (dpF (ldsOf ms) many cs))))) q = _ := upd_same
    have c4 : SqT K (upd H3 q (.ins D dx (drL sy ca2 la2 (dpV (dpF (ldsOf ms) many cs))))) ca2 ((cs ++ [c]).map V.int) := sqT_q (fun b o n e => by rw [upd_ne n]; exact e) g3 (s3.sqT c2)
    have l4 : SqT K (upd H3 q (.ins D dx (drL sy ca2 la2 (dpV (dpF (ldsOf ms) many cs))))) la2 ((endsF (ldsOf ms) many (cs ++ [c])).map V.int) := sqT_q (fun b o n e => by rw [upd_ne n]; exact e) g3 (SqT.of h3)
    generalize upd H3 q (.ins D dx (drL sy ca2 la2 (dpV (dpF (ldsOf ms) many cs)))) = H4 at k4 g4 c4 l4 ⊢
    have sel : selF (ldsOf ms) many (upto many) (cs ++ [c]) (cs.length + 1) = endsF (ldsOf ms) many (cs ++ [c]) := by
      rw [sel_all ok cokc, List.take_of_length_le (by rw [List.length_append]; exact Nat.le_refl _)]
    have one : oneF (ldsOf ms) many (upto many) (cs ++ [c]) (cs.length + 1) = decide ((lotF (endsF (ldsOf ms) many (cs ++ [c]))).length = 1) := by
      unfold oneF
      rw [sel]
    have snoc := dp_snoc (Ls := ldsOf ms) (many := many) (cs := cs) (c := c)
    rw [one] at snoc
    -- what is told
    have fin : ∀ H5, (∀ b o, b ≠ q → H b = some o → H5 b = some o) → H5 q = some (.ins D dx (drL sy ca2 la2 (dpV (dpF (ldsOf ms) many (cs ++ [c]))))) → SqT K H5 ca2 ((cs ++ [c]).map V.int) → SqT K H5 la2 ((endsF (ldsOf ms) many (cs ++ [c])).map V.int) →
        ∃ a dx fs, V.ref q = .ref a ∧ H5 a = some (.ins D dx fs) ∧ fs.lookup ("state" : Str) = none ∧ spState D K [.ref q] H5 Q E0 := fun H5 k5 g5 c5 l5 => by
      refine ⟨q, dx, _, rfl, g5, dr_state, q, dx, sy, ca2, la2, _, _, rfl, g5, l5, by omega, k _ k5 ⟨dx, ca2, la2, g5, sys_q k5 hq (show 4 ≠ 2 by decide) hS, c5, l5⟩⟩
    refine ⟨_, rfl, q, D, dx, _, _, rfl, g4, Y.cl, Y.nD, dr_d _ _ _ _, rfl, _, rfl, ?_⟩
    cases hd : dpF (ldsOf ms) many cs with
    | some j =>
      rw [hd] at snoc g4
      exact iteF ⟨_, rfl, fin H4 k4 (by rw [snoc]; exact g4) c4 l4⟩
    | none =>
      rw [hd] at snoc g4
      change dpF (ldsOf ms) many (cs ++ [c]) = (if _ then _ else _) at snoc
      refine iteT ⟨_, rfl, q, dx, _, rfl, g4, dr_lot, q, dx, sy, ca2, la2, _, _, rfl, g4, l4, by omega, ein2.in12 m2, fun l H5 s5 h5 => ?_⟩
      refine ⟨l, _, rfl, .inr (SqT.of h5), rfl, _, rfl, ?_⟩
      rw [List.length_map, dec_len1]
      by_cases e : (lotF (endsF (ldsOf ms) many (cs ++ [c]))).length = 1
      · rw [decide_eq_true e] at snoc ⊢
        rw [if_pos rfl] at snoc
        have g5 := s5 _ _ g4
        refine iteT ⟨_, rfl, q, D, dx, _, _, rfl, g5, Y.cl, Y.nC, dr_c _ _ _ _, ca2, _, rfl, .inr (s5.sqT c4), _, rfl, q, D, dx, _, rfl, g5, Y.cl, Y.nD, by show 4 < 1000; decide, ?_⟩
        rw [dp_d, List.length_map, List.length_append]
        have kk : ∀ b o, b ≠ q → H5 b = some o → (upd H5 q (.ins D dx (drL sy ca2 la2 (.int ((cs.length + [c].length : Nat) : Int))))) b = some o := fun b o n e => by rw [upd_ne n]; exact e
        refine ⟨_, rfl, fin _ (fun b o n e => kk b o n (s5 _ _ (k4 b o n e))) ?_ (sqT_q kk g5 (s5.sqT c4)) (sqT_q kk g5 (s5.sqT l4))⟩
        rw [upd_same, snoc] <;> rfl
      · rw [decide_eq_false e] at snoc ⊢
        rw [if_neg Bool.false_ne_true] at snoc
        exact iteF ⟨_, rfl, fin H5 (fun b o n e => s5 _ _ (k4 b o n e)) (by rw [snoc]; exact s5 _ _ g4) (s5.sqT c4) (s5.sqT l4)⟩
def spCopy (K : PySem.W.Frag) (C D : Addr) : Sp := fun vs H Q _ => ∃ (q sy : Addr) (many : Nat) (ms : List Mv) (cs : List Int), vs = [.ref q] ∧ DrAt K C D H q sy many ms cs ∧ LdOk many (ldsOf ms) ∧ ∀ q2 H', Same H H' → H q2 = none → DrAt K C D H' q2 sy many ms cs → Q (.ref q2) H'
abbrev nDrawerCopy : List Str := ["self", "other"]
theorem scDrawerCopy : FnScope nDrawerCopy ["self"] (defScope s_Drawer_copy) := ⟨rfl, rfl, rfl, by decide +kernel, rfl, by decide +kernel, by decide +kernel⟩
theorem ok_dcopy {f : Addr} {fd : FuncData} {fgD : Addr} {fdgD : FuncData} {C : Addr} (F : Fun K "copy" "Drawer.copy" s_Drawer_copy f fd) (T : NmA mg) (MgD : Mk K D fgD) (GgD : FnOk P w K mg base CX0 1 fgD fdgD ["self", "system"] (spDInit K C D)) (BgD : Binds K fdgD ["self", "system"] []) (YgD : DrT K mg D) : FnOk P w K mg base CX0 3 f fd ["self"] (spCopy K C D) := by
  refine F.ok scDrawerCopy (fun vs H Q E h => ?_) (fun cdv A' outer s H vs Q E hr h => ?_)
  · obtain ⟨q, sy, many, ms, cs, rfl, _⟩ := h
    rfl
  · obtain ⟨q, sy, many, ms, cs, rfl, hD, ok, k⟩ := h
    refine ⟨_, pss_cons (ps_set (i := 1) scDrawerCopy.nd rfl (Or.inl rfl) (pe_make MgD GgD (hr.mono (by decide)) (by rfl) YgD.mgC BgD .nil pass0 (pa_cons (pe_fld (pv 0) rfl) pa_nil)))
      (pss_cons (ps_fld (pv 1) (pe_fld (pv 0) rfl) rfl)
      (pss_cons (ps_fld (pv 1) (pe_fld (pv 0) rfl) rfl)
      (pss_cons (ps_fld (pv 1) (pe_fld (pv 0) rfl) rfl)
      (pss_one (ps_ret (pv 1)))))), ?_⟩
    obtain ⟨dx, ca, la, hq, hS, hC, hL⟩ := id hD
    refine ⟨_, rfl, q, D, dx, _, _, rfl, hq, YgD.cl, YgD.nS, dr_s _ _ _ _, ?_⟩
    intro x dx2 nx ndx nex
    refine ⟨x, dx2, sy, many, ms, rfl, upd_same, hS.same (mk_same0 nx ndx), ok, fun H1 k1 D1 => ⟨rfl, ?_⟩⟩
    have s1 : Same H H1 := mk_same nx ndx k1
    have qx : q ≠ x := ne_of_none hq nx
    obtain ⟨dx3, ca3, la3, hx, hS1, _, _⟩ := D1
    refine ⟨_, rfl, q, D, dx, _, _, rfl, s1 _ _ hq, YgD.cl, YgD.nC, dr_c _ _ _ _, _, rfl, x, D, dx3, _, rfl, hx, YgD.cl, YgD.nC, by show 4 < 1000; decide, ?_⟩
    rw [dp_c]
    have s2 : Same H (upd H1 x (.ins D dx3 (drL sy ca la3 (dpV (dpF (ldsOf ms) many []))))) := s1.mut nx
    have g2 : (upd H1 x (.ins D dx3 (drL sy ca la3 (dpV (dpF (ldsOf ms) many []))))) x = _ := upd_same
    generalize upd H1 x (.ins D dx3 (drL sy ca la3 (dpV (dpF (ldsOf ms) many [])))) = H2 at s2 g2 ⊢
    refine ⟨_, rfl, q, D, dx, _, _, rfl, s2 _ _ hq, YgD.cl, YgD.nL, dr_l _ _ _ _, _, rfl, x, D, dx3, _, rfl, g2, YgD.cl, YgD.nL, by show 4 < 1000; decide, ?_⟩
    rw [dp_l]
    have s3 : Same H (upd H2 x (.ins D dx3 (drL sy ca la (dpV (dpF (ldsOf ms) many []))))) := s2.mut nx
    have g3 : (upd H2 x (.ins D dx3 (drL sy ca la (dpV (dpF (ldsOf ms) many []))))) x = _ := upd_same
    generalize upd H2 x (.ins D dx3 (drL sy ca la (dpV (dpF (ldsOf ms) many [])))) = H3 at s3 g3 ⊢
    refine ⟨_, rfl, q, D, dx, _, _, rfl, s3 _ _ hq, YgD.cl, YgD.nD, dr_d _ _ _ _, _, rfl, x, D, dx3, _, rfl, g3, YgD.cl, YgD.nD, by show 4 < 1000; decide, ?_⟩
    rw [dp_d]
    have s4 : Same H (upd H3 x (.ins D dx3 (drL sy ca la (dpV (dpF (ldsOf ms) many cs))))) := s3.mut nx
    exact ⟨_, rfl, k x _ s4 nx ⟨dx3, ca, la, upd_same, hS.same s4, s4.sqT hC, s4.sqT hL⟩⟩
def spText (K : PySem.W.Frag) (C D : Addr) : Sp := fun vs H Q _ => ∃ (q sy : Addr) (many : Nat) (ms : List Mv) (cs : List Int), vs = [.ref q] ∧ DrAt K C D H q sy many ms cs ∧ CsOk ms.length cs ∧ ms.length ≤ 24 ∧ cs.length ≤ 400 ∧ ∀ t H', Same H H' → tl t = txtF cs → Q (.str t) H'
abbrev nDrawerText : List Str := ["drawer", "move"]
theorem scDrawerText : FnScope nDrawerText ["drawer"] (defScope s_drawer_text) := ⟨rfl, rfl, rfl, by decide +kernel, rfl, by decide +kernel, by decide +kernel⟩
theorem ok_drawer_text {f : Addr} {fd : FuncData} {fmCoins : Addr} {fdmCoins : FuncData} {C D : Addr} (F : Fun K "drawer_text" "drawer_text" s_drawer_text f fd) (T : NmA mg) (mCoins : Ml P w K mg base 1 D "coins" fmCoins fdmCoins ["self"] (spCoinsM D)) (Y : DrT K mg D) : FnOk P w K mg base CX0 2 f fd ["drawer"] (spText K C D) := by
  refine F.ok scDrawerText (fun vs H Q E h => ?_) (fun cdv A' outer s H vs Q E hr h => ?_)
  · obtain ⟨q, sy, many, ms, cs, rfl, _⟩ := h
    rfl
  · obtain ⟨q, sy, many, ms, cs, rfl, hD, cok, l24, l4, k⟩ := h
    refine ⟨_, pss_one (ps_ret (pe_op op_add_str (pe_m1 PySem.F.slot_str_join PySem.F.type_str_join mt_join pe_str (pe_lc (own := [("move", 1)]) (g := (gName 1)) (tt := tYes) rfl scDrawerText.nd  (pi_tup (mCoins.call0 (hr.mono (by decide)) (pv 0))) (blkOk_by (own := [("move", 1)]) (N := nDrawerText) (sc := defScope s_drawer_text) (by decide +kernel)) (fun _ _ _ _ _ => (pg_name (i := 1) scDrawerText.nd rfl (Or.inl rfl))) (fun _ _ _ _ _ => pts_nil) (fun _ _ _ _ _ => (pe_callTy call_str_int (by rfl) T.str (by decide +kernel) (pa_cons (pv 1) pa_nil))))) pe_str)), ?_⟩
    obtain ⟨dx, ca, la, hq, hS, hC, hL⟩ := id hD
    have l3 := len_num (n := ms.length) (by omega) cok
    have tstr : ∀ c ∈ cs, tl (Str.ofString (toString c)) = numL c.toNat := fun c hc => tl_str (cok c hc).1
    refine ⟨⟨_, rfl⟩, _, rfl, q, dx, _, rfl, hq, dr_coins, q, dx, sy, ca, la, _, rfl, hq, ca, rfl, ⟨_, hC⟩, fun L hL => ?_⟩
    refine lc_tup (K := K) (a := ca) (xs := cs.map V.int) (fun i H' => Same H H' ∧ H' L = some (.lst ((cs.take i).map fun c => V.str (Str.ofString (toString c))))) ⟨Same.new hL, upd_same⟩ (fun i H' _ g => g.1.sqT hC) (fun i x H2 hi g => ?_) fun H2 g => ?_
    · obtain ⟨s2, g2⟩ := g
      rw [List.getElem?_map] at hi
      obtain ⟨c, hc, rfl⟩ := Option.map_eq_some_iff.mp hi
      have cm := cok c (List.mem_of_getElem? hc)
      have il := (List.getElem?_eq_some_iff.mp hc).1
      refine ⟨rfl, _, rfl, c, rfl, logn (Nat.lt_trans (show c.natAbs < 24 by omega) (by decide)), _, g2, ?_, s2.mut hL, ?_⟩
      · rw [List.length_map, List.length_take]
        exact small1000 (by omega)
      · rw [upd_same, List.take_add_one, hc, List.map_append] <;> rfl
    · obtain ⟨s2, g2⟩ := g
      rw [List.length_map, List.take_length] at g2
      have ll : ∀ y ∈ (cs.map fun c => Str.ofString (toString c)).map (·.length), y ≤ 3 := fun y hy => by
        obtain ⟨z, hz, rfl⟩ := List.mem_map.mp hy
        obtain ⟨c, hc, rfl⟩ := List.mem_map.mp hz
        rw [len_tl, tstr c hc]
        exact l3 c hc
      have sl := natsum_le _ ll
      rw [List.length_map, List.length_map] at sl
      have sp1 : (" " : Str).length = 1 := by rw [len_tl, one_sp] <;> rfl
      refine ⟨_, L, cs.map fun c => Str.ofString (toString c), rfl, rfl, .inl (SqL.of (by rw [List.map_map]; exact g2)), ?_, _, _, rfl, rfl, ?_, ?_⟩
      · rw [List.length_map, sp1]
        omega
      · have te : tl (Txt.join (" " : Str) (cs.map fun c => Str.ofString (toString c)) ++ ("\n" : Str)) = txtF cs := by
          rw [tl_append, join_eq, tl_join, one_sp, one_nl, List.map_map]
          unfold txtF
          exact congrArg (fun z => joinL [32] z ++ [10]) (List.map_congr_left fun c hc => tstr c hc)
        have le := congrArg List.length te
        rw [tl_append, List.length_append, ← len_tl, ← len_tl] at le
        have lj := len_joinL (cs.map fun c => numL c.toNat) 3 fun p hp => by
          obtain ⟨c, hc, rfl⟩ := List.mem_map.mp hp
          exact l3 c hc
        rw [List.length_map] at lj
        unfold txtF at le
        rw [List.length_append] at le
        have : ([10] : List Nat).length = 1 := rfl
        show (Txt.join (" " : Str) (cs.map fun c => Str.ofString (toString c))).length + ("\n" : Str).length ≤ sizeLine
        rw [sizeLine_eq]
        omega
      · refine k _ H2 s2 ?_
        show tl (Txt.join (" " : Str) (cs.map fun c => Str.ofString (toString c)) ++ ("\n" : Str)) = txtF cs
        rw [tl_append, join_eq, tl_join, one_sp, one_nl, List.map_map]
        unfold txtF
        exact congrArg (fun z => joinL [32] z ++ [10]) (List.map_congr_left fun c hc => tstr c hc)
end
end Law

namespace Law
open PySem PySem.Spec PyProof.Rows L2
/-! ### list.count of truth values -/
def eqt (b : Bool) (v : Value) : Bool := match v with
  | .bool c => c == b
  | _ => false
theorem bools_of : ∀ {bs : List Bool} {its : List Value}, Vals (bs.map V.bl) its → its = bs.map Value.bool
  | [], _, .nil => rfl
  | b :: bs, _, .cons r rr => by
    cases r
    rw [bools_of rr] <;> rfl
theorem eqt_count (b : Bool) : ∀ bs : List Bool, (bs.map Value.bool).countP (eqt b) = bs.count b
  | [] => rfl
  | c :: bs => by
    rw [List.map_cons, List.countP_cons, List.count_cons, eqt_count b bs] <;> rfl
section
variable {X : Cx}
def rCntB (K : PySem.W.Frag) : V → List V → Hp → VK → Prop := fun x xs H Q => ∃ (p : Addr) (bs : List Bool) (b : Bool), x = .ref p ∧ xs = [.bl b] ∧ SqL K H p (bs.map V.bl) ∧ Q (.int (bs.count b : Nat)) H
theorem mt_bcount : MtR X "list.count" (rCntB X.K) := by
  intro pins s σ H x xs v us Q I rx rxs h
  obtain ⟨p, bs, b, rfl, rfl, hs, q⟩ := h
  cases rx
  obtain ⟨u, rfl, ru⟩ := rxs.one
  cases ru
  obtain ⟨its, rv, ⟨⟨cls, dd, data, sl⟩, n, ho, hc, hdn, hd⟩, hlen⟩ := I.list hs
  simp only at hc hd
  subst hc hd
  have hi := bools_of rv
  subst hi
  refine call_meets PySem.F.slot_list_count ⟨_, ho, rfl⟩ PySem.F.entry_list_count (PySem.F.args_list_count_2 _ _)
    (SeqAt.list_countAt p (bs.map Value.bool).toArray n dd sl (.bool b) (eqt b)) ⟨ho, fun y hy => ?_, ?_⟩
  · have hy' : y ∈ bs.map Value.bool := by simpa using hy
    obtain ⟨c, _, rfl⟩ := List.mem_map.mp hy'
    exact eqAt_V (y := .bl c) (x := .bl b) rfl rfl rfl rfl
  · refine ⟨.int (bs.count b : Nat), H, I.tok _, ⟨s.toks, ?_⟩, q⟩
    show Value.int (((bs.map Value.bool).toArray.toList.countP (eqt b) : Nat) : Int) s.toks = Value.int ((bs.count b : Nat) : Int) s.toks
    rw [show (bs.map Value.bool).toArray.toList = bs.map Value.bool by simp, eqt_count]
end
/-! ### own exceptions as values -/
structure ExV (K : PySem.W.Frag) (C : Addr) : Prop where
  ox : OexC K C
  cl : (PySem.W.clsIn K C).isSome = true
  ga : PySem.W.findIn K (.ref C) "__getattribute__" = some (some (.builtin "BaseException.__getattribute__"))
  gg : PySem.W.findIn K (.ref C) "__getattr__" = some none
  ha : PySem.W.findIn K (.ref C) "__class__" = some (some (.builtin "object.__class__"))
  hn : PySem.W.specialIn K (.builtin "object.__class__") "__get__" = some (some (.builtin "getset_descriptor.__get__"))
  ht : PySem.W.takesIn K (.builtin "object.__class__") = some true
  hm : PySem.W.mroIn K C (.type "object") = some true
  hd : PySem.W.hasDictIn K C = true
def ExAt (H : Hp) (a C : Addr) (d : Option Addr) : Prop := H a = some (exo a C d) ∧ (d = none ∨ ∃ dd fs, d = some dd ∧ H dd = some (exd dd fs))
theorem ExAt.same {H H' : Hp} {a C : Addr} {d : Option Addr} (s : Same H H') (x : ExAt H a C d) : ExAt H' a C d := ⟨s _ _ x.1, by
  rcases x.2 with h | ⟨dd, fs, h1, h2⟩
  · exact .inl h
  · exact .inr ⟨dd, fs, h1, s _ _ h2⟩⟩
theorem exInst {P : Program} {w : World} {H : Hp} {h : Heap} {a C : Addr} {d : Option Addr} (hok : HOk P w H h) (x : ExAt H a C d) : ∃ ox od, PySem.W.InstAt h a ox C od := by
  obtain ⟨t1, e⟩ := exo_at hok x.1
  rcases x.2 with rfl | ⟨dd, fs, rfl, h2⟩
  · exact ⟨_, none, e, rfl, rfl, trivial⟩
  · obtain ⟨mA, hn, _⟩ := exd_at hok h2
    obtain ⟨od, ho, _⟩ := lookIn_ns hn
    exact ⟨_, some od, e, rfl, rfl, ho⟩
section
variable {X : Cx}
def rIsV (K : PySem.W.Frag) : List V → Hp → VK → Prop := fun xs H Q => ∃ (a C : Addr) (d : Option Addr) (c : V) (cv : Value) (b : Bool), xs = [.ref a, c] ∧ ExAt H a C d ∧ ExV K C ∧ ClsV c cv ∧ PySem.W.kitOne K (.ref C) cv = some b ∧ Q (.bl b) H
theorem call_isV : CallR X (.builtin "isinstance") (rIsV X.K) := by
  intro pins s σ H xs us Q I r h
  obtain ⟨a, C, d, c, cv, b, rfl, x, T, k, e, q⟩ := h
  obtain ⟨u1, u2, rfl, r1, r2⟩ := vals2 r
  cases (show u1 = Value.ref a from r1)
  have e2 := k.eq r2
  subst e2
  obtain ⟨ox, od, J⟩ := exInst I.hok x
  exact PySem.W.kia_one (PySem.W.kitx_exc T.cl T.ga T.gg T.ox.exC T.ha T.hn T.ht T.hm) I.kIn J e (fun z => nomatch z) fun tk => ⟨.bl b, H, I.tok tk, rfl, q⟩
variable {C fI : Addr} {k : Nat} {fd : FuncData} {ps : List Str} {sp : Sp}
/-- an own exception made, and held as a value -/
theorem run_exv' {ds : List Value} {dvs : List V} (hd : Vals dvs ds) {pins : List (Addr × Obj)} {σ : L2.St} {H1 : Hp} {s1 : Shared} {Q : VK} {vs : List V} {us : List Value} (T : ExV X.K C) (iC : PySem.W.findIn X.K (.ref C) "__init__" = some (some (.ref fI))) (tI : PySem.W.typeIn X.K (.ref fI) = some (.type "function"))
    (F1 : FnOk X.prog X.w X.K X.mg X.base CX0 k fI fd ps sp) (hr : Room (k + 1) X.A) (hb : Binds X.K fd ps ds) (I1 : Inv X pins σ H1 s1) (r1 : Vals vs us) (hz : vs.length ≤ 1000)
    (hq1 : ∀ a, H1 a = none → sp (.ref a :: (vs ++ dvs)) (upd H1 a (exo a C none)) (fun v H2 => v = .non ∧ Q (.ref a) H2) E0) : wpAny (model X.prog X.w) X.A (call (.ref C) us) (EP X pins σ Q) X.xe s1 := by
  obtain ⟨nm, q, N, bs, bm, sn, sub, ab, col, dd, k0, k1, k2, k3, k5, hC, hbm⟩ := T.ox.cls
  obtain ⟨hp, g, dr, tk, os⟩ := s1
  have hsz : hp.objs.size ≤ hp.objs.size + 1 := Nat.le_succ _
  have hn : H1 (hp.objs.size + 1) = none := I1.hok.fresh hsz
  have hq : sp (.ref (hp.objs.size + 1) :: (vs ++ dvs)) (upd H1 (hp.objs.size + 1) (exo (hp.objs.size + 1) C none)) (fun v H2 => v = .non ∧ Q (.ref (hp.objs.size + 1)) H2) E0 := hq1 (hp.objs.size + 1) hn
  have kk : ∀ b o, hp.get? b = some o → ((hp.push (PySem.W.kdv_tup us)).push (PySem.HandSPX.excO C hp.objs.size)).get? b = some o := fun b o e => Heap.get?_push_of_some _ (Heap.get?_push_of_some _ e)
  have hget : ((hp.push (PySem.W.kdv_tup us)).push (PySem.HandSPX.excO C hp.objs.size)).get? (hp.objs.size + 1) = some (PySem.HandSPX.excO C hp.objs.size) := by heap_get
  have I2 : Inv X pins σ (upd H1 (hp.objs.size + 1) (exo (hp.objs.size + 1) C none)) ⟨(hp.push (PySem.W.kdv_tup us)).push (PySem.HandSPX.excO C hp.objs.size), g, dr, tk, os⟩ :=
    I1.laid (t' := tk) (a := hp.objs.size + 1) (o := exo (hp.objs.size + 1) C none) (h' := (hp.push (PySem.W.kdv_tup us)).push (PySem.HandSPX.excO C hp.objs.size)) kk hsz (exo_ok hget)
  have r2 : Vals (V.ref (hp.objs.size + 1) :: (vs ++ dvs)) (Value.ref (hp.objs.size + 1) :: (us ++ ds)) := .cons rfl (r1.append hd)
  have hl : (Value.ref (hp.objs.size + 1) :: us ++ ds).length = ps.length := by
    have e := r2.length
    rw [F1.len _ _ _ _ hq] at e
    exact e.symm
  have hus : us.length ≤ sizeLine := by
    rw [← Paired.length r1, sizeLine_eq]
    omega
  refine wpAny_call (PySem.HandSPX.call_own F.excBase_ValueError (fun Y => PySem.HandSPX.refsVE_contains Y bm hbm) (I1.kIn _ _ hC) (PySem.W.looks_findIn I1.kIn iC) (fun self => PySem.W.bind_fn I1.kIn self tI) hus
    (codeAny_mono (F1.run _ X.stack _ _ ⟨Value.ref (hp.objs.size + 1) :: us, []⟩ (Value.ref (hp.objs.size + 1) :: (us ++ ds)) _ _ E0 (hr.make C us []) (I2.env0.make C us []) (hb _ (Value.ref (hp.objs.size + 1) :: us) I2.kIn hl) r2 hq) fun r s' hq' => ?_))
  cases r with
  | error er => exact False.elim hq'
  | ok fl =>
    cases fl with
    | ret u =>
      obtain ⟨v, H', I3, rv, ev, q3⟩ := I2.after hq'
      subst ev
      exact ⟨rv, ⟨V.ref (hp.objs.size + 1), H', I3, rfl, q3⟩⟩
    | next => exact False.elim hq'
    | brk => exact False.elim hq'
    | cont => exact False.elim hq'
theorem run_exv {pins : List (Addr × Obj)} {σ : L2.St} {H1 : Hp} {s1 : Shared} {Q : VK} {vs : List V} {us : List Value} (T : ExV X.K C) (iC : PySem.W.findIn X.K (.ref C) "__init__" = some (some (.ref fI))) (tI : PySem.W.typeIn X.K (.ref fI) = some (.type "function"))
    (F1 : FnOk X.prog X.w X.K X.mg X.base CX0 k fI fd ps sp) (hr : Room (k + 1) X.A) (hb : Binds X.K fd ps []) (I1 : Inv X pins σ H1 s1) (r1 : Vals vs us) (hz : vs.length ≤ 1000)
    (hq1 : ∀ a, H1 a = none → sp (.ref a :: vs) (upd H1 a (exo a C none)) (fun v H2 => v = .non ∧ Q (.ref a) H2) E0) : wpAny (model X.prog X.w) X.A (call (.ref C) us) (EP X pins σ Q) X.xe s1 :=
  run_exv' (ds := []) (dvs := []) .nil T iC tI F1 hr hb I1 r1 hz fun a ha => by
    rw [List.append_nil]
    exact hq1 a ha
def tExV (C : Addr) (sp : Sp) (ta : TA) : TE := fun σ H Q => ta σ H fun vs H1 => vs.length ≤ 1000 ∧ ∀ a, H1 a = none → sp (.ref a :: vs) (upd H1 a (exo a C none)) (fun v H2 => v = .non ∧ Q (.ref a) H2) E0
theorem pe_exv {x : Str} {p pos : Pos} {e : Expr} {es : List Expr} {ta : TA} (T : ExV X.K C) (iC : PySem.W.findIn X.K (.ref C) "__init__" = some (some (.ref fI))) (tI : PySem.W.typeIn X.K (.ref fI) = some (.type "function"))
    (F1 : FnOk X.prog X.w X.K X.mg X.base CX0 k fI fd ps sp) (hr : Room (k + 1) X.A) (hb : Binds X.K fd ps []) (hg : Gl X x) (hm : X.mg x = some (.ref C)) (ha : PA X (e :: es) ta) (hdb : (x == ("__debug__" : Str)) = false := by decide)
    (he : starEach (e :: es) X.env = (false, eval e X.env) :: starEach es X.env := by rfl) (hpl : (backTo pos (starEach es X.env)).any (·.1) = false := by rfl) : PE X (.Call (.Name x p) (e :: es) [] pos) (tExV C sp ta) := by
  refine ⟨fun pins s σ H Q I h => ?_⟩
  refine wpAny_Call_Name_kw (ld_glob I hg hm ?_ hdb)
  refine PySem.W.callWith_K (h₀ := X.base) I.ok.mod.kin T.ox.kC (thn (ha.run pos pins s σ H _ I h) fun us s1 ⟨vs, H1, I1, r1, hz, q1⟩ => ⟨I1.kIn, ?_⟩) he hpl
  exact run_exv T iC tI F1 hr hb I1 r1 hz q1
theorem pe_exv0 {x : Str} {p pos : Pos} (T : ExV X.K C) (iC : PySem.W.findIn X.K (.ref C) "__init__" = some (some (.ref fI))) (tI : PySem.W.typeIn X.K (.ref fI) = some (.type "function"))
    (F1 : FnOk X.prog X.w X.K X.mg X.base CX0 k fI fd ps sp) (hr : Room (k + 1) X.A) (hb : Binds X.K fd ps []) (hg : Gl X x) (hm : X.mg x = some (.ref C)) (hdb : (x == ("__debug__" : Str)) = false := by decide) : PE X (.Call (.Name x p) [] [] pos) (tExV C sp tNil) := by
  refine ⟨fun pins s σ H Q I h => ?_⟩
  refine wpAny_Call_Name_kw (ld_glob I hg hm ?_ hdb)
  exact PySem.W.callWith_K0 I.kIn T.ox.kC (run_exv (us := []) T iC tI F1 hr hb I .nil h.1 h.2)
/-- e.f of such an exception -/
def tExF (K : PySem.W.Frag) (n : Str) (te : TE) : TE := fun σ H Q => te σ H fun x H1 => ∃ (a C dd : Addr) (fs : List (Str × V)) (v : V), x = .ref a ∧ ExV K C ∧ PySem.W.findIn K (.ref C) n = some none ∧ H1 a = some (exo a C (some dd)) ∧ H1 dd = some (exd dd fs) ∧ fs.lookup n = some v ∧ Q v H1
theorem pe_exf {e : Expr} {te : TE} {pos : Pos} {n : Str} (he : PE X e te) (hb : attributeBase e n X.env (eval e X.env) = eval e X.env := by rfl) : PE X (.Attribute e n pos) (tExF X.K n te) := by
  refine ⟨fun pins s σ H Q I h => ?_⟩
  refine attr_of hb (thn (he.run pins s σ H _ I h) fun u s1 hh => ?_)
  obtain ⟨x, H1, I1, rx, a, C, dd, fs, v, ex, T, hno, ha, hd, l, q⟩ := hh
  subst ex
  obtain rfl : u = Value.ref a := rx
  obtain ⟨t1, ea⟩ := exo_at I1.hok ha
  obtain ⟨mA, hns, hr⟩ := exd_at I1.hok hd
  obtain ⟨od, ho, hl⟩ := lookIn_ns hns
  obtain ⟨u, hu, ru⟩ := RelO.some_of (v := v) (o := mA n) (by rw [← l]; exact hr n)
  have J : PySem.W.InstAt s1.heap a _ C (some od) := ⟨ea, rfl, rfl, ho⟩
  exact HandSPX.exc_get I1.kIn J T.ga T.gg T.ox.exC (PySem.W.findObj_own T.hd hno rfl (by rw [hl, hu])) (handed_of ru) ⟨v, H1, I1.tok _, ru, q⟩
end
end Law
namespace Law
open PySem PySem.Spec PyProof.Rows L2
def spIni (C : Addr) (f : Str) : Sp := fun vs H Q _ => ∃ (a : Addr) (v : V), vs = [.ref a, v] ∧ H a = some (exo a C none) ∧ ∀ dx, H dx = none → dx ≠ a → Q .non (upd (upd H dx (exd dx [(f, v)])) a (exo a C (some dx)))
def spPas : Sp := fun vs H Q _ => ∃ a : Addr, vs = [.ref a] ∧ Q .non H
structure Er1 (P : Program) (w : World) (K : PySem.W.Frag) (mg : Str → Option Value) (base : Heap) (x : Str) (C : Addr) (f : Str) : Prop where
  T : ExV K C
  m : mg x = some (.ref C)
  no : PySem.W.findIn K (.ref C) f = some none
  fn : ∃ fI fd ps, PySem.W.findIn K (.ref C) "__init__" = some (some (.ref fI)) ∧ PySem.W.typeIn K (.ref fI) = some (.type "function") ∧ FnOk P w K mg base CX0 1 fI fd ps (spIni C f) ∧ Binds K fd ps []
structure Er0 (P : Program) (w : World) (K : PySem.W.Frag) (mg : Str → Option Value) (base : Heap) (x : Str) (C : Addr) : Prop where
  T : ExV K C
  m : mg x = some (.ref C)
  fn : ∃ fI fd ps, PySem.W.findIn K (.ref C) "__init__" = some (some (.ref fI)) ∧ PySem.W.typeIn K (.ref fI) = some (.type "function") ∧ FnOk P w K mg base CX0 1 fI fd ps spPas ∧ Binds K fd ps []
end Law
namespace Law
open PySem PySem.Spec PyProof.Rows L2
section
variable {X : Cx} {a : Addr} {oe : Obj} {cls : Value} {d : Option Addr} {pn : List (Addr × Obj)}
/-- isinstance of the error that a suite holds, its dict there -/
def rIsS (K : PySem.W.Frag) (a : Addr) (cls : Value) (d : Option Addr) : List V → Hp → VK → Prop := fun xs H Q => ∃ (C dd : Addr) (fs : List (Str × V)) (c : V) (cv : Value) (b : Bool), xs = [.ref a, c] ∧ cls = .ref C ∧ ExV K C ∧ d = some dd ∧ H dd = some (.xd fs) ∧ ClsV c cv ∧ PySem.W.kitOne K (.ref C) cv = some b ∧ Q (.bl b) H
theorem call_isS (hz : Zc cls d oe) (hf : ∃ vs, oe.data = .fields vs) : CallR (X.suite a ((a, oe) :: pn)) (.builtin "isinstance") (rIsS X.K a cls d) := by
  intro pins s σ H xs us Q I r h
  obtain ⟨C, dd, fs, c, cv, b, rfl, rfl, T, rfl, hd, k, e, q⟩ := h
  obtain ⟨u1, u2, rfl, r1, r2⟩ := vals2 r
  cases (show u1 = Value.ref a from r1)
  have e2 := k.eq r2
  subst e2
  obtain ⟨hget, _⟩ := I.pin (a, oe) (List.mem_append.mpr (.inl List.mem_cons_self))
  obtain ⟨vs, hv⟩ := hf
  have hx : ObjOk X.prog X.w H s.heap dd (.xd fs) := I.hok dd _ hd
  obtain ⟨mA, hns, hr⟩ := hx
  obtain ⟨od, ho, hl⟩ := lookIn_ns hns
  have J : PySem.W.InstAt s.heap a oe C (some od) := ⟨hget, hz.1, by unfold PySem.W.notCls; rw [hv] <;> rfl, by rw [hz.2]; exact ho⟩
  exact PySem.W.kia_one (PySem.W.kitx_exc T.cl T.ga T.gg T.ox.exC T.ha T.hn T.ht T.hm) I.kIn J e (fun z => nomatch z) fun tk => ⟨.bl b, H, I.kept (t' := tk) fun _ _ z => z, rfl, q⟩
def tXs (K : PySem.W.Frag) (a : Addr) (cls : Value) (d : Option Addr) (n : Str) (te : TE) : TE := fun σ H Q => te σ H fun x H1 => x = .ref a ∧ ∃ (C dd : Addr) (fs : List (Str × V)) (v : V), cls = .ref C ∧ ExV K C ∧ PySem.W.findIn K (.ref C) n = some none ∧ d = some dd ∧ H1 dd = some (.xd fs) ∧ fs.lookup n = some v ∧ Q v H1
theorem pe_xs {e : Expr} {te : TE} {pos : Pos} {n : Str} (hz : Zc cls d oe) (hf : ∃ vs, oe.data = .fields vs) (he : PE (X.suite a ((a, oe) :: pn)) e te) (hb : attributeBase e n X.env (eval e X.env) = eval e X.env := by rfl) :
    PE (X.suite a ((a, oe) :: pn)) (.Attribute e n pos) (tXs X.K a cls d n te) := by
  refine ⟨fun pins s σ H Q I h => ?_⟩
  refine attr_of hb (thn (he.run pins s σ H _ I h) fun u s1 hh => ?_)
  obtain ⟨x, H1, I1, rx, ex, C, dd, fs, v, ec, T, hno, ed, ea, l, q⟩ := hh
  subst ex
  obtain rfl : u = Value.ref a := rx
  subst ec
  subst ed
  obtain ⟨ha, _⟩ := I1.pin (a, oe) (List.mem_append_left _ List.mem_cons_self)
  obtain ⟨vs, hd⟩ := hf
  have hx : ObjOk X.prog X.w H1 s1.heap dd (.xd fs) := I1.hok dd _ ea
  obtain ⟨mA, hns, hr⟩ := hx
  obtain ⟨od, ho, hl⟩ := lookIn_ns hns
  obtain ⟨u, hu, ru⟩ := RelO.some_of (v := v) (o := mA n) (by rw [← l]; exact hr n)
  have J : PySem.W.InstAt s1.heap a oe C (some od) := ⟨ha, hz.1, by unfold PySem.W.notCls; rw [hd] <;> rfl, by rw [hz.2]; exact ho⟩
  exact HandSPX.exc_get I1.kIn J T.ga T.gg T.ox.exC (PySem.W.findObj_own T.hd hno rfl (by rw [hl, hu])) (handed_of ru) ⟨v, H1, I1.tok _, ru, q⟩
end
theorem Er1.pmk {X : Cx} {x f : Str} {C : Addr} {p pos : Pos} {e : Expr} {es : List Expr} {ta : TA} (r : Er1 X.prog X.w X.K X.mg X.base x C f) (hr : Room 2 X.A) (ha : PA X (e :: es) ta) (hg : Gl X x := by rfl) (hdb : (x == ("__debug__" : Str)) = false := by decide)
    (he : starEach (e :: es) X.env = (false, eval e X.env) :: starEach es X.env := by rfl) (hpl : (backTo pos (starEach es X.env)).any (·.1) = false := by rfl) : PMk X (.Call (.Name x p) (e :: es) [] pos) (tMkO C (spIni C f) [] ta) := by
  obtain ⟨fI, fd, ps, h1, h2, h3, h4⟩ := r.fn
  exact pmk_oex r.T.ox h1 h2 h3 hr h4 .nil pass0 hg r.m ha hdb he hpl
end Law
namespace Law
open PySem PySem.Spec PyProof.Rows L2
theorem del_new {H : Hp} {a : Addr} {o : HO} (h : H a = none) : del (upd H a o) a = H := by
  funext b
  unfold del
  by_cases e : b = a
  · rw [if_pos e, e, h]
  · rw [if_neg e, upd_ne e]
theorem rz_same {H : Hp} {a dx : Addr} {o1 o2 o3 o4 : HO} (ha : H a = none) (hd : (upd H a o1) dx = none) : Same H (upd (del (upd (upd (upd H a o1) dx o2) a o3) a) dx o4) := fun b o e => by
  have nb : b ≠ a := ne_of_none e ha
  have z : upd H a o1 b = some o := by
    rw [upd_ne nb]
    exact e
  have nd : b ≠ dx := ne_of_none z hd
  rw [upd_ne nd, del_ne nb, upd_ne nb, upd_ne nd, upd_ne nb]
  exact e
theorem rz_free {H : Hp} {a dx : Addr} {o1 : HO} (hd : (upd H a o1) dx = none) (ne : dx ≠ a) : H dx = none := by
  rw [upd_ne ne] at hd
  exact hd
end Law
namespace L2
open PySem TL
/-- a text that is split is its parts joined -/
theorem join_spl {s : Nat} : ∀ (l acc : List Nat), joinL [s] (spl [s] 0 acc l) = acc ++ l
  | [], acc => by rw [spl_nil, List.append_nil] <;> rfl
  | c :: r, acc => by
    by_cases e : c = s
    · subst e
      have h : pre [c] (c :: r) = true := pre_self [c] r
      rw [spl_hit h]
      have n : spl [c] ([c].length - 1) [] r ≠ [] := by
        show spl [c] 0 [] r ≠ []
        intro z
        have ih := join_spl (s := c) r []
        have l := congrArg List.length (join_spl (s := c) r [])
        cases r with
        | nil => rw [spl_nil] at z; cases z
        | cons d r2 =>
          by_cases e2 : d = c
          · rw [e2, spl_hit (show pre [c] (c :: r2) = true from pre_self [c] r2)] at z
            cases z
          · rw [z] at l
            exact absurd l (by simp [joinL])
      cases hq : spl [c] ([c].length - 1) [] r with
      | nil => exact absurd hq n
      | cons p q =>
        show acc ++ ([c] ++ joinL [c] (p :: q)) = _
        rw [← hq]
        show acc ++ ([c] ++ joinL [c] (spl [c] 0 [] r)) = _
        rw [join_spl r []]
        rfl
    · rw [spl_miss (pre_of_head [] r e), join_spl r (acc ++ [c]), List.append_assoc] <;> rfl
theorem spl_ne (s : Nat) (l acc : List Nat) : spl [s] 0 acc l ≠ [] := by
  cases l with
  | nil => rw [spl_nil]; simp
  | cons c r =>
    by_cases e : c = s
    · rw [e, spl_hit (show pre [s] (s :: r) = true from pre_self [s] r)]
      simp
    · intro z
      have h := join_spl (s := s) (c :: r) acc
      rw [z] at h
      have l := congrArg List.length h
      rw [List.length_append] at l
      exact absurd l (by simp [joinL])
theorem joinL_len (s : Nat) : ∀ (ps : List (List Nat)), (∀ p ∈ ps, p ≠ []) → 2 * ps.length ≤ (joinL [s] ps).length + 1
  | [], _ => by simp
  | [p], h => by
    have := List.length_pos_iff.mpr (h p List.mem_cons_self)
    show 2 * 1 ≤ p.length + 1
    omega
  | p :: q :: r, h => by
    have := List.length_pos_iff.mpr (h p List.mem_cons_self)
    have ih := joinL_len s (q :: r) fun x hx => h x (List.mem_cons_of_mem _ hx)
    show 2 * ((q :: r).length + 1) ≤ (p ++ ([s] ++ joinL [s] (q :: r))).length + 1
    rw [List.length_append, List.length_append]
    show _ ≤ p.length + (1 + _) + 1
    omega
theorem wds_join (l : List Nat) : joinL [32] (wdsOf l) = l := by
  unfold wdsOf
  by_cases e : l = []
  · rw [if_pos e, e] <;> rfl
  · rw [if_neg e, join_spl, List.nil_append]
/-- a well-formed text of so many signs has half as many words -/
theorem wds_len {n : Nat} {l : List Nat} (h : badF n l = none) : 2 * (wdsOf (cutL l).1).length ≤ l.length := by
  unfold badF at h
  cases hb : firstBad n (wdsOf (cutL l).1) with
  | some i => rw [hb] at h; cases h
  | none =>
    rw [hb] at h
    have good := firstBad_none.mp hb
    have hc : (cutL l).2.1 = true ∧ (cutL l).2.2 = [] := by
      by_cases z : (cutL l).2.1 = true ∧ (cutL l).2.2 = []
      · exact z
      · change (if _ then _ else _) = none at h
        rw [if_neg z] at h
        cases h
    have j := joinL_len 32 (wdsOf (cutL l).1) fun p hp => by
      obtain ⟨k, _, rfl⟩ := goodW_iff.mp (good p hp)
      exact numL_ne k
    rw [wds_join] at j
    have len : (cutL l).1.length + 1 ≤ l.length := by
      by_cases m : 10 ∈ l
      · obtain ⟨a, b, e1, e2⟩ := first_of m
        rw [cutL_at e1 e2, e1, List.length_append]
        show a.length + 1 ≤ a.length + (b.length + 1)
        omega
      · rw [cutL_no m] at hc
        cases hc.1
    omega
theorem mem_joinL (s : Nat) : ∀ {ps : List (List Nat)} {p : List Nat}, p ∈ ps → p.length ≤ (joinL [s] ps).length
  | [], _, h => absurd h List.not_mem_nil
  | [q], p, h => by rw [List.mem_singleton.mp h]; exact Nat.le_refl _
  | q :: r :: t, p, h => by
    have e : (joinL [s] (q :: r :: t)).length = q.length + (1 + (joinL [s] (r :: t)).length) := by
      show (q ++ ([s] ++ joinL [s] (r :: t))).length = _
      rw [List.length_append, List.length_append] <;> rfl
    rcases List.mem_cons.mp h with rfl | h
    · omega
    · have := mem_joinL s h
      omega
theorem cnt_joinL (s : Nat) : ∀ (ps : List (List Nat)), ps.length ≤ (joinL [s] ps).length + 1
  | [] => Nat.zero_le _
  | [p] => by show 1 ≤ p.length + 1; omega
  | p :: q :: r => by
    have ih := cnt_joinL s (q :: r)
    show (q :: r).length + 1 ≤ (p ++ ([s] ++ joinL [s] (q :: r))).length + 1
    rw [List.length_append, List.length_append]
    show _ ≤ p.length + (1 + _) + 1
    omega
theorem nums_vals : ∀ {ws : List Str} {cs : List Int}, ws.map tl = (cs.map fun c => numL c.toNat) → (∀ c ∈ cs, 0 ≤ c ∧ c < 10 ^ 12) → ws.map numV = cs.map V.int
  | [], [], _, _ => rfl
  | [], c :: cs, h, _ => by cases h
  | w :: ws, [], h, _ => by cases h
  | w :: ws, c :: cs, h, hc => by
    rw [List.map_cons, List.map_cons] at h
    injection h with h1 h2
    obtain ⟨c0, c1⟩ := hc c List.mem_cons_self
    have e := numO_num h1 (by omega)
    rw [List.map_cons, List.map_cons, nums_vals h2 fun d hd => hc d (List.mem_cons_of_mem _ hd)]
    unfold numV
    rw [e, show ((c.toNat : Nat) : Int) = c by omega]
theorem nums_of {n : Nat} : ∀ {ws : List (List Nat)}, (∀ w ∈ ws, goodW n w = true) → ∃ cs : List Int, (∀ c ∈ cs, 0 ≤ c ∧ c < (n : Int)) ∧ ws = cs.map fun c => numL c.toNat
  | [], _ => ⟨[], fun c hc => absurd hc List.not_mem_nil, rfl⟩
  | w :: ws, h => by
    obtain ⟨k, k1, k2⟩ := goodW_iff.mp (h w List.mem_cons_self)
    obtain ⟨cs, c1, c2⟩ := nums_of fun v hv => h v (List.mem_cons_of_mem _ hv)
    refine ⟨(k : Int) :: cs, fun c hc => ?_, by rw [k2, c2] <;> rfl⟩
    rcases List.mem_cons.mp hc with rfl | hc
    · omega
    · exact c1 c hc
end L2
namespace Law
open PySem L2 TL
section
variable {P : Program} {w : World} {K : PySem.W.Frag} {mg : Str → Option Value} {base : Heap}
def spDrawerOf (K : PySem.W.Frag) (C D B : Addr) : Sp := fun vs H Q E => ∃ (sy : Addr) (t : Str) (many : Nat) (ms : List Mv), vs = [.ref sy, .str t] ∧ SysAt K C H sy many ms ∧ LdOk many (ldsOf ms) ∧ ms.length ≤ 24 ∧ t.length ≤ 4000 ∧ (badF ms.length (tl t) = none → (wdsOf (cutL (tl t)).1).length ≤ 400) ∧
  (∀ (i : Nat) (d : Addr) H', badF ms.length (tl t) = some i → Same H H' → H d = none → H' d = some (.xd [("number", .int (i : Int))]) → E (.ref B) (some d) H') ∧
  (∀ q cs H', badF ms.length (tl t) = none → Same H H' → H q = none → DrAt K C D H' q sy many ms cs → CsOk ms.length cs → wdsOf (cutL (tl t)).1 = (cs.map fun c => numL c.toNat) → Q (.ref q) H')
abbrev nDrawerOf : List Str := ["system", "text", "line", "feed", "rest", "coins", "number", "move", "drawer", "word"]
theorem scDrawerOf : FnScope nDrawerOf ["system", "text"] (defScope s_drawer_of) := ⟨rfl, rfl, rfl, by decide +kernel, rfl, by decide +kernel, by decide +kernel⟩
theorem ok_drawer_of {f : Addr} {fd : FuncData} {fcNum : Addr} {fdcNum : FuncData} {fcWithin : Addr} {fdcWithin : FuncData} {fgD : Addr} {fdgD : FuncData} {fmRead : Addr} {fdmRead : FuncData} {C B : Addr} (F : Fun K "drawer_of" "drawer_of" s_drawer_of f fd) (T : NmA mg) (cNum : Cl P w K mg base CX0 1 "number_of_text" fcNum fdcNum ["text"] spNum) (cWithin : Cl P w K mg base CX0 2 "is_within" fcWithin fdcWithin ["low", "high", "thing"] (spWithin K)) (MgD : Mk K D fgD) (GgD : FnOk P w K mg base CX0 1 fgD fdgD ["self", "system"] (spDInit K C D)) (BgD : Binds K fdgD ["self", "system"] []) (YgD : DrT K mg D) (mRead : Ml P w K mg base 3 D "read" fmRead fdmRead ["self", "move"] (spRead K C D)) (S : SysT K mg C) (eBC : Er1 P w K mg base "BadCoin" B "number") : FnOk P w K mg base (L2.CX P w) 4 f fd ["system", "text"] (spDrawerOf K C D B) := by
  refine F.okX scDrawerOf (fun vs H Q E h => ?_) (fun cdv A' outer s H vs Q E hr h => ?_)
  · obtain ⟨sy, t, many, ms, rfl, _⟩ := h
    rfl
  · obtain ⟨sy, t, many, ms, rfl, hS, ok, l24, l4, w4, kE, kQ⟩ := h
    refine ⟨_, pss_cons (ps_if (pt_not (pt_val (pe_callB call_isi (by rfl) T.isi (by decide +kernel) (pa_cons (pv 1) (pa_cons (pe_bltn (v := .ty "str") (u := .type "str") (by rfl) T.str (by decide +kernel) rfl) pa_nil)))))
        pss_never pss_nil)
      (pss_cons (ps_asg (pe_m1 PySem.F.slot_str_partition PySem.F.type_str_partition mt_partition (pv 1) pe_str) (pg_tup (by rfl) (pgs_cons (pg_name (i := 2) scDrawerOf.nd rfl (Or.inl rfl)) (pgs_cons (pg_name (i := 3) scDrawerOf.nd rfl (Or.inl rfl)) (pgs_cons (pg_name (i := 4) scDrawerOf.nd rfl (Or.inl rfl)) pgs_nil)))))
      (Evl.pss_cut (ps_set (i := 5) scDrawerOf.nd rfl (Or.inl rfl) (pe_ifExp (pt_cmpR op_eq (pv 2) pe_str (nomark _)) (pe_lst pa_nil) (pe_lc (own := [("word", 9)]) (g := (gName 9)) (tt := tYes) rfl scDrawerOf.nd  (pi_list (pe_m1 PySem.F.slot_str_split PySem.F.type_str_split mt_split (pv 2) pe_str)) (blkOk_by (own := [("word", 9)]) (N := nDrawerOf) (sc := defScope s_drawer_of) (by decide +kernel)) (fun _ _ _ _ _ => (pg_name (i := 9) scDrawerOf.nd rfl (Or.inl rfl))) (fun _ _ _ _ _ => pts_nil) (fun _ _ _ _ _ => (cNum.call (hr.mono (by decide)) (pa_cons (pv 9) pa_nil))))))
      (pss_cons (ps_for (passes_of rfl) rfl (pi_enum (by rfl) T.enum (pa_cons (pv 5) pa_nil)) (pg_tup (by rfl) (pgs_cons (pg_name (i := 6) scDrawerOf.nd rfl (Or.inl rfl)) (pgs_cons (pg_name (i := 7) scDrawerOf.nd rfl (Or.inl rfl)) pgs_nil)))
        (pss_one (ps_if (pt_not (pt_val (cWithin.call (hr.mono (by decide)) (pa_cons pe_int (pa_cons (pe_op op_sub (pe_callB call_len_seq (by rfl) T.len PySem.boot_len (pa_cons (pe_fld (pv 0) rfl) pa_nil)) pe_int) (pa_cons (pv 7) pa_nil))))))
          (pss_one (ps_raise rfl (takes_of rfl rfl rfl rfl) (eBC.pmk (hr.mono (by decide)) (pa_cons (pv 6) pa_nil)))) pss_nil)))
      (pss_cons (ps_if (PW.pt (pw_or (pt_cmpR op_eq (pv 3) pe_str (nomark _)) (pw_or1 (pt_cmpR op_ne (pv 4) pe_str (nomark _)))))
        (pss_one (ps_raise rfl (takes_of rfl rfl rfl rfl) (eBC.pmk (hr.mono (by decide)) (pa_cons (pe_callB call_len_seq (by rfl) T.len PySem.boot_len (pa_cons (pv 5) pa_nil)) pa_nil)))) pss_nil)
      (pss_cons (ps_set (i := 8) scDrawerOf.nd rfl (Or.inl rfl) (pe_make MgD GgD (hr.mono (by decide)) (by rfl) YgD.mgC BgD .nil pass0 (pa_cons (pv 0) pa_nil)))
      (pss_cons (ps_for (passes_of rfl) rfl (pi_list (pv 5)) (pg_name (i := 7) scDrawerOf.nd rfl (Or.inl rfl))
        (pss_one (ps_expr (mRead.call (hr.mono (by decide)) (pv 8) (pa_cons (pv 7) pa_nil)))))
      (pss_one (ps_ret (pv 8))))))))), ?_⟩
    obtain ⟨dx, mv, hsy, vs, hV, hM⟩ := id hS
    have vl := hM.1
    have lms : (ldsOf ms).length = ms.length := by rw [List.length_map]
    have m24 : ms.length ≤ 10 ^ 12 := by omega
    have kb : PySem.W.kitOne K (.type "str") (.type "str") = some true := kit_ty (by decide +kernel)
    refine ⟨_, rfl, _, _, _, _, _, rfl, .ty "str", .base (.str t), kb, _, rfl, iteF ?_⟩
    have tz : t.length ≤ sizeLine := by rw [sizeLine_eq]; omega
    -- line, feed, rest
    have lt := len_tl t
    refine ⟨_, rfl, ⟨_, rfl⟩, t, _, rfl, rfl, by decide +kernel, tz, fun p hp => ?_⟩
    have parts : ∃ (line : Str) (rest : Str) (closed : Bool), Txt.partition t ("\n" : Str) = (line, if closed = true then ("\n" : Str) else Str.empty, rest) ∧ cutL (tl t) = (tl line, closed, tl rest) ∧ line.length ≤ 4000 := by
      by_cases m : 10 ∈ tl t
      · obtain ⟨a, b, e1, e2⟩ := first_of m
        refine ⟨⟨a.toArray⟩, ⟨b.toArray⟩, true, ?_, ?_, ?_⟩
        · rw [nl_is, part_at e1 e2] <;> rfl
        · rw [cutL_at e1 e2] <;> rfl
        · rw [len_tl]
          show a.length ≤ 4000
          rw [e1, List.length_append] at lt
          omega
      · refine ⟨t, Str.empty, false, ?_, ?_, l4⟩
        · rw [nl_is, part_no m] <;> rfl
        · rw [cutL_no m] <;> rfl
    obtain ⟨line, rest, closed, ep, ec, ll⟩ := parts
    rw [ep]
    refine new_step hp fun H1 s1 e1 => ?_
    refine ⟨p, _, rfl, SqT.of e1, rfl, _, _, rfl, _, _, rfl, _, _, rfl, rfl, ?_⟩
    have hb : badF ms.length (tl t) = match firstBad ms.length (wdsOf (tl line)) with
        | some i => some i
        | none => if closed = true ∧ tl rest = [] then none else some (wdsOf (tl line)).length := by
      unfold badF
      rw [ec] <;> rfl
    rw [ec] at w4 kQ
    change (badF ms.length (tl t) = none → (wdsOf (tl line)).length ≤ 400) at w4
    change (∀ q cs H', badF ms.length (tl t) = none → Same H H' → H q = none → DrAt K C D H' q sy many ms cs → CsOk ms.length cs → wdsOf (tl line) = (cs.map fun c => numL c.toNat) → Q (.ref q) H') at kQ
    have lz : line.length ≤ sizeLine := by rw [sizeLine_eq]; omega
    have e_emp : ("" : Str) = Str.empty := ext_tl (by decide +kernel)
    refine ⟨fun σ' H' => ∃ (ws : List Str) (L : Addr), σ' = [some (.ref sy), some (.str t), some (.str line), some (.str (if closed = true then ("\n" : Str) else Str.empty)), some (.str rest), some (.ref L), none, none, none, none] ∧ ws.map tl = wdsOf (tl line) ∧ Same H H' ∧ H' L = some (.lst (ws.map numV)), ?_, ?_⟩
    · refine ⟨_, rfl, rfl, _, rfl, ?_⟩
      rw [dec_str, e_emp]
      by_cases le : line = Str.empty
      · rw [decide_eq_true le]
        refine iteT ⟨by show 0 ≤ sizeLine; decide, fun L hL => ⟨[], L, rfl, ?_, s1.trans (Same.new hL), upd_same⟩⟩
        have : tl line = [] := by rw [le] <;> rfl
        unfold wdsOf
        rw [if_pos this] <;> rfl
      · rw [decide_eq_false le]
        have tn : ¬ tl line = [] := fun z => le (ext_tl z)
        have spl : (Txt.split line (" " : Str)).map tl = wdsOf (tl line) := by
          rw [split_spl line _ (by rw [one_sp]; simp) (kind_ok (by decide +kernel)), one_sp]
          unfold wdsOf
          rw [if_neg tn]
        have wl : ∀ u ∈ Txt.split line (" " : Str), u.length ≤ 4000 := fun u hu => by
          have m : tl u ∈ wdsOf (tl line) := by rw [← spl]; exact List.mem_map.mpr ⟨u, hu, rfl⟩
          have := mem_joinL 32 m
          rw [wds_join, ← len_tl, ← len_tl] at this
          omega
        have cl : (Txt.split line (" " : Str)).length ≤ 4001 := by
          have z := cnt_joinL 32 (wdsOf (tl line))
          rw [wds_join, ← len_tl, ← spl, List.length_map] at z
          omega
        refine iteF ⟨_, rfl, ⟨_, rfl⟩, line, _, rfl, rfl, by decide +kernel, by rw [sizeLine_eq]; omega, ?_⟩
        refine fun p2 hp2 => ?_
        refine new_step hp2 fun H2 s2 e2 => ?_
        generalize Txt.split line (" " : Str) = ws at spl wl cl e2
        refine ⟨p2, rfl, ⟨_, SqL.of e2⟩, fun D2 hD2 => ?_⟩
        refine lc_list (K := K) (a := p2) (xs := ws.map V.str) (fun i H' => Same H2 H' ∧ H' D2 = some (.lst ((ws.take i).map numV))) ⟨Same.new hD2, upd_same⟩ (fun i H' _ g => SqL.of (g.1 _ _ e2)) (fun i x H3 hi g => ?_) fun H3 g => ?_
        · obtain ⟨s3, g3⟩ := g
          rw [List.getElem?_map] at hi
          obtain ⟨u, hu, rfl⟩ := Option.map_eq_some_iff.mp hi
          have il := (List.getElem?_eq_some_iff.mp hu).1
          refine ⟨rfl, _, rfl, u, rfl, by have := wl u (List.mem_of_getElem? hu); omega, _, g3, ?_, s3.mut hD2, ?_⟩
          · rw [List.length_map, List.length_take, sizeLine_eq]
            omega
          · rw [upd_same, List.take_add_one, hu, List.map_append] <;> rfl
        · obtain ⟨s3, g3⟩ := g
          rw [List.length_map, List.take_length] at g3
          exact ⟨ws, D2, rfl, spl, (s1.trans s2).trans s3, g3⟩
    · rintro σ' H2 ⟨ws, L, rfl, hws, s2, hL⟩
      have wl4 : ws.length ≤ 4001 := by
        have z := cnt_joinL 32 (wdsOf (tl line))
        rw [wds_join, ← len_tl, ← hws, List.length_map] at z
        omega
      have raise : ∀ (i : Nat) (H3 : Hp) (v : V), badF ms.length (tl t) = some i → Same H H3 → v = .int (i : Int) → tMkO B (spIni B "number") [] (fun σ H Q => Q [v] H) [] H3 fun cls d H' => E cls d H' := fun i H3 v hbad s3 hv => by
        subst hv
        refine ⟨by simp, fun ax hax => ⟨ax, _, rfl, upd_same, fun dd hd ne => ⟨rfl, dd, [(_, _)], upd_same, by rw [upd_ne ne, upd_same], rz_free hd ne, ?_⟩⟩⟩
        exact kE i dd _ hbad (s3.trans (rz_same hax hd)) (s3.free (rz_free hd ne)) upd_same
      refine ⟨_, rfl, L, _, rfl, SqL.of hL, for_it walk_enum (fun i σ H' => Same H2 H' ∧ (∀ j u, j < i → ws[j]? = some u → goodW ms.length (tl u) = true) ∧ ∃ u v : Option V, σ = [some (.ref sy), some (.str t), some (.str line), some (.str (if closed = true then ("\n" : Str) else Str.empty)), some (.str rest), some (.ref L), u, v, none, none]) ⟨Same.refl H2, fun j u hj => absurd hj (Nat.not_lt_zero _), none, none, rfl⟩ (fun i σ H' _ g => SqL.of (g.1 _ _ hL)) ?_ ?_⟩
      · rintro i x σ H3 H4 hi ⟨s3, gd, u, v, rfl⟩ ⟨T, a, b, rfl, hT, rfl, ha, hb'⟩
        have ha := Option.some.inj ha
        subst ha
        change (ws.map numV)[i]? = some b at hb'
        rw [List.getElem?_map] at hb'
        obtain ⟨w1, hw, rfl⟩ := Option.map_eq_some_iff.mp hb'
        refine ⟨T, _, rfl, SqT.of upd_same, rfl, _, _, rfl, _, _, rfl, rfl, ?_⟩
        refine new_step hT fun H4 s4 _ => ?_
        have s24 := s3.trans s4
        have s25 := s2.trans s24
        refine ⟨_, rfl, sy, C, dx, _, _, rfl, s25 _ _ hsy, S.cl, S.nM, sysF_moves _ _, mv, _, rfl, .inr (s25.sqT hV), _, _, rfl, rfl, _, rfl, 0, _, _, rfl, ?_⟩
        by_cases g : goodW ms.length (tl w1) = true
        · obtain ⟨kk, k1, k2, k3⟩ := (numO_good m24 w1).mp g
          have en : numV w1 = .int (kk : Int) := by unfold numV; rw [k1]
          refine .inl ⟨kk, en, _, rfl, ?_⟩
          rw [decide_eq_true (show (0 : Int) ≤ (kk : Int) by omega), decide_eq_true (show (kk : Int) ≤ ((vs.length : Nat) : Int) - 1 by omega)]
          refine iteF ⟨s24, fun j u hj hu => ?_, _, _, rfl⟩
          by_cases z : j < i
          · exact gd j u z hu
          · rw [show j = i by omega, hw] at hu
            rw [← Option.some.inj hu]
            exact g
        · have hbad : badF ms.length (tl t) = some i := by
            rw [hb, ← hws, firstBad_some (i := i)]
            · intro j hj
              have jl : j < ws.length := Nat.lt_trans hj (List.getElem?_eq_some_iff.mp hw).1
              exact ⟨tl ws[j], by rw [List.getElem?_map, List.getElem?_eq_getElem jl] <;> rfl, gd j _ hj (List.getElem?_eq_getElem jl)⟩
            · exact ⟨tl w1, by rw [List.getElem?_map, hw] <;> rfl, Bool.eq_false_iff.mpr g⟩
          have go := raise i H4 (.int (i : Int)) hbad s25 rfl
          cases hn : numO w1 with
          | none =>
            have en : numV w1 = .non := by unfold numV; rw [hn]
            rw [en]
            exact .inr ⟨false, false, ⟨_, .base .non, kit_ty (by decide +kernel), kit_ty (by decide +kernel)⟩, rfl, _, rfl, iteT ⟨_, rfl, go⟩⟩
          | some z =>
            obtain ⟨kk, rfl, k2, _⟩ := numO_back hn
            have en : numV w1 = .int (kk : Int) := by unfold numV; rw [hn]
            have kn : ¬ kk < ms.length := fun q => g (goodW_iff.mpr ⟨kk, q, k2⟩)
            refine .inl ⟨kk, en, _, rfl, ?_⟩
            rw [decide_eq_false (show ¬ (kk : Int) ≤ ((vs.length : Nat) : Int) - 1 by omega), Bool.and_false]
            exact iteT ⟨_, rfl, go⟩
      · rintro σ H3 ⟨s3, gd, u, v, rfl⟩
        have allg : ∀ w ∈ wdsOf (tl line), goodW ms.length w = true := by
          rw [← hws]
          intro w hw
          obtain ⟨u0, hu0, rfl⟩ := List.mem_map.mp hw
          obtain ⟨j, hj⟩ := List.getElem?_of_mem hu0
          exact gd j u0 (by rw [List.length_map]; exact (List.getElem?_eq_some_iff.mp hj).1) hj
        rw [firstBad_none.mpr allg] at hb
        change badF ms.length (tl t) = (if closed = true ∧ tl rest = [] then none else some (wdsOf (tl line)).length) at hb
        have s23 := s2.trans s3
        have hL3 := s3 _ _ hL
        have lenw : (wdsOf (tl line)).length = (ws.map numV).length := by rw [← hws, List.length_map, List.length_map]
        refine ⟨_, rfl, rfl, _, rfl, ?_⟩
        rw [dec_str, e_emp]
        cases closed with
        | false =>
          rw [if_neg (by rintro ⟨z, _⟩; cases z), lenw] at hb
          rw [show decide ((if false = true then ("\n" : Str) else Str.empty) = Str.empty) = true from decide_eq_true rfl]
          exact iteT ⟨_, rfl, L, _, rfl, .inl (SqL.of hL3), raise _ H3 _ hb s23 rfl⟩
        | true =>
          have nn : ¬ ("\n" : Str) = Str.empty := fun z => by
            have := congrArg tl z
            rw [one_nl] at this
            cases this
          rw [show decide ((if true = true then ("\n" : Str) else Str.empty) = Str.empty) = false from decide_eq_false nn]
          refine iteF ⟨_, rfl, rfl, _, rfl, ?_⟩
          rw [dec_str]
          by_cases re : rest = Str.empty
          · have tr : tl rest = [] := by rw [re] <;> rfl
            rw [if_pos ⟨rfl, tr⟩] at hb
            rw [decide_eq_true re]
            obtain ⟨cs, c1, c2⟩ := nums_of allg
            have lists : ws.map numV = cs.map V.int := nums_vals (hws.trans c2) fun c hc => by have := c1 c hc; omega
            rw [lists] at hL3
            have c4 : cs.length ≤ 400 := by
              have := w4 hb
              rw [c2, List.length_map] at this
              exact this
            refine iteF ⟨_, rfl, ?_⟩
            intro q dq nq ndq neq
            refine ⟨q, dq, sy, many, ms, rfl, upd_same, (hS.same s23).same (mk_same0 nq ndq), ok, fun H4 k4 D4 => ⟨rfl, ?_⟩⟩
            have s4 : Same H3 H4 := mk_same nq ndq k4
            have q0 : H q = none := s23.free nq
            have hL4 := s4 _ _ hL3
            refine ⟨_, rfl, L, rfl, ⟨_, SqL.of hL4⟩, for_list (K := K) (a := L) (xs := cs.map V.int) (fun i σ H' => Same H3 H' ∧ DrAt K C D H' q sy many ms (cs.take i) ∧ ∃ v : Option V, σ = [some (.ref sy), some (.str t), some (.str line), some (.str (if true = true then ("\n" : Str) else Str.empty)), some (.str rest), some (.ref L), u, v, some (.ref q), none]) ⟨s4, by rw [List.take_zero]; exact D4, v, rfl⟩ (fun i σ H' _ g => SqL.of (g.1 _ _ hL3)) ?_ ?_⟩
            · rintro i x σ H5 hi ⟨s5, D5, v5, rfl⟩
              rw [List.getElem?_map] at hi
              obtain ⟨c, hc, rfl⟩ := Option.map_eq_some_iff.mp hi
              have cm := c1 c (List.mem_of_getElem? hc)
              have il := (List.getElem?_eq_some_iff.mp hc).1
              obtain ⟨dx5, ca5, la5, g5, _⟩ := id D5
              refine ⟨_, rfl, q, dx5, _, rfl, g5, dr_read, _, rfl, q, sy, many, ms, cs.take i, c, rfl, D5, ok, fun d hd => c1 d (List.mem_of_mem_take hd), cm.1, cm.2, by rw [List.length_take]; omega, fun H6 k6 D6 => ⟨fun b o e => k6 b o (ne_of_none e nq) (s5 b o e), ?_, _, rfl⟩⟩
              rw [List.take_add_one, hc]
              exact D6
            · rintro σ H5 ⟨s5, D5, v5, rfl⟩
              rw [List.length_map, List.take_length] at D5
              exact ⟨_, rfl, kQ q cs H5 hb (s23.trans s5) q0 D5 c1 c2⟩
          · rw [if_neg (by rintro ⟨_, z⟩; exact re (ext_tl z)), lenw] at hb
            rw [decide_eq_false re]
            exact iteT ⟨_, rfl, L, _, rfl, .inl (SqL.of hL3), raise _ H3 _ hb s23 rfl⟩
end
end Law

namespace Law
open PySem L2 TL
theorem atI_natN {xs : List Nat} {i : Nat} {x : Nat} (h : xs[i]? = some x) : atI xs ((i : Nat) : Int) = some x := by
  unfold atI
  rw [Evl.ixN_nat (List.getElem?_eq_some_iff.mp h).1]
  exact h
def fwV : Option Nat → V
  | some i => .int (i : Int)
  | none => .non
theorem inV_strs (x : Str) (xs : List Str) : inV (V.str x) (xs.map V.str) = decide (x ∈ xs) := by
  unfold inV
  rw [List.any_map]
  by_cases h : x ∈ xs
  · rw [decide_eq_true h, List.any_eq_true]
    exact ⟨x, h, by show (x == x) = true; exact beq_self_eq_true x⟩
  · rw [decide_eq_false h, List.any_eq_false]
    intro y hy e
    have e : (y == x) = true := e
    rw [beq_iff_eq] at e
    exact h (e ▸ hy)
def namesL (n : Nat) : List Str := (List.range n).map fun k => Str.ofString (toString ((k : Nat) : Int))
theorem mem_names {n : Nat} {w : Str} : decide (w ∈ namesL n) = goodW n (tl w) := by
  by_cases g : goodW n (tl w) = true
  · obtain ⟨k, k1, k2⟩ := goodW_iff.mp g
    rw [g]
    exact decide_eq_true (List.mem_map.mpr ⟨k, List.mem_range.mpr k1, ext_tl ((tl_num k).trans k2.symm)⟩)
  · rw [Bool.eq_false_iff.mpr g]
    refine decide_eq_false fun h => g ?_
    obtain ⟨k, k1, rfl⟩ := List.mem_map.mp h
    exact goodW_iff.mpr ⟨k, List.mem_range.mp k1, tl_num k⟩
theorem flat_strs (xs : List Str) : (xs.map V.str).all flatV = true := by
  rw [List.all_eq_true]
  intro x hx
  obtain ⟨y, _, rfl⟩ := List.mem_map.mp hx
  rfl
section
variable {P : Program} {w : World} {K : PySem.W.Frag} {mg : Str → Option Value} {base : Heap}
def spFW (K : PySem.W.Frag) : Sp := fun vs H Q _ => ∃ (wd : Addr) (t : Str) (many : Nat) (Ls : List (List Int)) (ws : List Int), vs = [.ref wd, .str t] ∧ WAt K H wd many Ls ws ∧ Ls.length ≤ 24 ∧ t.length ≤ 4000 ∧ ∀ H', Same H H' → Q (fwV (badF Ls.length (tl t))) H'
abbrev nLawFirstWrong : List Str := ["world", "text", "line", "rest", "at", "words", "names", "number", "move"]
theorem scLawFirstWrong : FnScope nLawFirstWrong ["world", "text"] (defScope s_law_first_wrong) := ⟨rfl, rfl, rfl, by decide +kernel, rfl, by decide +kernel, by decide +kernel⟩
theorem ok_first_wrong {f : Addr} {fd : FuncData} (F : Fun K "_law_first_wrong" "_law_first_wrong" s_law_first_wrong f fd) (T : NmA mg) : FnOk P w K mg base CX0 1 f fd ["world", "text"] (spFW K) := by
  refine F.ok scLawFirstWrong (fun vs H Q E h => ?_) (fun cdv A' outer s H vs Q E hr h => ?_)
  · obtain ⟨wd, t, many, Ls, ws, rfl, _⟩ := h
    rfl
  · obtain ⟨wd, t, many, Ls, ws, rfl, hW, l24, l4, k⟩ := h
    have hu := hu_of hr
    refine ⟨_, pss_cons (ps_par (i := 2) (j := 3) (by rfl) scLawFirstWrong.nd rfl rfl (by decide) rfl rfl (pa_cons (pv 1) (pa_cons pe_non pa_nil)) (by rfl))
      (Evl.pss_cut (ps_if (pt_cmpR op_in_sign pe_str (pv 1) (by rfl))
        (pss_cons (ps_set (i := 4) scLawFirstWrong.nd rfl (Or.inl rfl) (pe_m1 PySem.F.slot_str_find PySem.F.type_str_find mt_find (pv 1) pe_str))
        (pss_one (ps_par (i := 2) (j := 3) (by rfl) scLawFirstWrong.nd rfl rfl (by decide) rfl rfl (pa_cons (pe_slice sl_str (pv 1) po_none (po_some (pv 4))) (pa_cons (pe_slice sl_str (pv 1) (po_some (pe_op op_add (pv 4) pe_int)) po_none) pa_nil)) (by rfl)))) pss_nil)
      (Evl.pss_cut (ps_set (i := 5) scLawFirstWrong.nd rfl (Or.inl rfl) (pe_ifExp (pt_cmpR op_gt (pe_callB call_len_str (by rfl) T.len PySem.boot_len (pa_cons (pv 2) pa_nil)) pe_int (nomark _)) (pe_m1 PySem.F.slot_str_split PySem.F.type_str_split mt_split (pv 2) pe_str) (pe_lst pa_nil)))
      (pss_cons (ps_setLc (i := 6) (own := [("move", 8)]) (g := (gName 8)) (tt := tYes) (by rfl) scLawFirstWrong.nd rfl rfl (sw_true rfl rfl rfl (by decide +kernel)) (pi_range1 (by rfl) T.range (pa_cons (pe_callB call_len_seq (by rfl) T.len PySem.boot_len (pa_cons (pe_dget hu (pv 0) pe_str (fun _ _ => rfl)) pa_nil)) pa_nil)) (blkOk_by (own := [("move", 8)]) (N := nLawFirstWrong) (sc := defScope s_law_first_wrong) (by decide +kernel)) (fun _ _ _ _ _ => (pg_name (i := 8) scLawFirstWrong.nd rfl (Or.inl rfl))) (fun _ _ _ _ _ => pts_nil) (fun _ _ _ _ _ => (pe_callTy call_str_int (by rfl) T.str (by decide +kernel) (pa_cons (pv 8) pa_nil))))
      (pss_cons (ps_for PassesOwn.never rfl (pi_range1 (by rfl) T.range (pa_cons (pe_callB call_len_seq (by rfl) T.len PySem.boot_len (pa_cons (pv 5) pa_nil)) pa_nil)) (pg_name (i := 7) scLawFirstWrong.nd rfl (Or.inl rfl))
        (pss_one (ps_if (pt_cmpR op_notIn_seq (pe_ix ix_list (pv 5) (pv 7) (fun _ _ => rfl)) (pv 6) (by rfl))
          (pss_one (ps_ret (pv 7))) pss_nil)))
      (pss_one (ps_ret (pe_ifExp (pt_cmpR op_eq (pv 3) pe_str (nomark _)) pe_non (pe_callB call_len_seq (by rfl) T.len PySem.boot_len (pa_cons (pv 5) pa_nil))))))))), ?_⟩
    obtain ⟨la, wa, vs, hwd, hla, hTs, _⟩ := id hW
    have vl := hTs.1
    have tz : t.length ≤ sizeLine := by rw [sizeLine_eq]; omega
    have lt := len_tl t
    have e_emp : ("" : Str) = Str.empty := ext_tl (by decide +kernel)
    refine ⟨_, rfl, _, _, rfl, ?_⟩
    refine ⟨fun σ' H' => Same H H' ∧ ∃ (line : Str) (rest : V) (u4 : Option V), σ' = [some (.ref wd), some (.str t), some (.str line), some rest, u4, none, none, none, none] ∧ tl line = (cutL (tl t)).1 ∧ line.length ≤ 4000 ∧ ((rest = .non ∧ (cutL (tl t)).2.1 = false) ∨ ∃ r, rest = .str r ∧ (cutL (tl t)).2.1 = true ∧ tl r = (cutL (tl t)).2.2), ?_, ?_⟩
    · refine ⟨_, rfl, 10, t, congrArg V.str nl_is, rfl, _, rfl, ?_⟩
      by_cases m : 10 ∈ tl t
      · rw [decide_eq_true m]
        obtain ⟨a, b, e1, e2⟩ := first_of m
        have fe : Txt.find t ("\n" : Str) = (a.length : Int) := by rw [nl_is]; exact find_at e1 e2
        have ec := cutL_at e1 e2
        refine iteT ⟨_, rfl, ⟨_, rfl⟩, t, _, rfl, rfl, ?_⟩
        rw [fe]
        have ta : tl (cutS t none (some (a.length : Int))) = a := by rw [tl_cutS_to, e1, List.take_left]
        have tb : tl (cutS t (some (((a.length + 1 : Nat) : Nat) : Int)) none) = b := by
          rw [tl_cutS_from, e1, show a ++ 10 :: b = (a ++ [10]) ++ b by rw [List.append_assoc] <;> rfl, show a.length + 1 = (a ++ [10]).length by rw [List.length_append] <;> rfl, List.drop_left]
        refine ⟨_, rfl, ?_⟩
        refine ⟨_, rfl, _, rfl, t, rfl, tz, _, rfl, _, rfl, _, _, rfl, rfl, _, rfl, ?_⟩
        refine ⟨t, rfl, tz, _, _, rfl, Same.refl H, _, _, _, rfl, ?_, ?_, .inr ⟨_, rfl, ?_, ?_⟩⟩
        · rw [ec, ta]
        · rw [len_tl, ta]
          have := congrArg List.length e1
          rw [List.length_append] at this
          omega
        · rw [ec]
        · rw [ec]
          exact tb
      · rw [decide_eq_false m]
        have ec := cutL_no m
        exact iteF ⟨Same.refl H, t, _, _, rfl, by rw [ec], l4, .inl ⟨rfl, by rw [ec]⟩⟩
    · rintro σ' H1 ⟨s1, line, rest, u4, rfl, hl, ll, hrest⟩
      have lz : line.length ≤ sizeLine := by rw [sizeLine_eq]; omega
      have lll := len_tl line
      refine ⟨fun σ' H' => ∃ (ws' : List Str) (L : Addr), σ' = [some (.ref wd), some (.str t), some (.str line), some rest, u4, some (.ref L), none, none, none] ∧ ws'.map tl = wdsOf (tl line) ∧ Same H H' ∧ H' L = some (.lst (ws'.map V.str)), ?_, ?_⟩
      · refine ⟨_, rfl, line, rfl, lz, _, _, rfl, rfl, _, rfl, ?_⟩
        by_cases tn : tl line = []
        · rw [decide_eq_false (show ¬ ((line.length : Nat) : Int) > 0 by rw [lll, tn]; decide)]
          refine iteF ⟨by show 0 ≤ sizeLine; decide, fun L hL => ⟨[], L, rfl, ?_, s1.trans (Same.new hL), upd_same⟩⟩
          unfold wdsOf
          rw [if_pos tn] <;> rfl
        · have pos := List.length_pos_iff.mpr tn
          rw [decide_eq_true (show ((line.length : Nat) : Int) > 0 by omega)]
          have spl : (Txt.split line (" " : Str)).map tl = wdsOf (tl line) := by
            rw [split_spl line _ (by rw [one_sp]; simp) (kind_ok (by decide +kernel)), one_sp]
            unfold wdsOf
            rw [if_neg tn]
          exact iteT ⟨_, rfl, ⟨_, rfl⟩, line, _, rfl, rfl, by decide +kernel, by rw [sizeLine_eq]; omega, fun L hL => ⟨_, L, rfl, spl, s1.trans (Same.new hL), upd_same⟩⟩
      · rintro σ' H2 ⟨ws', L, rfl, hws, s2, hL⟩
        have wl4 : ws'.length ≤ 4001 := by
          have z := cnt_joinL 32 (wdsOf (tl line))
          rw [wds_join, ← len_tl, ← hws, List.length_map] at z
          omega
        have hb : badF Ls.length (tl t) = match firstBad Ls.length (ws'.map tl) with
            | some i => some i
            | none => if (cutL (tl t)).2.1 = true ∧ (cutL (tl t)).2.2 = [] then none else some ws'.length := by
          unfold badF
          rw [← hl, ← hws, List.length_map] <;> rfl
        -- names
        refine ⟨_, rfl, wd, _, rfl, gw_leads (s2 _ _ hwd), la, _, rfl, .inl (SqL.of (s2 _ _ hla)), ((vs.length : Nat) : Int), rfl, by omega, by omega, fun N hN => ?_⟩
        refine lc_range (lo := 0) (n := vs.length) (fun j H' => Same H2 H' ∧ H' N = some (.lst ((namesL j).map V.str))) ⟨Same.new hN, upd_same⟩ (fun j H3 hj g => ?_) fun H3 g => ?_
        · obtain ⟨s3, g3⟩ := g
          refine ⟨rfl, _, rfl, 0 + (j : Int), rfl, logn (Nat.lt_trans (show (0 + (j : Int)).natAbs < 24 by omega) (by decide)), _, g3, ?_, s3.mut hN, ?_⟩
          · unfold namesL
            rw [List.length_map, List.length_map, List.length_range]
            exact small1000 (by omega)
          · rw [upd_same, Int.zero_add]
            unfold namesL
            rw [List.range_succ, List.map_append, List.map_append] <;> rfl
        · obtain ⟨s3, gN⟩ := g
          rw [vl] at gN
          have s23 := s2.trans s3
          have hL3 := s3 _ _ hL
          have ln : (ws'.map V.str).length = ws'.length := List.length_map _
          refine ⟨_, rfl, L, _, rfl, .inl (SqL.of hL3), (((ws'.map V.str).length : Nat) : Int), rfl, by omega, by omega, ?_⟩
          rw [Int.toNat_natCast, ln]
          refine for_range (lo := 0) (n := ws'.length) (fun i σ H' => H' = H3 ∧ (∀ j u, j < i → ws'[j]? = some u → goodW Ls.length (tl u) = true) ∧ ∃ u : Option V, σ = [some (.ref wd), some (.str t), some (.str line), some rest, u4, some (.ref L), some (.ref N), u, none]) ⟨rfl, fun j u hj => absurd hj (Nat.not_lt_zero _), none, rfl⟩ ?_ ?_
          · rintro i σ H' hi ⟨rfl, gd, u, rfl⟩
            have hw : ws'[i]? = some ws'[i] := List.getElem?_eq_getElem hi
            refine ⟨_, rfl, _, rfl, L, _, _, .str ws'[i], rfl, rfl, SqL.of hL3, by rw [Int.zero_add]; exact atI_nat (by rw [List.getElem?_map, hw] <;> rfl), _, rfl, N, _, rfl, .inl (SqL.of gN), rfl, flat_strs _, _, rfl, ?_⟩
            rw [inV_strs, mem_names]
            cases g : goodW Ls.length (tl ws'[i]) with
            | true =>
              refine iteF ⟨rfl, fun j u hj hu => ?_, _, rfl⟩
              by_cases z : j < i
              · exact gd j u z hu
              · rw [show j = i by omega, hw] at hu
                rw [← Option.some.inj hu]
                exact g
            | false =>
              have fb : firstBad Ls.length (ws'.map tl) = some i := by
                refine firstBad_some (fun j hj => ?_) ⟨tl ws'[i], by rw [List.getElem?_map, hw] <;> rfl, g⟩
                have jl : j < ws'.length := Nat.lt_trans hj hi
                exact ⟨tl ws'[j], by rw [List.getElem?_map, List.getElem?_eq_getElem jl] <;> rfl, gd j _ hj (List.getElem?_eq_getElem jl)⟩
              rw [fb] at hb
              have z := k _ s23
              rw [hb] at z
              refine iteT ⟨_, rfl, ?_⟩
              rw [Int.zero_add]
              exact z
          · rintro σ H' ⟨rfl, gd, u, rfl⟩
            have allg : ∀ w ∈ ws'.map tl, goodW Ls.length w = true := fun w hw => by
              obtain ⟨u0, hu0, rfl⟩ := List.mem_map.mp hw
              obtain ⟨j, hj⟩ := List.getElem?_of_mem hu0
              exact gd j u0 (List.getElem?_eq_some_iff.mp hj).1 hj
            rw [firstBad_none.mpr allg] at hb
            change badF Ls.length (tl t) = (if (cutL (tl t)).2.1 = true ∧ (cutL (tl t)).2.2 = [] then none else some ws'.length) at hb
            have z := k _ s23
            refine ⟨_, rfl, by rcases hrest with ⟨rfl, _⟩ | ⟨r, rfl, _⟩ <;> rfl, _, rfl, ?_⟩
            have other : ¬ ((cutL (tl t)).2.1 = true ∧ (cutL (tl t)).2.2 = []) → ∀ c : Bool, c = false → (if c = true then Q .non H' else ∃ v, [some (V.ref wd), some (.str t), some (.str line), some rest, u4, some (.ref L), some (.ref N), u, none][5]? = some (some v) ∧ ∃ p ys, [v] = [.ref p] ∧ (SqL K H' p ys ∨ SqT K H' p ys) ∧ Q (.int ((ys.length : Nat) : Int)) H') := fun h c hc => by
              rw [if_neg h] at hb
              rw [hb] at z
              subst hc
              exact iteF ⟨_, rfl, L, _, rfl, .inl (SqL.of hL3), by rw [ln]; exact z⟩
            rcases hrest with ⟨rfl, e⟩ | ⟨r, rfl, e1, e2⟩
            · exact other (by rintro ⟨q, _⟩; rw [e] at q; cases q) _ (decide_eq_false fun q => by cases q)
            · rw [dec_str, e_emp]
              by_cases re : r = Str.empty
              · rw [if_pos ⟨e1, by rw [← e2, re] <;> rfl⟩] at hb
                rw [hb] at z
                rw [decide_eq_true re]
                exact iteT z
              · exact other (by rintro ⟨_, q⟩; exact re (ext_tl (e2.trans q))) _ (decide_eq_false re)
def spBent (K : PySem.W.Frag) : Sp := fun vs H Q _ => ∃ (p wd : Addr) (t : Str) (many : Nat) (Ls : List (List Int)) (ws : List Int), vs = [.ref p, .ref wd, .str t] ∧ HandAt H p ∧ WAt K H wd many Ls ws ∧ Ls.length ≤ 24 ∧ t.length ≤ 200 ∧ ∀ (t' : Str) H', Stp p H H' → t'.length ≤ 800 → Q (.str t') H'
abbrev nLawBent : List Str := ["hand", "world", "text", "signs", "turn", "at", "sign", "some"]
theorem scLawBent : FnScope nLawBent ["hand", "world", "text"] (defScope s_law_bent) := ⟨rfl, rfl, rfl, by decide +kernel, rfl, by decide +kernel, by decide +kernel⟩
theorem ok_bent {f : Addr} {fd : FuncData} {fA : Addr} {fdA : FuncData} {fD : Addr} {fdD : FuncData} (F : Fun K "_law_bent" "_law_bent" s_law_bent f fd) (T : NmA mg) (A : Cl P w K mg base CX0 2 "_law_any" fA fdA ["hand", "things"] (spAny K)) (D : Cl P w K mg base CX0 1 "_law_draw" fD fdD ["hand", "many"] spDraw) : FnOk P w K mg base CX0 3 f fd ["hand", "world", "text"] (spBent K) := by
  refine F.ok scLawBent (fun vs H Q E h => ?_) (fun cdv A' outer s H vs Q E hr h => ?_)
  · obtain ⟨p, wd, t, many, Ls, ws, rfl, _⟩ := h
    rfl
  · obtain ⟨p, wd, t, many, Ls, ws, rfl, hH, hW, l24, l2, k⟩ := h
    have hu := hu_of hr
    refine ⟨_, pss_cons (ps_set (i := 3) scLawBent.nd rfl (Or.inl rfl) pe_str)
      (pss_cons (ps_for PassesOwn.never rfl (pi_range1 (by rfl) T.range (pa_cons (A.call (hr.mono (by decide)) (pa_cons (pv 0) (pa_cons (pe_lst (pa_cons pe_int (pa_cons pe_int (pa_cons pe_int (pa_cons pe_int pa_nil))))) pa_nil))) pa_nil)) (pg_name (i := 4) scLawBent.nd rfl (Or.inl rfl))
        (pss_cons (ps_par (i := 5) (j := 6) (by rfl) scLawBent.nd rfl rfl (by decide) rfl rfl (pa_cons (D.call (hr.mono (by decide)) (pa_cons (pv 0) (pa_cons (pe_op op_add (pe_callB call_len_str (by rfl) T.len PySem.boot_len (pa_cons (pv 2) pa_nil)) pe_int) pa_nil))) (pa_cons (pe_ix ix_str (pv 3) (D.call (hr.mono (by decide)) (pa_cons (pv 0) (pa_cons (pe_callB call_len_str (by rfl) T.len PySem.boot_len (pa_cons (pv 3) pa_nil)) pa_nil))) (fun _ _ => rfl)) pa_nil)) (by rfl))
        (pss_cons (ps_set (i := 7) scLawBent.nd rfl (Or.inl rfl) (pe_lst (pa_cons (pe_op op_add_str (pe_op op_add_str (pe_slice sl_str (pv 2) po_none (po_some (pv 5))) (pv 6)) (pe_slice sl_str (pv 2) (po_some (pv 5)) po_none)) (pa_cons (pe_op op_add_str (pe_slice sl_str (pv 2) po_none (po_some (pv 5))) (pe_slice sl_str (pv 2) (po_some (pe_op op_add (pv 5) pe_int)) po_none)) (pa_cons (pe_op op_add_str (pe_op op_add_str (pe_slice sl_str (pv 2) po_none (po_some (pv 5))) (pv 6)) (pe_slice sl_str (pv 2) (po_some (pe_op op_add (pv 5) pe_int)) po_none)) (pa_cons (pe_slice sl_str (pv 2) po_none (po_some (pe_un un_neg pe_int))) (pa_cons (pe_op op_add_str (pv 2) (pv 2)) pa_nil)))))))
        (pss_cons (ps_expr (pe_bm PySem.F.plainAttrs_list PySem.F.slot_list_extend PySem.F.type_list_extend mt_extend (pv 7) (pa_cons (pe_lst (pa_cons (pe_op op_add_str pe_str (pv 2)) (pa_cons (pe_op op_add_str (pe_slice sl_str (pv 2) po_none (po_some (pe_un un_neg pe_int))) pe_str) (pa_cons (pe_op op_add_str pe_str (pv 2)) (pa_cons (pe_op op_add_str (pe_op op_add_str (pe_callTy call_str_int (by rfl) T.str (by decide +kernel) (pa_cons (pe_callB call_len_seq (by rfl) T.len PySem.boot_len (pa_cons (pe_dget hu (pv 1) pe_str (fun _ _ => rfl)) pa_nil)) pa_nil)) pe_str) (pv 2)) (pa_cons (pe_slice sl_str (pv 2) po_none (po_some (pv 5))) pa_nil)))))) pa_nil)))
        (pss_one (ps_set (i := 2) scLawBent.nd rfl (Or.inl rfl) (A.call (hr.mono (by decide)) (pa_cons (pv 0) (pa_cons (pv 7) pa_nil)))))))))
      (pss_one (ps_ret (pv 2)))), ?_⟩
    have hsg : ("0123456789 \n-+.a" : Str).length = 16 := by decide +kernel
    generalize ("0123456789 \n-+.a" : Str) = sg at hsg ⊢
    have c_sp : (" " : Str).length = 1 := by decide +kernel
    have c_sn : (" \n" : Str).length = 2 := by decide +kernel
    have c_0 : ("0" : Str).length = 1 := by decide +kernel
    have sgz : sg.length ≤ sizeLine := by rw [sizeLine_eq]; omega
    refine ⟨_, rfl, by show 4 ≤ sizeLine; decide, fun q hq => ⟨p, q, _, rfl, .inl (SqL.of upd_same), by show 0 < 4; decide, by show 4 < _; decide, hH.same (Same.new hq), fun j1 x1 H1 hj1 S1 => ?_⟩⟩
    have ex1 : ∃ n : Nat, x1 = .int (n : Int) ∧ n ≤ 2 := by
      have hx := List.mem_of_getElem? hj1
      simp only [List.mem_cons, List.not_mem_nil, or_false] at hx
      rcases hx with rfl | rfl | rfl | rfl
      · exact ⟨0, rfl, by decide⟩
      · exact ⟨1, rfl, by decide⟩
      · exact ⟨1, rfl, by decide⟩
      · exact ⟨2, rfl, by decide⟩
    obtain ⟨n, rfl, n2⟩ := ex1
    have S01 : Stp p H H1 := S1.pre (Same.new hq)
    refine ⟨(n : Int), rfl, by omega, by omega, ?_⟩
    rw [Int.toNat_natCast]
    refine for_range (lo := 0) (n := n) (fun i σ H' => Stp p H H' ∧ ∃ (u : Str) (v4 v5 v6 v7 : Option V), σ = [some (.ref p), some (.ref wd), some (.str u), some (.str sg), v4, v5, v6, v7] ∧ u.length ≤ 200 * 2 ^ i) ⟨S01, t, none, none, none, none, rfl, by omega⟩ ?_ ?_
    · rintro i σ H2 hi ⟨S2, u, v4, v5, v6, v7, rfl, ul⟩
      have i1 : i ≤ 1 := by omega
      have pw : 2 ^ i ≤ 2 := by
        have := Nat.pow_le_pow_right (n := 2) (by decide) i1
        omega
      have p1 : 1 ≤ 2 ^ i := Nat.one_le_two_pow
      have u4 : u.length ≤ 400 := by omega
      have uz : u.length ≤ sizeLine := by rw [sizeLine_eq]; omega
      generalize hM : 200 * 2 ^ i = M at ul
      have M1 : 200 ≤ M := by omega
      have M4 : M ≤ 400 := by omega
      have M2 : 200 * 2 ^ (i + 1) = 2 * M := by rw [Nat.pow_succ]; omega
      refine ⟨_, rfl, _, rfl, u, rfl, uz, _, _, rfl, rfl, p, _, rfl, by omega, by omega, S2.hand, fun d H3 d0 d1 S3 => ?_⟩
      obtain ⟨a, rfl⟩ := Int.eq_ofNat_of_zero_le d0
      refine ⟨_, rfl, _, rfl, _, rfl, sg, rfl, sgz, p, _, rfl, by rw [hsg]; decide, by rw [hsg]; decide, S3.hand, fun e H4 e0 e1 S4 => ?_⟩
      have el : e.toNat < sg.cps.toList.length := by
        have := len_tl sg
        rw [hsg] at e1 this
        show e.toNat < (tl sg).length
        omega
      have ec : atI sg.cps.toList e = some (sg.cps.toList[e.toNat]) := by
        have z := atI_natN (List.getElem?_eq_getElem el)
        rw [show ((e.toNat : Nat) : Int) = e by omega] at z
        exact z
      refine ⟨_, _, _, rfl, rfl, sgz, ec, _, _, rfl, ?_⟩
      generalize hsign : (⟨#[sg.cps.toList[e.toNat]]⟩ : Str) = sign
      have sl1 : sign.length = 1 := by rw [← hsign] <;> rfl
      clear ec el hsign
      have S24 := (S2.trans S3).trans S4
      have ct : ∀ lo hi, (cutS u lo hi).length ≤ M := fun lo hi => Nat.le_trans (cutS_length _ _ _) ul
      have ap : ∀ x y : Str, (x ++ y).length = x.length + y.length := Str.length_append
      have fz : ∀ k : Nat, k ≤ 2000 → k ≤ sizeLine := fun k hk => by rw [sizeLine_eq]; omega
      have c1 := ct none (some (a : Int))
      have c2 := ct (some (a : Int)) none
      have c3 := ct (some ((a : Int) + 1)) none
      have c4 := ct none (some (-1))
      have k1 : (cutS u none (some (a : Int))).length + (cutS u (some (a : Int)) none).length = u.length := by
        rw [len_tl, len_tl (cutS u (some (a : Int)) none), tl_cutS_to, tl_cutS_from, len_tl u, List.length_take, List.length_drop]
        omega
      have k2 : (cutS u none (some (a : Int))).length + (cutS u (some ((a : Int) + 1)) none).length ≤ u.length := by
        have e : ((a : Int) + 1) = ((a + 1 : Nat) : Int) := by rw [Int.natCast_add] <;> rfl
        rw [e, len_tl, len_tl (cutS u (some ((a + 1 : Nat) : Int)) none), tl_cutS_to, tl_cutS_from, len_tl u, List.length_take, List.length_drop]
        omega
      refine ⟨_, rfl, _, rfl, _, rfl, u, rfl, uz, _, rfl, _, _, rfl, rfl, fz _ (by omega), _, rfl, _, rfl, _, rfl, u, rfl, uz, _, _, rfl, rfl, fz _ (by rw [ap]; omega), ?_⟩
      refine ⟨_, rfl, _, rfl, _, rfl, u, rfl, uz, _, rfl, _, rfl, _, _, rfl, rfl, _, rfl, u, rfl, uz, _, _, rfl, rfl, fz _ (by omega), ?_⟩
      refine ⟨_, rfl, _, rfl, _, rfl, u, rfl, uz, _, rfl, _, _, rfl, rfl, fz _ (by omega), _, rfl, _, rfl, _, _, rfl, rfl, _, rfl, u, rfl, uz, _, _, rfl, rfl, fz _ (by rw [ap]; omega), ?_⟩
      refine ⟨_, rfl, _, rfl, _, rfl, u, rfl, uz, _, rfl, _, rfl, _, _, rfl, rfl, fz _ (by omega), by show 5 ≤ sizeLine; decide, fun l hl => ?_⟩
      refine new_step hl fun H5 s5 e5 => ?_
      refine ⟨_, rfl, .inl ⟨rfl, _, SqL.of e5⟩, ?_⟩
      have W5 := (hW.kp S24.kp hH).same s5
      obtain ⟨la, wa, vs, hwd, hla, hTs, _⟩ := W5
      have vl := hTs.1
      have cn : (Str.ofString (toString ((vs.length : Nat) : Int))).length ≤ 2 := by
        rw [len_tl, tl_num]
        exact numL_len (by decide) (by show vs.length < 100; omega)
      refine ⟨_, rfl, _, _, rfl, rfl, fz _ (by omega), ?_⟩
      refine ⟨_, rfl, _, rfl, _, rfl, u, rfl, uz, _, _, rfl, rfl, fz _ (by omega), ?_⟩
      refine ⟨_, rfl, _, _, rfl, rfl, fz _ (by omega), ?_⟩
      refine ⟨_, rfl, wd, _, rfl, gw_leads hwd, la, _, rfl, .inl (SqL.of hla), _, rfl, logn (Nat.lt_trans (show (((vs.length : Nat)) : Int).natAbs < 100 by omega) (by decide)), ?_⟩
      refine ⟨_, _, rfl, rfl, fz _ (by omega), _, rfl, _, _, rfl, rfl, fz _ (by rw [ap]; omega), ?_⟩
      refine ⟨_, rfl, _, rfl, _, rfl, u, rfl, uz, by show 5 ≤ sizeLine; decide, fun l2 hl2 => ?_⟩
      refine new_step hl2 fun H6 s6 e6 => ?_
      have S46 : Stp p H H6 := (S24.post s5).post s6
      have l0 := S24.free hl
      refine ⟨l, l2, _, _, rfl, rfl, s6 _ _ e5, e6, by show 10 ≤ sizeLine; decide, ?_⟩
      have big : ∀ x ∈ ([V.str (cutS u none (some (a : Int)) ++ sign ++ cutS u (some (a : Int)) none), .str (cutS u none (some (a : Int)) ++ cutS u (some ((a : Int) + 1)) none), .str (cutS u none (some (a : Int)) ++ sign ++ cutS u (some ((a : Int) + 1)) none), .str (cutS u none (some (-1))), .str (u ++ u)] ++
          [V.str ((" " : Str) ++ u), .str (cutS u none (some (-1)) ++ (" \n" : Str)), .str (("0" : Str) ++ u), .str (Str.ofString (toString ((vs.length : Nat) : Int)) ++ (" " : Str) ++ u), .str (cutS u none (some (a : Int)))]), ∃ z : Str, x = .str z ∧ z.length ≤ 2 * M := fun x hx => by
        simp only [List.cons_append, List.nil_append, List.mem_cons, List.not_mem_nil, or_false] at hx
        rcases hx with rfl | rfl | rfl | rfl | rfl | rfl | rfl | rfl | rfl | rfl
        · exact ⟨_, rfl, by rw [ap, ap]; omega⟩
        · exact ⟨_, rfl, by rw [ap]; omega⟩
        · exact ⟨_, rfl, by rw [ap, ap]; omega⟩
        · exact ⟨_, rfl, by omega⟩
        · exact ⟨_, rfl, by rw [ap]; omega⟩
        · exact ⟨_, rfl, by rw [ap]; omega⟩
        · exact ⟨_, rfl, by rw [ap]; omega⟩
        · exact ⟨_, rfl, by rw [ap]; omega⟩
        · exact ⟨_, rfl, by rw [ap, ap]; omega⟩
        · exact ⟨_, rfl, by omega⟩
      refine ⟨_, rfl, _, rfl, p, l, _, rfl, .inl (SqL.of upd_same), by show 0 < 10; decide, by show 10 < _; decide, (Stp.mut hH S46 l0).hand, fun j x H7 hj S7 => ?_⟩
      obtain ⟨z, rfl, hz⟩ := big x (List.mem_of_getElem? hj)
      exact ⟨(Stp.mut hH S46 l0).trans S7, z, _, _, _, _, rfl, by rw [M2]; exact hz⟩
    · rintro σ H2 ⟨S2, u, v4, v5, v6, v7, rfl, ul⟩
      have pw : 2 ^ n ≤ 4 := by
        have := Nat.pow_le_pow_right (n := 2) (by decide) n2
        omega
      exact ⟨_, rfl, k u H2 S2 (by omega)⟩
end
end Law

namespace Law
open PySem L2
/-- the same as data -/
def resD (k : Nat) (e : List Int) : PyData := if (lotF e).length = 1 then .tuple [.str "told", .int ((lotF e).headD 0), .int (k : Int)] else .tuple [.str "undecided", tupD (lotF e), .int (k : Int)]
theorem dp_res {K : PySem.W.Frag} {H : Hp} {t : Addr} {k : Nat} {e : List Int} (h : ResAt K H t k e) : Dp K H (.ref t) (resD k e) := by
  unfold resD
  rcases h with ⟨a, b⟩ | ⟨a, l, b, c⟩
  · rw [if_pos a]
    exact .tup b (.cons (.str _) (.cons (.int _) (.cons (.int _) .nil)))
  · rw [if_neg a]
    exact .tup b (.cons (.str _) (.cons (.tup c (dp_ints _)) (.cons (.int _) .nil)))
theorem ok_tld : PyData.strOk (Str.ofString "told") = true := by decide +kernel
theorem ok_und : PyData.strOk (Str.ofString "undecided") = true := by decide +kernel
theorem lay_res (k : Nat) (e : List Int) : (resD k e).canLay0 = true ∧ (resD k e).depth ≤ 2 := by
  have h := lay_tupD (lotF e)
  unfold resD
  split
  · refine ⟨?_, ?_⟩
    · simp only [PyData.canLay0, PyData.canLayAll0, ok_tld, Bool.and_self]
    · simp only [PyData.depth, PyData.depthAll]
      omega
  · refine ⟨?_, ?_⟩
    · simp only [PyData.canLay0, PyData.canLayAll0, h.1, ok_und, Bool.and_self]
    · simp only [PyData.depth, PyData.depthAll]
      omega
theorem sh_res (k : Nat) (e : List Int) : SeqAt.shaped (resD k e) = true := shaped_of (lay_res k e) (by decide)
theorem eq_res (k : Nat) (e : List Int) : PyData.eqv (resD k e) (resD k e) = true := SeqAt.eqv_refl _ (lay_res k e).1
theorem lot_two {many : Nat} {Ls : List (List Int)} (ok : LdOk many Ls) {cs : List Int} (hc : CsOk Ls.length cs) (k : Nat) (h : (lotF (selF Ls many (upto many) cs k)).length ≠ 1) : 2 ≤ (lotF (selF Ls many (upto many) cs k)).length := by
  obtain ⟨si, sl⟩ := sel_in ok (upto_in many) hc k
  rw [upto_len] at sl
  have m1 := ok.m1
  have l0 : 0 < (selF Ls many (upto many) cs k).length := by omega
  have hm := (lot_mem (si.in12 ok.m2) _).mpr (List.getElem_mem l0)
  have := List.length_pos_of_mem hm
  omega
end Law
namespace L2
open PySem PySem.Spec PyProof.Rows
/-- a def that may raise, called by its name -/
structure ClX (P : Program) (w : World) (K : PySem.W.Frag) (mg : Str → Option Value) (base : Heap) (k : Nat) (x : Str) (f : Addr) (fd : FuncData) (ps : List Str) (sp : Sp) : Prop where
  ok : FnOk P w K mg base (L2.CX P w) k f fd ps sp
  b : Binds K fd ps []
  m : mg x = some (.ref f)
  kp : PySem.W.keepIn K (.ref f) = true
theorem ClX.callS {X : Cx} {W : WX} {k : Nat} {x : Str} {f : Addr} {fd : FuncData} {ps : List Str} {sp : Sp} {p pos : Pos} {e : Expr} {es : List Expr} {t : TA} (c : ClX X.prog X.w X.K X.mg X.base k x f fd ps sp) (hr : Room k X.A) (tk : Takes X W) (ha : PA X (e :: es) t) (hg : Gl X x := by rfl) (hdb : (x == ("__debug__" : Str)) = false := by decide)
    (he : starEach (e :: es) X.env = (false, eval e X.env) :: starEach es X.env := by rfl) (hpl : (backTo pos (starEach es X.env)).any (·.1) = false := by rfl) :
    PE X (.Call (.Name x p) (e :: es) [] pos) (tCallS sp (WE W) t) := pe_callS c.ok hr hg c.m c.kp c.b (fun σ => passAt tk σ) ha hdb he hpl
end L2
namespace Law
open PySem L2 TL
def tbRd (sp : Sp) (W : WX) : TS := tAsg (tTup (tCons (tC (.str "told")) (tCons (tCallS sp (WE W) (tCons (tVar 0) (tCons (tVar 1) tNil))) tNil))) (gName 2)
def tsRd (K : PySem.W.Frag) (B a : Addr) (cls : Value) (d : Option Addr) : TS :=
  tAsg (tTup (tCons (tC (.str "refused")) (tCons (tIf (tAnd (tB (tCB (rIsS K a cls d) (tCons (tVar 3) (tCons (tC (.ref B)) tNil)))) (tB (tCB (rIsS K a cls d) (tCons (tVar 3) (tCons (tC (.ty "ValueError")) tNil))))) (tXs K a cls d "number" (tVar 3)) (tC .non)) tNil))) (gName 2)
def stD (o : Option Nat) (e : List Int) : PyData := match o with
  | some _ => .int (e.getD 0 0)
  | none => .none
def dpD : Option Nat → PyData
  | some k => .int (k : Int)
  | none => .none
theorem dp_st {K : PySem.W.Frag} {H : Hp} (o : Option Nat) (e : List Int) : Dp K H (stV o e) (stD o e) := by
  cases o with
  | none => exact .non
  | some k => exact .int _
theorem dp_dp {K : PySem.W.Frag} {H : Hp} (o : Option Nat) : Dp K H (dpV o) (dpD o) := by
  cases o with
  | none => exact .non
  | some k => exact .int _
def twoD (o : Option Nat) (e : List Int) : PyData := .tuple [stD o e, dpD o]
theorem lay_two (o : Option Nat) (e : List Int) : (twoD o e).canLay0 = true ∧ (twoD o e).depth ≤ 1 := by
  unfold twoD stD dpD
  cases o <;> exact ⟨by simp only [PyData.canLay0, PyData.canLayAll0, Bool.and_self], by simp only [PyData.depth, PyData.depthAll]; omega⟩
theorem join_tl {n : Nat} {cs : List Int} (cok : CsOk n cs) : tl (Txt.join (" " : Str) (cs.map fun c => Str.ofString (toString c)) ++ ("\n" : Str)) = txtF cs := by
  rw [tl_append, join_eq, tl_join, one_sp, one_nl, List.map_map]
  unfold txtF
  exact congrArg (fun z => joinL [32] z ++ [10]) (List.map_congr_left fun c hc => tl_str (cok c hc).1)
theorem join_fit {n : Nat} {cs : List Int} (hn : n ≤ 1000) (cok : CsOk n cs) (l4 : cs.length ≤ 400) : (((cs.map fun c => Str.ofString (toString c)).map (·.length)).sum + (cs.map fun c => Str.ofString (toString c)).length * (" " : Str).length ≤ 16777216) ∧ (Txt.join (" " : Str) (cs.map fun c => Str.ofString (toString c))).length + ("\n" : Str).length ≤ sizeLine := by
  have l3 := len_num hn cok
  have ll : ∀ y ∈ (cs.map fun c => Str.ofString (toString c)).map (·.length), y ≤ 3 := fun y hy => by
    obtain ⟨z, hz, rfl⟩ := List.mem_map.mp hy
    obtain ⟨c, hc, rfl⟩ := List.mem_map.mp hz
    rw [len_tl, tl_str (cok c hc).1]
    exact l3 c hc
  have sl := natsum_le _ ll
  rw [List.length_map, List.length_map] at sl
  have sp1 : (" " : Str).length = 1 := by rw [len_tl, one_sp] <;> rfl
  refine ⟨by rw [List.length_map, sp1]; omega, ?_⟩
  have le := congrArg List.length (join_tl cok)
  rw [tl_append, List.length_append, ← len_tl, ← len_tl] at le
  have lj := len_joinL (cs.map fun c => numL c.toNat) 3 fun p hp => by
    obtain ⟨c, hc, rfl⟩ := List.mem_map.mp hp
    exact l3 c hc
  rw [List.length_map] at lj
  unfold txtF at le
  rw [List.length_append] at le
  have : ([10] : List Nat).length = 1 := rfl
  rw [sizeLine_eq]
  omega
theorem told_is {many : Nat} {Ls : List (List Int)} (ok : LdOk many Ls) {cs : List Int} (hc : CsOk Ls.length cs) {k : Nat} (h : dpF Ls many cs = some k) : (lotF (selF Ls many (upto many) cs k)).headD 0 = (endsF Ls many cs).getD 0 0 := by
  obtain ⟨h1, h2, _⟩ := dp_some h
  have e := one_stays ok hc h1 h2
  have c1 : (lotF (selF Ls many (upto many) cs k)).length = 1 := of_decide_eq_true h2
  rw [← e] at c1 ⊢
  rw [sel_all ok hc, List.take_length] at c1 ⊢
  obtain ⟨el, ein⟩ := ends_ok ok hc
  obtain ⟨z, e1, e2, _⟩ := lot_one (ein.in12 ok.m2) c1
  have m1 := ok.m1
  have hl : 0 < (endsF Ls many cs).length := by omega
  rw [e1, getD_of hl, e2 _ (List.getElem_mem hl)] <;> rfl
def refD (i : Nat) : PyData := .tuple [.str "refused", .int (i : Int)]
theorem lay_ref (i : Nat) : (refD i).canLay0 = true ∧ (refD i).depth ≤ 1 := by
  have h : PyData.strOk (Str.ofString "refused") = true := by decide +kernel
  unfold refD
  exact ⟨by simp only [PyData.canLay0, PyData.canLayAll0, h, Bool.and_self], by simp only [PyData.depth, PyData.depthAll]; omega⟩
theorem bad_none {n : Nat} {l : List Nat} (h : badF n l = none) : l = (cutL l).1 ++ [10] ∧ ∀ w ∈ wdsOf (cutL l).1, goodW n w = true := by
  unfold badF at h
  cases hb : firstBad n (wdsOf (cutL l).1) with
  | some i => rw [hb] at h; cases h
  | none =>
    rw [hb] at h
    refine ⟨?_, firstBad_none.mp hb⟩
    have hc : (cutL l).2.1 = true ∧ (cutL l).2.2 = [] := by
      by_cases z : (cutL l).2.1 = true ∧ (cutL l).2.2 = []
      · exact z
      · change (if _ then _ else _) = none at h
        rw [if_neg z] at h
        cases h
    by_cases m : 10 ∈ l
    · obtain ⟨a, b, e1, e2⟩ := first_of m
      rw [cutL_at e1 e2] at hc ⊢
      have : b = [] := hc.2
      rw [e1, this]
    · rw [cutL_no m] at hc
      cases hc.1
section
variable {P : Program} {w : World} {K : PySem.W.Frag} {mg : Str → Option Value} {base : Heap}
def spRd (K : PySem.W.Frag) (C D : Addr) : Sp := fun vs H Q _ => ∃ (sy : Addr) (t : Str) (many : Nat) (ms : List Mv), vs = [.ref sy, .str t] ∧ SysAt K C H sy many ms ∧ LdOk many (ldsOf ms) ∧ ms.length ≤ 24 ∧ t.length ≤ 4000 ∧ (badF ms.length (tl t) = none → (wdsOf (cutL (tl t)).1).length ≤ 400) ∧
  (∀ (i : Nat) (a : Addr) H', badF ms.length (tl t) = some i → Same H H' → SqT K H' a [.str "refused", .int (i : Int)] → Q (.ref a) H') ∧
  (∀ a q cs H', badF ms.length (tl t) = none → Same H H' → SqT K H' a [.str "told", .ref q] → DrAt K C D H' q sy many ms cs → CsOk ms.length cs → wdsOf (cutL (tl t)).1 = (cs.map fun c => numL c.toNat) → Q (.ref a) H')
abbrev nLawRead : List Str := ["system", "text", "found", "e"]
theorem scLawRead : FnScope nLawRead ["system", "text"] (defScope s_law_read) := ⟨rfl, rfl, rfl, by decide +kernel, rfl, by decide +kernel, by decide +kernel⟩
theorem ok_read {f : Addr} {fd : FuncData} {fcDrOf : Addr} {fdcDrOf : FuncData} {C D B G : Addr} (F : Fun K "_law_read" "_law_read" s_law_read f fd) (T : NmA mg) (cDrOf : ClX P w K mg base 4 "drawer_of" fcDrOf fdcDrOf ["system", "text"] (spDrawerOf K C D B)) (eBC : Er1 P w K mg base "BadCoin" B "number") (hve : mg "ValueError" = none) (hG : mg "DrawError" = some (.ref G)) (hx : PySem.W.exmOne K (.ref B) (.ref G) = some true) (kV : PySem.W.kitOne K (.ref B) (.type "ValueError") = some true) : FnOk P w K mg base CX0 5 f fd ["system", "text"] (spRd K C D) := by
  refine F.ok scLawRead (fun vs H Q E h => ?_) (fun cdv A' outer s H vs Q E hr h => ?_)
  · obtain ⟨sy, t, many, ms, rfl, _⟩ := h
    rfl
  · obtain ⟨sy, t, many, ms, rfl, hS, ok, l24, l4, w4, kE, kQ⟩ := h
    refine ⟨_, pss_cons (ps_set (i := 2) scLawRead.nd rfl (Or.inl rfl) (pe_tup (pa_cons pe_str (pa_cons pe_non pa_nil))))
      (pss_cons (ps_try_as (i := 3) (c := .ref G) (tb := tbRd (spDrawerOf K C D B)) (ts := tsRd K B) (Wout := fun _ _ _ _ => False) rfl rfl scLawRead.nd rfl rfl ⟨rfl, by decide, .inl hG⟩ takes0
        (fun W pn xe tk _ => pss_one (ps_set (i := 2) scLawRead.nd rfl (Or.inl rfl) (pe_tup (pa_cons pe_str (pa_cons (cDrOf.callS (hr.mono (by decide)) tk (pa_cons (pv 0) (pa_cons (pv 1) pa_nil))) pa_nil)))))
        (fun a oe cls d pn hz hf => pss_one (ps_set (i := 2) scLawRead.nd rfl (Or.inl rfl) (pe_tup (pa_cons pe_str (pa_cons (pe_ifExp (PW.pt (pw_and (pt_val (pe_callB (call_isS hz hf) (by rfl) T.isi (by decide +kernel) (pa_cons (pv 3) (pa_cons (pe_glob (v := .ref B) (u := .ref B) rfl eBC.m rfl) pa_nil))))
          (pw_and1 (pt_val (pe_callB (call_isS hz hf) (by rfl) T.isi (by decide +kernel) (pa_cons (pv 3) (pa_cons (pe_bltn (v := .ty "ValueError") (u := .type "ValueError") (by rfl) hve (by decide +kernel) rfl) pa_nil))))))) (pe_xs hz hf (pv 3)) pe_non) pa_nil))))))
      (pss_one (ps_ret (pv 2)))), ?_⟩
    refine ⟨by show 2 ≤ sizeLine; decide, fun z hz => ?_⟩
    refine new_step hz fun H1 s1 _ => ?_
    refine ⟨_, rfl, _, rfl, sy, t, many, ms, rfl, hS.same s1, ok, l24, l4, w4, fun i d H2 hb s2 hd hx2 => ?_, fun q cs H2 hb s2 hq hD cok hw => ?_⟩
    · refine ⟨true, hx, fun _ a ha => ?_, fun q => nomatch q⟩
      refine ⟨_, rfl, B, d, _, .ref B, .ref B, true, rfl, rfl, eBC.T, rfl, hx2, .own _, kit_self (by simp), _, rfl, iteT ?_⟩
      refine ⟨_, rfl, B, d, _, .ty "ValueError", .type "ValueError", true, rfl, rfl, eBC.T, rfl, hx2, .ty _, kV, _, rfl, iteT ?_⟩
      refine ⟨_, rfl, rfl, B, d, _, _, rfl, eBC.T, eBC.no, rfl, hx2, lk_hit, by show 2 ≤ sizeLine; decide, fun r hr2 => ?_⟩
      exact ⟨_, rfl, kE i r _ hb ((s1.trans s2).trans (Same.new hr2)) (SqT.of upd_same)⟩
    · refine ⟨by show 2 ≤ sizeLine; decide, fun r hr2 => ?_⟩
      exact ⟨_, rfl, kQ r q cs _ hb ((s1.trans s2).trans (Same.new hr2)) (SqT.of upd_same) (hD.same (Same.new hr2)) cok hw⟩
def spStands (K : PySem.W.Frag) (C D : Addr) : Sp := fun vs H Q _ => ∃ (q wd ca sy : Addr) (many : Nat) (Ls : List (List Int)) (ws cs : List Int), vs = [.ref q, .ref wd, .ref ca] ∧ DrAt K C D H q sy many (movesF Ls ws) cs ∧ WAt K H wd many Ls ws ∧ WOk many Ls ws ∧ SqT K H ca (cs.map V.int) ∧ CsOk Ls.length cs ∧ cs.length ≤ 400 ∧ ∀ H', Same H H' → Q (.bl true) H'
abbrev nLawStands : List Str := ["drawer", "world", "coins", "due", "lot", "told", "coin"]
theorem scLawStands : FnScope nLawStands ["drawer", "world", "coins"] (defScope s_law_stands) := ⟨rfl, rfl, rfl, by decide +kernel, rfl, by decide +kernel, by decide +kernel⟩
theorem ok_stands {f : Addr} {fd : FuncData} {fcDrawnL : Addr} {fdcDrawnL : FuncData} {fcLawLot : Addr} {fdcLawLot : FuncData} {fcLawBehind : Addr} {fdcLawBehind : FuncData} {fmCoins : Addr} {fdmCoins : FuncData} {fmLot : Addr} {fdmLot : FuncData} {fmState : Addr} {fdmState : FuncData} {fmDepth : Addr} {fdmDepth : FuncData} {fcText : Addr} {fdcText : FuncData} {C D : Addr} (F : Fun K "_law_stands" "_law_stands" s_law_stands f fd) (T : NmA mg) (cDrawnL : Cl P w K mg base CX0 2 "_law_drawn" fcDrawnL fdcDrawnL ["world", "coins", "plan"] (spDrawnL K)) (cLawLot : Cl P w K mg base CX0 1 "_law_lot" fcLawLot fdcLawLot ["states"] (spLotOf K)) (cLawBehind : Cl P w K mg base CX0 1 "_law_behind" fcLawBehind fdcLawBehind ["world", "row"] (spBehind K)) (mCoins : Ml P w K mg base 1 D "coins" fmCoins fdmCoins ["self"] (spCoinsM D)) (mLot : Ml P w K mg base 2 D "lot" fmLot fdmLot ["self"] (spLotM D K)) (mState : Ml P w K mg base 1 D "state" fmState fdmState ["self"] (spState D K)) (mDepth : Ml P w K mg base 1 D "depth" fmDepth fdmDepth ["self"] (spDepth D)) (cText : Cl P w K mg base CX0 2 "drawer_text" fcText fdcText ["drawer"] (spText K C D)) (Y : DrT K mg D) : FnOk P w K mg base CX0 3 f fd ["drawer", "world", "coins"] (spStands K C D) := by
  refine F.ok scLawStands (fun vs H Q E h => ?_) (fun cdv A' outer s H vs Q E hr h => ?_)
  · obtain ⟨q, wd, ca, sy, many, Ls, ws, cs, rfl, _⟩ := h
    rfl
  · obtain ⟨q, wd, ca, sy, many, Ls, ws, cs, rfl, hD, hW, wok, hC, cok, c400, k⟩ := h
    have hu := hu_of hr
    refine ⟨_, pss_cons (ps_par (i := 3) (j := 4) (by rfl) scLawStands.nd rfl rfl (by decide) rfl rfl (pa_cons (cDrawnL.call (hr.mono (by decide)) (pa_cons (pv 1) (pa_cons (pv 2) (pa_cons pe_str pa_nil)))) (pa_cons (cLawLot.call (hr.mono (by decide)) (pa_cons (cLawBehind.call (hr.mono (by decide)) (pa_cons (pv 1) (pa_cons (pe_revT (pv 2)) pa_nil))) pa_nil)) pa_nil)) (by rfl))
      (Evl.pss_cut (ps_set (i := 5) scLawStands.nd rfl (Or.inl rfl) (pe_ifExp (pt_cmpR op_eq (pe_ix ix_tup (pv 3) pe_int (fun _ _ => rfl)) pe_str (nomark _)) (pe_tup (pa_cons (pe_ix ix_tup (pv 3) pe_int (fun _ _ => rfl)) (pa_cons (pe_ix ix_tup (pv 3) pe_int (fun _ _ => rfl)) pa_nil))) (pe_tup (pa_cons pe_non (pa_cons pe_non pa_nil)))))
      (pss_cons (ps_if (PW.pt (pw_or (pt_cmpR (op_neD hr.units) (pe_tup (pa_cons (mState.call0 (hr.mono (by decide)) (pv 0)) (pa_cons (mDepth.call0 (hr.mono (by decide)) (pv 0)) pa_nil))) (pv 5) (nomark _)) (pw_or (pt_cmpR (op_neD hr.units) (mLot.call0 (hr.mono (by decide)) (pv 0)) (pv 4) (nomark _)) (pw_or1 (pt_cmpR (op_neD hr.units) (mCoins.call0 (hr.mono (by decide)) (pv 0)) (pv 2) (nomark _))))))
        (pss_one (ps_ret pe_bl)) pss_nil)
      (pss_one (ps_ret (pe_cmpR op_eq (cText.call (hr.mono (by decide)) (pa_cons (pv 0) pa_nil)) (pe_op op_add_str (pe_m1 PySem.F.slot_str_join PySem.F.type_str_join mt_join pe_str (pe_lc (own := [("coin", 6)]) (g := (gName 6)) (tt := tYes) rfl scLawStands.nd  (pi_tup (pv 2)) (blkOk_by (own := [("coin", 6)]) (N := nLawStands) (sc := defScope s_law_stands) (by decide +kernel)) (fun _ _ _ _ _ => (pg_name (i := 6) scLawStands.nd rfl (Or.inl rfl))) (fun _ _ _ _ _ => pts_nil) (fun _ _ _ _ _ => (pe_callTy call_str_int (by rfl) T.str (by decide +kernel) (pa_cons (pv 6) pa_nil))))) pe_str) (nomark _)))))), ?_⟩
    obtain ⟨dx, ca2, la, hq, hS, hC2, hL⟩ := id hD
    have ld := lds_of wok
    have e1 := lds_moves Ls ws
    have ml : (movesF Ls ws).length = Ls.length := by unfold movesF; rw [List.length_map, List.length_range]
    rw [e1] at hq hL
    obtain ⟨el, ein⟩ := ends_ok ld cok
    have m1 := wok.m1
    have m2 := wok.m2
    have w24 := wok.l2
    have cokr : CsOk Ls.length cs.reverse := fun c hc => cok c (List.mem_reverse.mp hc)
    refine ⟨_, rfl, _, rfl, wd, ca, true, many, Ls, ws, cs, rfl, hW, ld, hC, cok, c400, fun t H1 kk s1 r1 pk => ?_⟩
    refine ⟨_, rfl, _, rfl, ca, _, rfl, s1.sqT hC, fun rv hrv => ?_⟩
    refine new_step hrv fun H2 s2 e2 => ?_
    rw [← List.map_reverse] at e2
    refine ⟨wd, rv, many, Ls, ws, cs.reverse, rfl, (hW.same s1).same s2, ld, SqT.of e2, cokr, fun Bh H3 s3 h3 => ?_⟩
    rw [behind_ends ld cok] at h3
    refine ⟨Bh, _, rfl, .inl (SqL.of h3), by omega, ein.in12 m2, fun lt H4 s4 h4 => ⟨_, _, rfl, ?_⟩⟩
    have s14 := (s2.trans s3).trans s4
    have s04 := s1.trans s14
    refine ⟨fun σ' H' => ∃ tt, σ' = [some (.ref q), some (.ref wd), some (.ref ca), some (.ref t), some (.ref lt), some (.ref tt), none] ∧ Same H4 H' ∧ SqT K H' tt [stV (dpF Ls many cs) (endsF Ls many cs), dpV (dpF Ls many cs)], ?_, ?_⟩
    · rcases dp_pick pk with ⟨o1, dp⟩ | ⟨o1, dp⟩
      · have c1 : (lotF (selF Ls many (upto many) cs kk)).length = 1 := of_decide_eq_true o1
        rcases r1 with ⟨a, b⟩ | ⟨a, l, b, c⟩
        · have b4 := s14.sqT b
          refine ⟨_, rfl, t, _, _, _, rfl, rfl, b4, atI_nat (i := 0) rfl, rfl, _, rfl, ?_⟩
          rw [decide_eq_true rfl]
          refine iteT ⟨_, rfl, t, _, _, _, rfl, rfl, b4, atI_nat (i := 1) rfl, _, rfl, t, _, _, _, rfl, rfl, b4, atI_nat (i := 2) rfl, by show 2 ≤ sizeLine; decide, fun tt htt => ⟨tt, rfl, Same.new htt, ?_⟩⟩
          rw [dp, told_is ld cok dp]
          exact SqT.of upd_same
        · exact absurd c1 a
      · have c1 : (lotF (selF Ls many (upto many) cs kk)).length ≠ 1 := of_decide_eq_false o1
        rcases r1 with ⟨a, b⟩ | ⟨a, l, b, c⟩
        · exact absurd a c1
        · have b4 := s14.sqT b
          refine ⟨_, rfl, t, _, _, _, rfl, rfl, b4, atI_nat (i := 0) rfl, rfl, _, rfl, ?_⟩
          rw [dec_str, decide_eq_false (show ¬ ("undecided" : Str) = "told" by decide +kernel)]
          refine iteF ⟨by show 2 ≤ sizeLine; decide, fun tt htt => ⟨tt, rfl, Same.new htt, ?_⟩⟩
          rw [dp]
          exact SqT.of upd_same
    · rintro σ' H5 ⟨tt, rfl, s5, htt⟩
      have s05 := s04.trans s5
      have hq5 := s05 _ _ hq
      refine ⟨_, rfl, q, dx, _, rfl, hq5, dr_state, q, dx, sy, ca2, la, _, _, rfl, hq5, s05.sqT hL, by omega, ?_⟩
      refine ⟨_, rfl, q, dx, _, rfl, hq5, dr_depth, q, dx, sy, ca2, la, _, rfl, hq5, by show 2 ≤ sizeLine; decide, fun z hz => ?_⟩
      refine new_step hz fun H6 s6 e6 => ?_
      have s06 := s05.trans s6
      have hq6 := s06 _ _ hq
      refine ⟨_, rfl, twoD (dpF Ls many cs) (endsF Ls many cs), twoD (dpF Ls many cs) (endsF Ls many cs), .tup (SqT.of e6) (.cons (dp_st _ _) (.cons (dp_dp _) .nil)), .tup (s6.sqT htt) (.cons (dp_st _ _) (.cons (dp_dp _) .nil)), shaped_of (lay_two _ _) (by decide), shaped_of (lay_two _ _) (by decide), _, rfl, ?_⟩
      rw [SeqAt.eqv_refl _ (lay_two _ _).1]
      refine iteF ⟨_, rfl, q, dx, _, rfl, hq6, dr_lot, q, dx, sy, ca2, la, _, _, rfl, hq6, s06.sqT hL, by omega, ein.in12 m2, fun l2 H7 s7 h7 => ?_⟩
      have s07 := s06.trans s7
      have hq7 := s07 _ _ hq
      refine ⟨_, rfl, tupD (lotF (endsF Ls many cs)), tupD (lotF (endsF Ls many cs)), .tup (SqT.of h7) (dp_ints _), .tup (((s5.trans s6).trans s7).sqT (SqT.of h4)) (dp_ints _), shaped_of (lay_tupD _) (by decide), shaped_of (lay_tupD _) (by decide), _, rfl, ?_⟩
      rw [SeqAt.eqv_refl _ (lay_tupD _).1]
      refine iteF ⟨_, rfl, q, dx, _, rfl, hq7, dr_coins, q, dx, sy, ca2, la, _, rfl, hq7, _, rfl, tupD cs, tupD cs, .tup (s07.sqT hC2) (dp_ints _), .tup (s07.sqT hC) (dp_ints _), shaped_of (lay_tupD _) (by decide), shaped_of (lay_tupD _) (by decide), _, rfl, ?_⟩
      rw [SeqAt.eqv_refl _ (lay_tupD _).1]
      refine iteF ⟨_, rfl, q, sy, many, movesF Ls ws, cs, rfl, hD.same s07, by rw [ml]; exact cok, by rw [ml]; exact w24, c400, fun tx H8 s8 htx => ?_⟩
      have s08 := s07.trans s8
      refine ⟨⟨_, rfl⟩, _, rfl, ca, rfl, ⟨_, s08.sqT hC⟩, fun L hL2 => ?_⟩
      refine lc_tup (K := K) (a := ca) (xs := cs.map V.int) (fun i H' => Same H8 H' ∧ H' L = some (.lst ((cs.take i).map fun c => V.str (Str.ofString (toString c))))) ⟨Same.new hL2, upd_same⟩ (fun i H' _ g => (s08.trans g.1).sqT hC) (fun i x H9 hi g => ?_) fun H9 g => ?_
      · obtain ⟨s9, g9⟩ := g
        rw [List.getElem?_map] at hi
        obtain ⟨c, hc, rfl⟩ := Option.map_eq_some_iff.mp hi
        have cm := cok c (List.mem_of_getElem? hc)
        have il := (List.getElem?_eq_some_iff.mp hc).1
        refine ⟨rfl, _, rfl, c, rfl, logn (Nat.lt_trans (show c.natAbs < 24 by omega) (by decide)), _, g9, ?_, s9.mut hL2, ?_⟩
        · rw [List.length_map, List.length_take]
          exact small1000 (by omega)
        · rw [upd_same, List.take_add_one, hc, List.map_append] <;> rfl
      · obtain ⟨s9, g9⟩ := g
        rw [List.length_map, List.take_length] at g9
        obtain ⟨f1, f2⟩ := join_fit (n := Ls.length) (by omega) cok c400
        refine ⟨_, L, cs.map fun c => Str.ofString (toString c), rfl, rfl, .inl (SqL.of (by rw [List.map_map]; exact g9)), f1, _, _, rfl, rfl, f2, rfl, ?_⟩
        rw [dec_str, decide_eq_true (ext_tl (htx.trans (join_tl cok).symm))]
        exact k _ (s08.trans s9)
def spIsRead (K : PySem.W.Frag) (C D : Addr) : Sp := fun vs H Q _ => ∃ (p wd sy : Addr) (t : Str) (many : Nat) (Ls : List (List Int)) (ws : List Int), vs = [.ref p, .ref wd, .ref sy, .str t] ∧ SysAt K C H sy many (movesF Ls ws) ∧ WAt K H wd many Ls ws ∧ WOk many Ls ws ∧ t.length ≤ 4000 ∧ (badF Ls.length (tl t) = none → (wdsOf (cutL (tl t)).1).length ≤ 400) ∧ ∀ H', Same H H' → Q (.bl true) H'
abbrev nLawIsRead : List Str := ["hand", "world", "system", "text", "due", "told", "coins", "word"]
theorem scLawIsRead : FnScope nLawIsRead ["hand", "world", "system", "text"] (defScope s_law_is_read) := ⟨rfl, rfl, rfl, by decide +kernel, rfl, by decide +kernel, by decide +kernel⟩
theorem ok_is_read {f : Addr} {fd : FuncData} {fcFW : Addr} {fdcFW : FuncData} {fcRd : Addr} {fdcRd : FuncData} {fcStands : Addr} {fdcStands : FuncData} {C D : Addr} (F : Fun K "_law_is_read" "_law_is_read" s_law_is_read f fd) (T : NmA mg) (cFW : Cl P w K mg base CX0 1 "_law_first_wrong" fcFW fdcFW ["world", "text"] (spFW K)) (cRd : Cl P w K mg base CX0 5 "_law_read" fcRd fdcRd ["system", "text"] (spRd K C D)) (cStands : Cl P w K mg base CX0 3 "_law_stands" fcStands fdcStands ["drawer", "world", "coins"] (spStands K C D)) (Y : DrT K mg D) : FnOk P w K mg base CX0 6 f fd ["hand", "world", "system", "text"] (spIsRead K C D) := by
  refine F.ok scLawIsRead (fun vs H Q E h => ?_) (fun cdv A' outer s H vs Q E hr h => ?_)
  · obtain ⟨p, wd, sy, t, many, Ls, ws, rfl, _⟩ := h
    rfl
  · obtain ⟨p, wd, sy, t, many, Ls, ws, rfl, hS, hW, wok, l4, w4, k⟩ := h
    have hu := hu_of hr
    refine ⟨_, pss_cons (ps_par (i := 4) (j := 5) (by rfl) scLawIsRead.nd rfl rfl (by decide) rfl rfl (pa_cons (cFW.call (hr.mono (by decide)) (pa_cons (pv 1) (pa_cons (pv 3) pa_nil))) (pa_cons (cRd.call (hr.mono (by decide)) (pa_cons (pv 2) (pa_cons (pv 3) pa_nil))) pa_nil)) (by rfl))
      (pss_cons (ps_if (pt_cmpR op_notN (pv 4) pe_non (nomark _))
        (pss_one (ps_ret (pe_and (pe_cmpR (op_eqD hr.units) (pv 5) (pe_tup (pa_cons pe_str (pa_cons (pv 4) pa_nil))) (nomark _)) (pe_one (pe_not (pe_callB call_isi (by rfl) T.isi (by decide +kernel) (pa_cons (pe_ix ix_tup (pv 5) pe_int (fun _ _ => rfl)) (pa_cons (pe_bltn (v := .ty "bool") (u := .type "bool") (by rfl) T.bool (by decide +kernel) rfl) pa_nil)))))))) pss_nil)
      (pss_cons (ps_set (i := 6) scLawIsRead.nd rfl (Or.inl rfl) (pe_callTy call_tuple_of (by rfl) T.tuple (by decide +kernel) (pa_cons (pe_lc (own := [("word", 7)]) (g := (gName 7)) (tt := _) rfl scLawIsRead.nd  (pi_list (pe_m1 PySem.F.slot_str_split PySem.F.type_str_split mt_split (pe_slice sl_str (pv 3) po_none (po_some (pe_un un_neg pe_int))) pe_str)) (blkOk_by (own := [("word", 7)]) (N := nLawIsRead) (sc := defScope s_law_is_read) (by decide +kernel)) (fun _ _ _ _ _ => (pg_name (i := 7) scLawIsRead.nd rfl (Or.inl rfl))) (fun _ _ _ _ _ => (pts_one (pt_cmpR op_ne (pv 7) pe_str (nomark _)))) (fun _ _ _ _ _ => (pe_callTy call_int_str (by rfl) T.int (by decide +kernel) (pa_cons (pv 7) pa_nil)))) pa_nil)))
      (pss_one (ps_ret (pe_and (pe_cmpR op_eq (pe_ix ix_tup (pv 5) pe_int (fun _ _ => rfl)) pe_str (nomark _)) (pe_and (pe_callB call_isi (by rfl) T.isi (by decide +kernel) (pa_cons (pe_ix ix_tup (pv 5) pe_int (fun _ _ => rfl)) (pa_cons (pe_glob (v := .ref D) (u := .ref D) rfl Y.mgC rfl) pa_nil))) (pe_one (cStands.call (hr.mono (by decide)) (pa_cons (pe_ix ix_tup (pv 5) pe_int (fun _ _ => rfl)) (pa_cons (pv 1) (pa_cons (pv 6) pa_nil))))))))))), ?_⟩
    have ld := lds_of wok
    have e1 := lds_moves Ls ws
    have ml : (movesF Ls ws).length = Ls.length := by unfold movesF; rw [List.length_map, List.length_range]
    have w24 := wok.l2
    have tz : t.length ≤ sizeLine := by rw [sizeLine_eq]; omega
    have e_emp : ("" : Str) = Str.empty := ext_tl (by decide +kernel)
    refine ⟨_, rfl, _, rfl, wd, t, many, Ls, ws, rfl, hW, wok.l2, l4, fun H1 s1 => ?_⟩
    refine ⟨_, rfl, _, rfl, sy, t, many, movesF Ls ws, rfl, hS.same s1, by rw [e1]; exact ld, by rw [ml]; exact wok.l2, l4, by rw [ml]; exact w4, fun i a H2 hb s2 ha => ?_, fun a q cs H2 hb s2 ha hD cok hw => ?_⟩
    · rw [ml] at hb
      have hf : fwV (badF Ls.length (tl t)) = .int (i : Int) := by rw [hb] <;> rfl
      rw [hf]
      refine ⟨_, _, rfl, _, rfl, rfl, _, rfl, ?_⟩
      rw [decide_eq_false (show ¬ V.int (i : Int) = V.non from fun z => by cases z)]
      refine iteT ⟨_, rfl, _, rfl, by show 2 ≤ sizeLine; decide, fun z hz => ?_⟩
      refine new_step hz fun H3 s3 e3 => ?_
      have ha3 := s3.sqT ha
      refine ⟨refD i, refD i, .tup ha3 (.cons (.str _) (.cons (.int _) .nil)), .tup (SqT.of e3) (.cons (.str _) (.cons (.int _) .nil)), shaped_of (lay_ref i) (by decide), shaped_of (lay_ref i) (by decide), _, rfl, ?_⟩
      rw [SeqAt.eqv_refl _ (lay_ref i).1]
      refine iteT ⟨_, rfl, a, _, _, _, rfl, rfl, ha3, atI_nat (i := 1) rfl, _, _, _, _, _, rfl, .ty "bool", .base (.int _), (show PySem.W.kitOne K (.type "int") (.type "bool") = some false from kit_ty (by decide +kernel)), _, rfl, ?_⟩
      exact k _ ((s1.trans s2).trans s3)
    · rw [ml] at hb cok
      have hf : fwV (badF Ls.length (tl t)) = .non := by rw [hb] <;> rfl
      rw [hf]
      have w400 := w4 hb
      rw [hw, List.length_map] at w400
      refine ⟨_, _, rfl, _, rfl, rfl, _, rfl, ?_⟩
      rw [decide_eq_true (show V.non = V.non from rfl)]
      -- the words
      obtain ⟨la, lb⟩ := bad_none hb
      have tc : tl (cutS t none (some (-1))) = (cutL (tl t)).1 := by
        have h2 : (tl t).length = (cutL (tl t)).1.length + 1 := by
          have := congrArg List.length la
          rw [List.length_append] at this
          exact this
        rw [tl_cutS_last, h2, Nat.add_sub_cancel]
        have y := congrArg (List.take (cutL (tl t)).1.length) la
        rw [List.take_left] at y
        exact y
      have tcl : (cutS t none (some (-1))).length ≤ 4000 := Nat.le_trans (cutS_length _ _ _) l4
      have sps : (Txt.split (cutS t none (some (-1))) (" " : Str)).map tl = spl [32] 0 [] (cutL (tl t)).1 := by
        rw [split_spl _ _ (by rw [one_sp]; simp) (kind_ok (by decide +kernel)), one_sp, tc]
      have wds : ∀ (j : Nat) (u : Str), (Txt.split (cutS t none (some (-1))) (" " : Str))[j]? = some u → (tl u = [] ∧ cs = []) ∨ ∃ c, cs[j]? = some c ∧ tl u = numL c.toNat := fun j u hu => by
        have hu2 : (spl [32] 0 [] (cutL (tl t)).1)[j]? = some (tl u) := by rw [← sps, List.getElem?_map, hu] <;> rfl
        by_cases e : (cutL (tl t)).1 = []
        · left
          rw [e, spl_nil] at hu2
          have c0 : cs = [] := by
            unfold wdsOf at hw
            rw [if_pos e] at hw
            exact List.map_eq_nil_iff.mp hw.symm
          match j, hu2 with
          | 0, hu2 => exact ⟨(Option.some.inj hu2).symm, c0⟩
        · right
          unfold wdsOf at hw
          rw [if_neg e] at hw
          rw [hw, List.getElem?_map] at hu2
          obtain ⟨c, h1, h2⟩ := Option.map_eq_some_iff.mp hu2
          exact ⟨c, h1, h2.symm⟩
      have wlen : cs.length ≤ (Txt.split (cutS t none (some (-1))) (" " : Str)).length ∧ (Txt.split (cutS t none (some (-1))) (" " : Str)).length ≤ 4001 := by
        have z : (Txt.split (cutS t none (some (-1))) (" " : Str)).length = (spl [32] 0 [] (cutL (tl t)).1).length := by rw [← sps, List.length_map]
        have y := cnt_joinL 32 (spl [32] 0 [] (cutL (tl t)).1)
        rw [join_spl, List.nil_append, ← tc, ← len_tl, tc] at y
        constructor
        · rw [z]
          by_cases e : (cutL (tl t)).1 = []
          · have c0 : cs = [] := by
              unfold wdsOf at hw
              rw [if_pos e] at hw
              exact List.map_eq_nil_iff.mp hw.symm
            rw [c0]
            exact Nat.zero_le _
          · unfold wdsOf at hw
            rw [if_neg e] at hw
            rw [hw, List.length_map]
            exact Nat.le_refl _
        · omega
      have s12 := s1.trans s2
      refine iteF ⟨_, rfl, _, rfl, _, rfl, t, rfl, tz, ⟨_, rfl⟩, _, _, rfl, rfl, by decide +kernel, by rw [sizeLine_eq]; omega, fun p2 hp2 => ?_⟩
      refine new_step hp2 fun H3 s3 e3 => ?_
      generalize Txt.split (cutS t none (some (-1))) (" " : Str) = us at sps wds wlen e3
      refine ⟨p2, rfl, ⟨_, SqL.of e3⟩, fun D2 hD2 => ?_⟩
      refine lc_list (K := K) (a := p2) (xs := us.map V.str) (fun j H' => Same H3 H' ∧ H' D2 = some (.lst ((cs.take j).map V.int))) ⟨Same.new hD2, upd_same⟩ (fun j H' _ g => SqL.of (g.1 _ _ e3)) (fun j x H4 hj g => ?_) fun H4 g => ?_
      · obtain ⟨s4, g4⟩ := g
        rw [List.getElem?_map] at hj
        obtain ⟨u, hu, rfl⟩ := Option.map_eq_some_iff.mp hj
        refine ⟨rfl, _, rfl, rfl, _, rfl, ?_⟩
        rw [dec_str, e_emp]
        rcases wds j u hu with ⟨u0, c0⟩ | ⟨c, hc, uc⟩
        · rw [decide_eq_true (show u = Str.empty from ext_tl u0)]
          refine iteF ⟨s4, ?_⟩
          rw [c0, List.take_nil] at g4 ⊢
          exact g4
        · have cm := cok c (List.mem_of_getElem? hc)
          rw [decide_eq_false (show ¬ u = Str.empty from fun z => numL_ne c.toNat (by rw [← uc, z] <;> rfl))]
          have l12 : (numL c.toNat).length ≤ 3 := numL_len (by decide) (by show c.toNat < 1000; omega)
          have it : PySem.intText? u = some ((NumText.digitsVal (tl u) : Nat) : Int) := intText_digits (by rw [show u.cps.toList = numL c.toNat from uc]; exact numL_digits _) (by rw [show u.cps.toList = numL c.toNat from uc]; exact numL_ne _) (by rw [len_tl, uc]; omega)
          rw [uc, numL_val, show ((c.toNat : Nat) : Int) = c by omega] at it
          have il := (List.getElem?_eq_some_iff.mp hc).1
          refine iteT ⟨_, rfl, u, c, rfl, it, by rw [len_tl, uc]; omega, _, g4, ?_, s4.mut hD2, ?_⟩
          · rw [List.length_map, List.length_take]
            exact small1000 (by omega)
          · rw [upd_same, List.take_add_one, hc, List.map_append] <;> rfl
      · obtain ⟨s4, g4⟩ := g
        rw [List.length_map, List.take_of_length_le wlen.1] at g4
        refine ⟨D2, _, rfl, .inl ⟨SqL.of g4, fun r hr2 => ?_⟩⟩
        refine new_step hr2 fun H5 s5 e5 => ?_
        have s25 := (s3.trans s4).trans s5
        have ha5 := s25.sqT ha
        obtain ⟨dx, ca, lx, hq, _⟩ := id (hD.same s25)
        refine ⟨_, rfl, a, _, _, _, rfl, rfl, ha5, atI_nat (i := 0) rfl, rfl, _, rfl, ?_⟩
        rw [decide_eq_true rfl]
        refine iteT ⟨_, rfl, a, _, _, _, rfl, rfl, ha5, atI_nat (i := 1) rfl, _, _, _, _, _, rfl, .own D, .base (.ins hq Y.cl Y.ha Y.hn Y.ht Y.hm), kit_self (by simp), _, rfl, iteT ?_⟩
        refine ⟨_, rfl, a, _, _, _, rfl, rfl, ha5, atI_nat (i := 1) rfl, _, rfl, _, rfl, q, wd, r, sy, many, Ls, ws, cs, rfl, hD.same s25, hW.same (s12.trans s25), wok, SqT.of e5, cok, w400, fun H6 s6 => k _ ((s12.trans s25).trans s6)⟩
end
end Law

namespace L2
open PySem PySem.Spec PyProof.Rows
theorem TyOf.same {K : PySem.W.Frag} {H H' : Hp} {x : V} {t : Value} (s : Same H H') (h : TyOf K H x t) : TyOf K H' x t := by
  cases h with
  | non => exact .non
  | bl x => exact .bl x
  | int i => exact .int i
  | str x => exact .str x
  | flt x => exact .flt x
  | lst e => exact .lst (s _ _ e)
  | frz e => exact .frz (s _ _ e)
  | tup e => exact .tup (s _ _ e)
  | dK e => exact .dK (s _ _ e)
  | dT e => exact .dT (s _ _ e)
  | ins e c1 c2 c3 c4 c5 => exact .ins (s _ _ e) c1 c2 c3 c4 c5
theorem TyX.same {K : PySem.W.Frag} {H H' : Hp} {x : V} {t : Value} (s : Same H H') (h : TyX K H x t) : TyX K H' x t := by
  cases h with
  | base h => exact .base (h.same s)
  | byt b => exact .byt b
  | set e => exact .set (s _ _ e)
  | kList e c => exact .kList e c
  | kTuple e c => exact .kTuple e c
  | kDict e c => exact .kDict e c
  | fTuple e => exact .fTuple (s _ _ e)
  | fDict e => exact .fDict (s _ _ e)
end L2
namespace Law
open PySem L2
/-! ### any thing as a drawn pair -/
def NonTup (K : PySem.W.Frag) (H : Hp) (x : V) : Prop := ∃ t, TyX K H x t ∧ PySem.W.kitOne K t (.type "tuple") = some false
theorem NonTup.same {K : PySem.W.Frag} {H H' : Hp} {x : V} (s : Same H H') (h : NonTup K H x) : NonTup K H' x := by
  obtain ⟨t, h1, h2⟩ := h
  exact ⟨t, h1.same s, h2⟩
theorem Ty3.same {K : PySem.W.Frag} {H H' : Hp} {x : V} {b c : Bool} (s : Same H H') (h : Ty3 K H x b c) : Ty3 K H' x b c := by
  obtain ⟨t, h1, h2⟩ := h
  exact ⟨t, h1.same s, h2⟩
/-- a whole number, or something that is none -/
def NumP (K : PySem.W.Frag) (H : Hp) (x : V) : Option Int → Prop
  | some i => x = .int i
  | none => ∃ bi bb, Ty3 K H x bi bb ∧ (bi && !bb) = false
theorem NumP.same {K : PySem.W.Frag} {H H' : Hp} {x : V} {o : Option Int} (s : Same H H') (h : NumP K H x o) : NumP K H' x o := by
  cases o with
  | some i => exact h
  | none =>
    obtain ⟨bi, bb, h1, h2⟩ := h
    exact ⟨bi, bb, h1.same s, h2⟩
def NumsP (K : PySem.W.Frag) (H : Hp) (xs : List V) (l : List (Option Int)) : Prop := xs.length = l.length ∧ ∀ (i : Nat) (x : V), xs[i]? = some x → ∃ o, l[i]? = some o ∧ NumP K H x o
theorem NumsP.same {K : PySem.W.Frag} {H H' : Hp} {xs : List V} {l : List (Option Int)} (s : Same H H') (h : NumsP K H xs l) : NumsP K H' xs l := ⟨h.1, fun i x hx => by
  obtain ⟨o, h1, h2⟩ := h.2 i x hx
  exact ⟨o, h1, h2.same s⟩⟩
def VD (K : PySem.W.Frag) (H : Hp) (v : V) : Option (List (Option Int)) → Prop
  | some l => ∃ a xs, v = .ref a ∧ SqT K H a xs ∧ NumsP K H xs l
  | none => NonTup K H v
theorem VD.same {K : PySem.W.Frag} {H H' : Hp} {v : V} {c : Option (List (Option Int))} (s : Same H H') (h : VD K H v c) : VD K H' v c := by
  cases c with
  | some l =>
    obtain ⟨a, xs, h1, h2, h3⟩ := h
    exact ⟨a, xs, h1, s.sqT h2, h3.same s⟩
  | none => exact NonTup.same s h
def ThD (K : PySem.W.Frag) (H : Hp) (x : V) : Option (Option Int × Option (List (Option Int))) → Prop
  | some (o, c) => ∃ a u v, x = .ref a ∧ SqT K H a [u, v] ∧ NumP K H u o ∧ VD K H v c
  | none => NonTup K H x ∨ ∃ a xs, x = .ref a ∧ SqT K H a xs ∧ xs.length ≠ 2
theorem ThD.same {K : PySem.W.Frag} {H H' : Hp} {x : V} {o : Option (Option Int × Option (List (Option Int)))} (s : Same H H') (h : ThD K H x o) : ThD K H' x o := by
  match o, h with
  | some (o, c), h =>
    obtain ⟨a, u, v, h1, h2, h3, h4⟩ := h
    exact ⟨a, u, v, h1, s.sqT h2, h3.same s, h4.same s⟩
  | none, h =>
    rcases h with h | ⟨a, xs, h1, h2, h3⟩
    · exact .inl (h.same s)
    · exact .inr ⟨a, xs, h1, s.sqT h2, h3⟩
def isO (lo hi : Int) : Option Int → Bool
  | some i => decide (lo ≤ i) && decide (i ≤ hi)
  | none => false
def rowB (b : Int) : Option (List (Option Int)) → Bool
  | some l => l.all (isO 0 (b - 1))
  | none => false
def lenB : Option (List (Option Int)) → Bool
  | some l => decide (l.length ≤ 400)
  | none => false
def Fit (c : Option (List (Option Int))) : Prop := ∀ l, c = some l → l.length ≤ 1000
/-- what is shown by a pair -/
def jF (Ls : List (List Int)) (many : Nat) : Option (Option Int × Option (List (Option Int))) → Bool
  | some (some i, some l) => l.all (isO 0 ((Ls.length : Int) - 1)) && (decide (l.length ≤ 400) && decide (dpF Ls many (l.filterMap id) = some l.length ∧ (endsF Ls many (l.filterMap id)).getD 0 0 = i))
  | _ => false
theorem all_ints {K : PySem.W.Frag} {H : Hp} {n : Nat} {xs : List V} {l : List (Option Int)} (h : NumsP K H xs l) (ha : l.all (isO 0 ((n : Int) - 1)) = true) : xs = (l.filterMap id).map V.int ∧ CsOk n (l.filterMap id) ∧ (l.filterMap id).length = l.length := by
  have some_ : ∀ o ∈ l, ∃ i : Int, o = some i ∧ 0 ≤ i ∧ i < (n : Int) := fun o ho => by
    have z := List.all_eq_true.mp ha o ho
    cases o with
    | none => cases z
    | some i =>
      obtain ⟨z1, z2⟩ := Bool.and_eq_true_iff.mp (show (decide (0 ≤ i) && decide (i ≤ (n : Int) - 1)) = true from z)
      have := of_decide_eq_true z1
      have := of_decide_eq_true z2
      exact ⟨i, rfl, by omega, by omega⟩
  have key : ∀ (l : List (Option Int)), (∀ o ∈ l, ∃ i : Int, o = some i ∧ 0 ≤ i ∧ i < (n : Int)) → l = (l.filterMap id).map some ∧ CsOk n (l.filterMap id) := fun l => by
    induction l with
    | nil => exact fun _ => ⟨rfl, fun c hc => absurd hc List.not_mem_nil⟩
    | cons o l ih =>
      intro hs
      obtain ⟨i, rfl, i0, i1⟩ := hs o List.mem_cons_self
      obtain ⟨a, b⟩ := ih fun o ho => hs o (List.mem_cons_of_mem _ ho)
      have e : (some i :: l).filterMap id = i :: l.filterMap id := rfl
      rw [e]
      refine ⟨by rw [List.map_cons, ← a], fun c hc => ?_⟩
      rcases List.mem_cons.mp hc with rfl | hc
      · exact ⟨i0, i1⟩
      · exact b c hc
  obtain ⟨k1, k2⟩ := key l some_
  have k3 : (l.filterMap id).length = l.length := by
    have := congrArg List.length k1
    rw [List.length_map] at this
    exact this.symm
  refine ⟨?_, k2, k3⟩
  refine ext_at (n := l.length) h.1 (by rw [List.length_map, k3]) fun i hi => ?_
  have il : i < xs.length := by rw [h.1]; exact hi
  have hx : xs[i]? = some xs[i] := List.getElem?_eq_getElem il
  obtain ⟨o, h1, h2⟩ := h.2 i _ hx
  have h1' : ((l.filterMap id).map some)[i]? = some o := by rw [← k1]; exact h1
  rw [List.getElem?_map] at h1'
  obtain ⟨c, c1, c2⟩ := Option.map_eq_some_iff.mp h1'
  subst c2
  rw [hx, List.getElem?_map, c1, show xs[i] = V.int c from h2] <;> rfl
def toldD (i n : Int) : PyData := .tuple [.str "told", .int i, .int n]
theorem lay_told (i n : Int) : (toldD i n).canLay0 = true ∧ (toldD i n).depth ≤ 1 := by
  unfold toldD
  exact ⟨by simp only [PyData.canLay0, PyData.canLayAll0, ok_tld, Bool.and_self], by simp only [PyData.depth, PyData.depthAll]; omega⟩
theorem eqv_told (k : Nat) (e : List Int) (i n : Int) : PyData.eqv (resD k e) (toldD i n) = decide ((lotF e).length = 1 ∧ (lotF e).headD 0 = i ∧ (k : Int) = n) := by
  have es : ∀ x y : Str, PyData.eqv (.str x) (.str y) = decide (x = y) := fun x y => by
    rw [PyData.eqv]
    by_cases h : x = y
    · subst h; simp
    · simp [h]
  unfold resD toldD
  by_cases a : (lotF e).length = 1
  · rw [if_pos a, PyData.eqv, PyData.eqvAll, PyData.eqvAll, PyData.eqvAll, PyData.eqvAll, es, eqv_int, eqv_int]
    by_cases h1 : (lotF e).headD 0 = i <;> by_cases h2 : (k : Int) = n <;> simp [h1, h2, a]
  · rw [if_neg a, PyData.eqv, PyData.eqvAll, es, decide_eq_false (show ¬ ("undecided" : Str) = "told" by decide +kernel)]
    simp [a]
/-- what drawn, or the law's own, tells of the pair -/
theorem told_j {many : Nat} {Ls : List (List Int)} (ok : LdOk many Ls) {cs : List Int} (hc : CsOk Ls.length cs) {kk : Nat} (pk : Pick true cs.length (oneF Ls many (upto many) cs) kk) (i : Int) :
    PyData.eqv (resD kk (selF Ls many (upto many) cs kk)) (toldD i ((cs.length : Nat) : Int)) = decide (dpF Ls many cs = some cs.length ∧ (endsF Ls many cs).getD 0 0 = i) := by
  rw [eqv_told]
  rcases dp_pick pk with ⟨o1, dp⟩ | ⟨o1, dp⟩
  · have c1 : (lotF (selF Ls many (upto many) cs kk)).length = 1 := of_decide_eq_true o1
    rw [told_is ok hc dp, dp]
    by_cases h1 : kk = cs.length
    · subst h1
      by_cases h2 : (endsF Ls many cs).getD 0 0 = i
      · rw [decide_eq_true ⟨c1, h2, rfl⟩, decide_eq_true ⟨rfl, h2⟩]
      · rw [decide_eq_false fun z => h2 z.2.1, decide_eq_false fun z => h2 z.2]
    · rw [decide_eq_false fun z => h1 (by omega), decide_eq_false fun z => h1 (Option.some.inj z.1)]
  · have c1 : (lotF (selF Ls many (upto many) cs kk)).length ≠ 1 := of_decide_eq_false o1
    rw [dp, decide_eq_false fun z => c1 z.1, decide_eq_false fun z => by cases z.1]
section
variable {P : Program} {w : World} {K : PySem.W.Frag} {mg : Str → Option Value} {base : Heap}
def spRowA (K : PySem.W.Frag) : Sp := fun vs H Q _ => ∃ (b : Int) (v : V) (c : Option (List (Option Int))), vs = [.int b, v] ∧ VD K H v c ∧ Fit c ∧ ∀ H', Same H H' → Q (.bl (rowB b c)) H'
abbrev nIsRowBelowA : List Str := ["bound", "thing", "part"]
theorem scIsRowBelowA : FnScope nIsRowBelowA ["bound", "thing"] (defScope s_is_row_below) := ⟨rfl, rfl, rfl, by decide +kernel, rfl, by decide +kernel, by decide +kernel⟩
theorem ok_rowA {f : Addr} {fd : FuncData} {fcWithin : Addr} {fdcWithin : FuncData} (F : Fun K "is_row_below" "is_row_below" s_is_row_below f fd) (T : NmA mg) (cWithin : Cl P w K mg base CX0 2 "is_within" fcWithin fdcWithin ["low", "high", "thing"] (spWithin K)) : FnOk P w K mg base CX0 3 f fd ["bound", "thing"] (spRowA K) := by
  refine F.ok scIsRowBelowA (fun vs H Q E h => ?_) (fun cdv A' outer s H vs Q E hr h => ?_)
  · obtain ⟨b, v, c, rfl, _⟩ := h
    rfl
  · obtain ⟨b, v, c, rfl, hV, fit, k⟩ := h
    refine ⟨_, pss_one (ps_ret (pe_and (pe_callB call_isi (by rfl) T.isi (by decide +kernel) (pa_cons (pv 1) (pa_cons (pe_bltn (v := .ty "tuple") (u := .type "tuple") (by rfl) T.tuple (by decide +kernel) rfl) pa_nil))) (pe_one (pe_callB (cr_all rfl) (by rfl) T.all (by decide +kernel) (pa_cons (pe_lc (own := [("part", 2)]) (g := (gName 2)) (tt := tYes) rfl scIsRowBelowA.nd  (pi_tup (pv 1)) (blkOk_by (own := [("part", 2)]) (N := nIsRowBelowA) (sc := defScope s_is_row_below) (by decide +kernel)) (fun _ _ _ _ _ => (pg_name (i := 2) scIsRowBelowA.nd rfl (Or.inl rfl))) (fun _ _ _ _ _ => pts_nil) (fun _ _ _ _ _ => (cWithin.call (hr.mono (by decide)) (pa_cons pe_int (pa_cons (pe_op op_sub (pv 0) pe_int) (pa_cons (pv 2) pa_nil)))))) pa_nil))))), ?_⟩
    cases c with
    | none =>
      obtain ⟨t, h1, h2⟩ := hV
      exact ⟨_, rfl, _, _, _, _, _, rfl, .ty "tuple", h1, h2, _, rfl, iteF (k H (Same.refl H))⟩
    | some l =>
      obtain ⟨a, xs, rfl, hS, hN⟩ := hV
      have l1 := fit l rfl
      have xl := hN.1
      refine ⟨_, rfl, _, _, _, _, _, rfl, .ty "tuple", tyx_tup hS, kit_tt, _, rfl, iteT ?_⟩
      refine ⟨_, rfl, a, rfl, ⟨_, hS⟩, fun D hD => ?_⟩
      refine lc_tup (K := K) (a := a) (xs := xs) (fun i H' => Same H H' ∧ H' D = some (.lst (((l.take i).map (isO 0 (b - 1))).map V.bl))) ⟨Same.new hD, upd_same⟩ (fun i H' _ h => h.1.sqT hS) ?_ ?_
      · rintro i x H' hi ⟨s1, h1⟩
        obtain ⟨o, ho, hp⟩ := hN.2 i x hi
        have sz : (((l.take i).map (isO 0 (b - 1))).map V.bl).length < sizeLine := by
          rw [List.length_map, List.length_map, List.length_take]
          have := (List.getElem?_eq_some_iff.mp ho).1
          exact small1000 (by omega)
        have fin : (upd H' D (.lst ((((l.take i).map (isO 0 (b - 1))).map V.bl) ++ [.bl (isO 0 (b - 1) o)]))) D = some (.lst (((l.take (i + 1)).map (isO 0 (b - 1))).map V.bl)) := by
          rw [upd_same, List.take_add_one, ho, List.map_append, List.map_append] <;> rfl
        cases o with
        | some z =>
          have hp : x = .int z := hp
          exact ⟨rfl, _, rfl, _, _, rfl, rfl, _, rfl, _, _, _, rfl, .inl ⟨z, hp, _, h1, sz, s1.mut hD, fin⟩⟩
        | none =>
          obtain ⟨bi, bb, t1, t2⟩ := hp.same s1
          exact ⟨rfl, _, rfl, _, _, rfl, rfl, _, rfl, _, _, _, rfl, .inr ⟨bi, bb, t1, t2, _, h1, sz, s1.mut hD, fin⟩⟩
      · rintro H' ⟨s1, h1⟩
        rw [xl, List.take_length] at h1
        refine ⟨D, _, rfl, SqL.of h1, ?_⟩
        rw [all_take]
        exact k H' s1
def spIsRowA (K : PySem.W.Frag) (C : Addr) : Sp := fun vs H Q _ => ∃ (sy : Addr) (v : V) (c : Option (List (Option Int))) (many : Nat) (ms : List Mv), vs = [.ref sy, v] ∧ SysAt K C H sy many ms ∧ VD K H v c ∧ Fit c ∧ ∀ H', Same H H' → Q (.bl (rowB (ms.length : Int) c && lenB c)) H'
abbrev nIsRowA : List Str := ["system", "thing"]
theorem scIsRowA : FnScope nIsRowA ["system", "thing"] (defScope s_is_row) := ⟨rfl, rfl, rfl, by decide +kernel, rfl, by decide +kernel, by decide +kernel⟩
theorem ok_isrowA {f : Addr} {fd : FuncData} {fcRowA : Addr} {fdcRowA : FuncData} {C : Addr} (F : Fun K "is_row" "is_row" s_is_row f fd) (T : NmA mg) (cRowA : Cl P w K mg base CX0 3 "is_row_below" fcRowA fdcRowA ["bound", "thing"] (spRowA K)) (S : SysT K mg C) : FnOk P w K mg base CX0 4 f fd ["system", "thing"] (spIsRowA K C) := by
  refine F.ok scIsRowA (fun vs H Q E h => ?_) (fun cdv A' outer s H vs Q E hr h => ?_)
  · obtain ⟨sy, v, c, many, ms, rfl, _⟩ := h
    rfl
  · obtain ⟨sy, v, c, many, ms, rfl, hS, hV, fit, k⟩ := h
    refine ⟨_, pss_one (ps_ret (pe_and (cRowA.call (hr.mono (by decide)) (pa_cons (pe_callB call_len_seq (by rfl) T.len PySem.boot_len (pa_cons (pe_fld (pv 0) rfl) pa_nil)) (pa_cons (pv 1) pa_nil))) (pe_one (pe_cmpR op_le (pe_callB call_len_seq (by rfl) T.len PySem.boot_len (pa_cons (pv 1) pa_nil)) pe_int (nomark _))))), ?_⟩
    obtain ⟨dx, mv, hsy, vs, hVs, hM⟩ := id hS
    have vl := hM.1
    refine ⟨_, rfl, sy, C, dx, _, _, rfl, hsy, S.cl, S.nM, sysF_moves _ _, mv, _, rfl, .inr hVs, _, rfl, _, v, c, rfl, hV, fit, fun H1 s1 => ?_⟩
    rw [vl]
    refine ⟨_, rfl, ?_⟩
    cases c with
    | none => exact iteF (k H1 s1)
    | some l =>
      have kk := k H1 s1
      change Q (.bl (rowB (ms.length : Int) (some l) && decide (l.length ≤ 400))) H1 at kk
      cases hr2 : rowB (ms.length : Int) (some l) with
      | false =>
        rw [hr2, Bool.false_and] at kk
        exact iteF kk
      | true =>
        rw [hr2, Bool.true_and] at kk
        obtain ⟨a, xs, rfl, hX, hN⟩ := hV
        refine iteT ⟨_, rfl, a, _, rfl, .inr (s1.sqT hX), _, _, rfl, rfl, ?_⟩
        rw [hN.1]
        have dd : decide (((l.length : Nat) : Int) ≤ 400) = decide (l.length ≤ 400) := decide_eq_decide.mpr (by omega)
        show Q (.bl (decide (((l.length : Nat) : Int) ≤ 400))) H1
        rw [dd]
        exact kk
def spIsDrawn (K : PySem.W.Frag) (C : Addr) : Sp := fun vs H Q _ => ∃ (sy : Addr) (x : V) (o : Option (Option Int × Option (List (Option Int)))) (many : Nat) (ms : List Mv), vs = [.ref sy, x] ∧ SysAt K C H sy many ms ∧ LdOk many (ldsOf ms) ∧ ThD K H x o ∧ (∀ u c, o = some (u, c) → Fit c) ∧ ∀ H', Same H H' → Q (.bl (jF (ldsOf ms) many o)) H'
abbrev nIsDrawn : List Str := ["system", "thing", "state", "coins"]
theorem scIsDrawn : FnScope nIsDrawn ["system", "thing"] (defScope s_is_drawn) := ⟨rfl, rfl, rfl, by decide +kernel, rfl, by decide +kernel, by decide +kernel⟩
theorem ok_is_drawn {f : Addr} {fd : FuncData} {fcIsRowA : Addr} {fdcIsRowA : FuncData} {fcWithin : Addr} {fdcWithin : FuncData} {fcDrawn : Addr} {fdcDrawn : FuncData} {C : Addr} (F : Fun K "is_drawn" "is_drawn" s_is_drawn f fd) (T : NmA mg) (cIsRowA : Cl P w K mg base CX0 4 "is_row" fcIsRowA fdcIsRowA ["system", "thing"] (spIsRowA K C)) (cWithin : Cl P w K mg base CX0 2 "is_within" fcWithin fdcWithin ["low", "high", "thing"] (spWithin K)) (cDrawn : Cl P w K mg base CX0 5 "drawn" fcDrawn fdcDrawn ["system", "coins", "plan"] (spDrawn K C)) (S : SysT K mg C) : FnOk P w K mg base CX0 6 f fd ["system", "thing"] (spIsDrawn K C) := by
  refine F.ok scIsDrawn (fun vs H Q E h => ?_) (fun cdv A' outer s H vs Q E hr h => ?_)
  · obtain ⟨sy, x, o, many, ms, rfl, _⟩ := h
    rfl
  · obtain ⟨sy, x, o, many, ms, rfl, hS, ok, hT, fit, k⟩ := h
    have hu := hu_of hr
    refine ⟨_, pss_cons (ps_if (PW.pt (pw_or (pt_not (pt_val (pe_callB call_isi (by rfl) T.isi (by decide +kernel) (pa_cons (pv 1) (pa_cons (pe_bltn (v := .ty "tuple") (u := .type "tuple") (by rfl) T.tuple (by decide +kernel) rfl) pa_nil))))) (pw_or1 (pt_cmpR op_ne (pe_callB call_len_seq (by rfl) T.len PySem.boot_len (pa_cons (pv 1) pa_nil)) pe_int (nomark _)))))
        (pss_one (ps_ret pe_bl)) pss_nil)
      (pss_cons (ps_asg (pv 1) (pg_tup (by rfl) (pgs_cons (pg_name (i := 2) scIsDrawn.nd rfl (Or.inl rfl)) (pgs_cons (pg_name (i := 3) scIsDrawn.nd rfl (Or.inl rfl)) pgs_nil))))
      (pss_cons (ps_if (PW.pt (pw_or (pt_not (pt_val (cWithin.call (hr.mono (by decide)) (pa_cons pe_int (pa_cons (pe_op op_sub (pe_fld (pv 0) rfl) pe_int) (pa_cons (pv 2) pa_nil)))))) (pw_or1 (pt_not (pt_val (cIsRowA.call (hr.mono (by decide)) (pa_cons (pv 0) (pa_cons (pv 3) pa_nil))))))))
        (pss_one (ps_ret pe_bl)) pss_nil)
      (pss_one (ps_ret (pe_cmpR (op_eqD hr.units) (cDrawn.call (hr.mono (by decide)) (pa_cons (pv 0) (pa_cons (pv 3) (pa_cons pe_str pa_nil)))) (pe_tup (pa_cons pe_str (pa_cons (pv 2) (pa_cons (pe_callB call_len_seq (by rfl) T.len PySem.boot_len (pa_cons (pv 3) pa_nil)) pa_nil)))) (nomark _)))))), ?_⟩
    have m1 := ok.m1
    have m2 := ok.m2
    have lms : (ldsOf ms).length = ms.length := by rw [List.length_map]
    obtain ⟨dx, mv, hsy, vs, hVs, hM⟩ := id hS
    match o, hT, fit, k with
    | none, hT, fit, k =>
      rcases hT with ⟨t, h1, h2⟩ | ⟨a, xs, rfl, hX, hn⟩
      · exact ⟨_, rfl, _, _, _, _, _, rfl, .ty "tuple", h1, h2, _, rfl, iteT (k H (Same.refl H))⟩
      · refine ⟨_, rfl, _, _, _, _, _, rfl, .ty "tuple", tyx_tup hX, kit_tt, _, rfl, ?_⟩
        refine iteF ⟨_, rfl, a, _, rfl, .inr hX, rfl, _, rfl, ?_⟩
        rw [decide_eq_false (show ¬ V.int ((xs.length : Nat) : Int) = V.int 2 from fun z => hn (by injection z with z; omega))]
        exact iteT (k H (Same.refl H))
    | some (u, c), hT, fit, k =>
      obtain ⟨a, x1, v, rfl, hX, hu1, hv⟩ := hT
      have fc := fit u c rfl
      refine ⟨_, rfl, _, _, _, _, _, rfl, .ty "tuple", tyx_tup hX, kit_tt, _, rfl, ?_⟩
      refine iteF ⟨_, rfl, a, _, rfl, .inr hX, rfl, _, rfl, iteF ?_⟩
      refine ⟨_, rfl, a, _, rfl, hX, rfl, _, _, rfl, _, _, rfl, rfl, ?_⟩
      -- is_within(0, system.many - 1, state)
      have bad : ∀ H', Same H H' → jF (ldsOf ms) many (some (u, c)) = false → Q (.bl false) H' := fun H' s' e => by
        have z := k H' s'
        rw [e] at z
        exact z
      cases u with
      | none =>
        obtain ⟨bi, bb, t1, t2⟩ := hu1
        exact ⟨_, rfl, sy, C, dx, _, _, rfl, hsy, S.cl, S.nK, sysF_many _ _, _, _, rfl, rfl, _, rfl, 0, _, _, rfl, .inr ⟨bi, bb, t1, t2, _, rfl, iteT (bad H (Same.refl H) rfl)⟩⟩
      | some i =>
      have hu1 : x1 = .int i := hu1
      subst hu1
      refine ⟨_, rfl, sy, C, dx, _, _, rfl, hsy, S.cl, S.nK, sysF_many _ _, _, _, rfl, rfl, _, rfl, 0, _, _, rfl, .inl ⟨i, rfl, _, rfl, ?_⟩⟩
      cases hw : (decide (0 ≤ i) && decide (i ≤ (many : Int) - 1)) with
      | false =>
        refine iteT (bad H (Same.refl H) ?_)
        match c, hv with
        | none, _ => rfl
        | some l, hv =>
          show (l.all (isO 0 (((ldsOf ms).length : Int) - 1)) && (decide (l.length ≤ 400) && decide _)) = false
          cases ha : l.all (isO 0 (((ldsOf ms).length : Int) - 1)) with
          | false => rfl
          | true =>
            obtain ⟨_, _, _, _, hN⟩ := hv
            obtain ⟨_, cok, _⟩ := all_ints hN ha
            obtain ⟨el, ein⟩ := ends_ok ok cok
            rw [decide_eq_false (p := dpF (ldsOf ms) many (l.filterMap id) = some l.length ∧ (endsF (ldsOf ms) many (l.filterMap id)).getD 0 0 = i), Bool.and_false, Bool.and_false]
            rintro ⟨_, q⟩
            have hl : 0 < (endsF (ldsOf ms) many (l.filterMap id)).length := by omega
            have z := ein _ (List.getElem_mem hl)
            rw [getD_of hl] at q
            rw [q] at z
            rw [decide_eq_true z.1, decide_eq_true (show i ≤ (many : Int) - 1 by omega)] at hw
            cases hw
      | true =>
        refine iteF ⟨_, rfl, _, rfl, sy, v, c, many, ms, rfl, hS, hv, fc, fun H1 s1 => ⟨_, rfl, ?_⟩⟩
        match c, hv, fc, k, bad with
        | none, _, _, _, bad => exact iteT (bad H1 s1 rfl)
        | some l, hv, fc, k, bad =>
          have jj : jF (ldsOf ms) many (some (some i, some l)) = (l.all (isO 0 (((ldsOf ms).length : Int) - 1)) && (decide (l.length ≤ 400) && decide (dpF (ldsOf ms) many (l.filterMap id) = some l.length ∧ (endsF (ldsOf ms) many (l.filterMap id)).getD 0 0 = i))) := rfl
          rw [lms] at jj
          change (if (!(l.all (isO 0 ((ms.length : Int) - 1)) && decide (l.length ≤ 400))) = true then _ else _)
          cases ha : l.all (isO 0 ((ms.length : Int) - 1)) with
          | false =>
            rw [ha, Bool.false_and] at jj
            exact iteT (bad H1 s1 jj)
          | true =>
            cases hl4 : decide (l.length ≤ 400) with
            | false =>
              rw [hl4, Bool.false_and, Bool.and_false] at jj
              exact iteT (bad H1 s1 jj)
            | true =>
              rw [ha, hl4, Bool.true_and, Bool.true_and] at jj
              obtain ⟨ca, xs, rfl, hC, hN⟩ := hv
              obtain ⟨ex, cok, fl⟩ := all_ints hN ha
              have c400 : (l.filterMap id).length ≤ 400 := by rw [fl]; exact of_decide_eq_true hl4
              rw [ex] at hC
              refine iteF ⟨_, rfl, _, rfl, sy, ca, true, many, ms, l.filterMap id, rfl, hS.same s1, ok, s1.sqT hC, cok, c400, fun t H2 kk s2 r2 pk => ?_⟩
              have s12 := s1.trans s2
              refine ⟨_, rfl, _, rfl, ca, _, rfl, .inr (s12.sqT hC), by show 3 ≤ sizeLine; decide, fun z hz => ?_⟩
              refine new_step hz fun H3 s3 e3 => ?_
              refine ⟨resD kk (selF (ldsOf ms) many (upto many) (l.filterMap id) kk), toldD i (((l.filterMap id).length : Nat) : Int), dp_res (r2.same s3), ?_, sh_res _ _, shaped_of (lay_told _ _) (by decide), ?_⟩
              · rw [List.length_map] at e3
                exact .tup (SqT.of e3) (.cons (.str _) (.cons (.int _) (.cons (.int _) .nil)))
              · rw [told_j ok (by rw [lms]; exact cok) pk]
                have z := k H3 (s12.trans s3)
                rw [jj, ← fl] at z
                exact z
end
end Law

namespace Law
open PySem L2 TL
def ltB (n : Nat) : Option Int → Bool
  | some z => decide (z < (n : Int))
  | none => false
theorem jF_bad {many : Nat} {Ls : List (List Int)} (ok : LdOk many Ls) {u : Option Int} {l : List (Option Int)} (h : ∃ o ∈ u :: l, o = none ∨ ∃ z, o = some z ∧ z < 0) : jF Ls many (some (u, some l)) = false := by
  cases u with
  | none => rfl
  | some i =>
    show (l.all (isO 0 ((Ls.length : Int) - 1)) && (decide (l.length ≤ 400) && decide (dpF Ls many (l.filterMap id) = some l.length ∧ (endsF Ls many (l.filterMap id)).getD 0 0 = i))) = false
    cases ha : l.all (isO 0 ((Ls.length : Int) - 1)) with
    | false => rfl
    | true =>
      have key : ∀ (l : List (Option Int)), l.all (isO 0 ((Ls.length : Int) - 1)) = true → CsOk Ls.length (l.filterMap id) ∧ ∀ o ∈ l, ∃ z, o = some z ∧ 0 ≤ z := fun l => by
        induction l with
        | nil => exact fun _ => ⟨fun c hc => absurd hc List.not_mem_nil, fun o ho => absurd ho List.not_mem_nil⟩
        | cons o l ih =>
          intro hs
          rw [List.all_cons, Bool.and_eq_true] at hs
          obtain ⟨a, b⟩ := ih hs.2
          cases o with
          | none => cases hs.1
          | some z =>
            obtain ⟨z1, z2⟩ := Bool.and_eq_true_iff.mp (show (decide (0 ≤ z) && decide (z ≤ (Ls.length : Int) - 1)) = true from hs.1)
            have z1 := of_decide_eq_true z1
            have z2 := of_decide_eq_true z2
            have e : (some z :: l).filterMap id = z :: l.filterMap id := rfl
            rw [e]
            refine ⟨fun c hc => ?_, fun o ho => ?_⟩
            · rcases List.mem_cons.mp hc with rfl | hc
              · exact ⟨z1, by omega⟩
              · exact a c hc
            · rcases List.mem_cons.mp ho with rfl | ho
              · exact ⟨z, rfl, z1⟩
              · exact b o ho
      obtain ⟨cok, al⟩ := key l ha
      obtain ⟨el, ein⟩ := ends_ok ok cok
      have m1 := ok.m1
      have hl : 0 < (endsF Ls many (l.filterMap id)).length := by omega
      rw [decide_eq_false (p := dpF Ls many (l.filterMap id) = some l.length ∧ (endsF Ls many (l.filterMap id)).getD 0 0 = i), Bool.and_false, Bool.and_false]
      rintro ⟨_, q⟩
      have z := ein _ (List.getElem_mem hl)
      rw [getD_of hl] at q
      rw [q] at z
      obtain ⟨o, ho, hb⟩ := h
      rcases List.mem_cons.mp ho with rfl | ho
      · rcases hb with hb | ⟨y, hy, hn⟩
        · cases hb
        · have := Option.some.inj hy
          omega
      · obtain ⟨y, hy, hn⟩ := al o ho
        rcases hb with hb | ⟨y2, hy2, hn2⟩
        · rw [hb] at hy
          cases hy
        · rw [hy2] at hy
          have := Option.some.inj hy
          omega
theorem lt_within {n : Nat} : ∀ {l : List (Option Int)}, (∀ o ∈ l, ∃ z, o = some z ∧ 0 ≤ z) → l.all (ltB n) = l.all (isO 0 ((n : Int) - 1))
  | [], _ => rfl
  | o :: l, h => by
    obtain ⟨z, rfl, z0⟩ := h o List.mem_cons_self
    rw [List.all_cons, List.all_cons, lt_within fun o ho => h o (List.mem_cons_of_mem _ ho)]
    congr 1
    show decide (z < (n : Int)) = (decide (0 ≤ z) && decide (z ≤ (n : Int) - 1))
    rw [decide_eq_true z0, Bool.true_and]
    exact decide_eq_decide.mpr (by omega)
theorem all_map {α : Type} (f : α → Bool) : ∀ xs : List α, (xs.map f).all id = xs.all f
  | [] => rfl
  | x :: xs => by rw [List.map_cons, List.all_cons, List.all_cons, all_map f xs] <;> rfl
theorem slT {K : PySem.W.Frag} {H : Hp} {a : Addr} {xs : List V} {lo hi : Option Int} {Q : VK} (ha : SqT K H a xs) (kk : ∀ p H', Same H H' → SqT K H' p (cutV xs lo hi) → Q (.ref p) H') : rSlA K (.ref a) lo hi H Q := by
  refine ⟨a, xs, rfl, ha, fun e => ?_, fun _ c hc => ?_⟩
  · refine kk a H (Same.refl H) ?_
    unfold cutV
    rw [e.1, e.2, List.drop_zero, Nat.sub_zero, List.take_length]
    exact ha
  · exact kk c _ (Same.new hc) (SqT.of upd_same)
theorem mem_cutV {xs : List V} {lo hi : Option Int} {x : V} (h : x ∈ cutV xs lo hi) : x ∈ xs := List.mem_of_mem_drop (List.mem_of_mem_take h)
theorem cutV_len {xs : List V} {lo hi : Option Int} : (cutV xs lo hi).length ≤ xs.length := by
  unfold cutV
  rw [List.length_take, List.length_drop]
  omega
/-! ### things that stay things -/
structure Keeps (K : PySem.W.Frag) (p : Addr) (H H' : Hp) : Prop where
  lst : ∀ a xs, a ≠ p → H a = some (.lst xs) → ∃ ys, H' a = some (.lst ys)
  dic : ∀ a ks, a ≠ p → H a = some (.dK ks) → ∃ ls, H' a = some (.dK ls)
  ins : ∀ a C dx fs, H a = some (.ins C dx fs) → H' a = some (.ins C dx fs)
  tup : ∀ a xs, SqT K H a xs → SqT K H' a xs
theorem Keeps.same {K : PySem.W.Frag} {p : Addr} {H H' : Hp} (s : Same H H') : Keeps K p H H' := ⟨fun _ xs _ h => ⟨xs, s _ _ h⟩, fun _ ks _ h => ⟨ks, s _ _ h⟩, fun _ _ _ _ h => s _ _ h, fun _ _ => s.sqT⟩
theorem Keeps.stp {K : PySem.W.Frag} {p : Addr} {H H' : Hp} (hp : HandAt H p) (s : Stp p H H') : Keeps K p H H' := by
  obtain ⟨ks, hk⟩ := hp.dk
  exact ⟨fun _ xs n h => ⟨xs, s.keep _ _ n h⟩, fun _ ks n h => ⟨ks, s.keep _ _ n h⟩, fun _ _ _ _ h => s.keep _ _ (ne_of h hk (by intro z; cases z)) h, fun _ _ => s.sqT hp⟩
theorem Keeps.updL {K : PySem.W.Frag} {p l : Addr} {H : Hp} {acc ys : List V} (hl : H l = some (.lst acc)) : Keeps K p H (upd H l (.lst ys)) := ⟨fun a xs _ h => by
    by_cases e : a = l
    · rw [e]
      exact ⟨ys, upd_same⟩
    · exact ⟨xs, by rw [upd_ne e]; exact h⟩, fun a ks _ h => ⟨ks, by rw [upd_ne (ne_of h hl (by intro z; cases z))]; exact h⟩, fun a C dx fs h => by rw [upd_ne (ne_of h hl (by intro z; cases z))]; exact h, fun _ _ => sqT_upd hl⟩
def NPs (K : PySem.W.Frag) (p : Addr) (H : Hp) (x : V) : Option Int → Prop
  | some i => x = .int i
  | none => (x = .non ∨ (∃ b, x = .bl b) ∨ ∃ z, x = .str z) ∨ (∃ a, x = .ref a ∧ a ≠ p ∧ ((∃ xs, H a = some (.lst xs)) ∨ ∃ ks, H a = some (.dK ks))) ∨ ∃ a xs, x = .ref a ∧ SqT K H a xs
def NTs (C p : Addr) (H : Hp) (x : V) : Prop := (x = .non ∨ (∃ b, x = .bl b) ∨ (∃ z, x = .str z) ∨ ∃ i, x = .int i) ∨ (∃ a, x = .ref a ∧ a ≠ p ∧ ((∃ xs, H a = some (.lst xs)) ∨ ∃ ks, H a = some (.dK ks))) ∨ ∃ a dx fs, x = .ref a ∧ H a = some (.ins C dx fs)
theorem NPs.map {K : PySem.W.Frag} {p : Addr} {H H' : Hp} {x : V} {o : Option Int} (k : Keeps K p H H') (h : NPs K p H x o) : NPs K p H' x o := by
  cases o with
  | some i => exact h
  | none =>
    rcases h with h | ⟨a, h1, h2, h | h⟩ | ⟨a, xs, h1, h2⟩
    · exact .inl h
    · obtain ⟨xs, h⟩ := h
      exact .inr (.inl ⟨a, h1, h2, .inl (k.lst a xs h2 h)⟩)
    · obtain ⟨ks, h⟩ := h
      exact .inr (.inl ⟨a, h1, h2, .inr (k.dic a ks h2 h)⟩)
    · exact .inr (.inr ⟨a, xs, h1, k.tup _ _ h2⟩)
theorem NTs.map {K : PySem.W.Frag} {C p : Addr} {H H' : Hp} {x : V} (k : Keeps K p H H') (h : NTs C p H x) : NTs C p H' x := by
  rcases h with h | ⟨a, h1, h2, h | h⟩ | ⟨a, dx, fs, h1, h2⟩
  · exact .inl h
  · obtain ⟨xs, h⟩ := h
    exact .inr (.inl ⟨a, h1, h2, .inl (k.lst a xs h2 h)⟩)
  · obtain ⟨ks, h⟩ := h
    exact .inr (.inl ⟨a, h1, h2, .inr (k.dic a ks h2 h)⟩)
  · exact .inr (.inr ⟨a, dx, fs, h1, k.ins _ _ _ _ h2⟩)
theorem NPs.num {K : PySem.W.Frag} {p : Addr} {H : Hp} {x : V} {o : Option Int} (h : NPs K p H x o) : NumP K H x o := by
  cases o with
  | some i => exact h
  | none =>
    rcases h with (rfl | ⟨b, rfl⟩ | ⟨z, rfl⟩) | ⟨a, rfl, h2, ⟨xs, h⟩ | ⟨ks, h⟩⟩ | ⟨a, xs, rfl, h2⟩
    · exact ⟨false, false, ⟨_, .base .non, kit_ty (by decide +kernel), kit_ty (by decide +kernel)⟩, rfl⟩
    · exact ⟨true, true, ⟨_, .base (.bl b), kit_ty (by decide +kernel), kit_ty (by decide +kernel)⟩, rfl⟩
    · exact ⟨false, false, ⟨_, .base (.str z), kit_ty (by decide +kernel), kit_ty (by decide +kernel)⟩, rfl⟩
    · exact ⟨false, false, ⟨_, .base (.lst h), kit_ty (by decide +kernel), kit_ty (by decide +kernel)⟩, rfl⟩
    · exact ⟨false, false, ⟨_, .base (.dK h), kit_ty (by decide +kernel), kit_ty (by decide +kernel)⟩, rfl⟩
    · exact ⟨false, false, ⟨_, tyx_tup h2, kit_ty (by decide +kernel), kit_ty (by decide +kernel)⟩, rfl⟩
theorem NTs.non {K : PySem.W.Frag} {mg : Str → Option Value} {C p : Addr} {H : Hp} {x : V} (S : SysT K mg C) (kT : PySem.W.kitOne K (.ref C) (.type "tuple") = some false) (h : NTs C p H x) : NonTup K H x := by
  rcases h with (rfl | ⟨b, rfl⟩ | ⟨z, rfl⟩ | ⟨i, rfl⟩) | ⟨a, rfl, h2, ⟨xs, h⟩ | ⟨ks, h⟩⟩ | ⟨a, dx, fs, rfl, h⟩
  · exact ⟨_, .base .non, kit_ty (by decide +kernel)⟩
  · exact ⟨_, .base (.bl b), kit_ty (by decide +kernel)⟩
  · exact ⟨_, .base (.str z), kit_ty (by decide +kernel)⟩
  · exact ⟨_, .base (.int i), kit_ty (by decide +kernel)⟩
  · exact ⟨_, .base (.lst h), kit_ty (by decide +kernel)⟩
  · exact ⟨_, .base (.dK h), kit_ty (by decide +kernel)⟩
  · exact ⟨_, .base (.ins h S.cl S.ha S.hn S.ht S.hm), kT⟩
def NpA (K : PySem.W.Frag) (p : Addr) (H : Hp) (x : V) : Prop := ∃ o, NPs K p H x o
/-- a second part: a tuple of anything flat, or no tuple -/
def VsA (K : PySem.W.Frag) (C p : Addr) (H : Hp) (v : V) : Prop := (∃ a xs, v = .ref a ∧ SqT K H a xs ∧ xs.length ≤ 1000 ∧ ∀ x ∈ xs, NpA K p H x) ∨ NTs C p H v
def ThA (K : PySem.W.Frag) (C p : Addr) (H : Hp) (x : V) : Prop := (∃ a u v, x = .ref a ∧ SqT K H a [u, v] ∧ NpA K p H u ∧ VsA K C p H v) ∨ NTs C p H x ∨ ∃ a xs, x = .ref a ∧ SqT K H a xs ∧ xs.length ≠ 2
theorem NpA.map {K : PySem.W.Frag} {p : Addr} {H H' : Hp} {x : V} (h : NpA K p H x) (k : Keeps K p H H') : NpA K p H' x := let ⟨o, h⟩ := h; ⟨o, h.map k⟩
theorem VsA.map {K : PySem.W.Frag} {C p : Addr} {H H' : Hp} {v : V} (h : VsA K C p H v) (k : Keeps K p H H') : VsA K C p H' v := by
  rcases h with ⟨a, xs, h1, h2, h3, h4⟩ | h
  · exact .inl ⟨a, xs, h1, k.tup _ _ h2, h3, fun x hx => (h4 x hx).map k⟩
  · exact .inr (h.map k)
theorem ThA.map {K : PySem.W.Frag} {C p : Addr} {H H' : Hp} {x : V} (h : ThA K C p H x) (k : Keeps K p H H') : ThA K C p H' x := by
  rcases h with ⟨a, u, v, h1, h2, h3, h4⟩ | h | ⟨a, xs, h1, h2, h3⟩
  · exact .inl ⟨a, u, v, h1, k.tup _ _ h2, h3.map k, h4.map k⟩
  · exact .inr (.inl (h.map k))
  · exact .inr (.inr ⟨a, xs, h1, k.tup _ _ h2, h3⟩)
theorem rs_of {α β : Type} {R : α → β → Prop} : ∀ (xs : List α), (∀ x ∈ xs, ∃ r, R x r) → ∃ rs : List β, xs.length = rs.length ∧ ∀ (i : Nat) (v : α), xs[i]? = some v → ∃ r, rs[i]? = some r ∧ R v r
  | [], _ => ⟨[], rfl, fun i v hv => by simp at hv⟩
  | x :: xs, h => by
    obtain ⟨r, hr⟩ := h x List.mem_cons_self
    obtain ⟨rs, h1, h2⟩ := rs_of xs fun y hy => h y (List.mem_cons_of_mem _ hy)
    refine ⟨r :: rs, by rw [List.length_cons, List.length_cons, h1], fun i v hv => ?_⟩
    match i, hv with
    | 0, hv => exact ⟨r, rfl, (Option.some.inj hv) ▸ hr⟩
    | i + 1, hv => exact h2 i v hv
theorem ThA.thd {K : PySem.W.Frag} {mg : Str → Option Value} {C p : Addr} {H : Hp} {x : V} (S : SysT K mg C) (kT : PySem.W.kitOne K (.ref C) (.type "tuple") = some false) (h : ThA K C p H x) : ∃ o, ThD K H x o ∧ ∀ u c, o = some (u, c) → Fit c := by
  rcases h with ⟨a, u, v, h1, h2, ⟨o, h3⟩, h4⟩ | h | ⟨a, xs, h1, h2, h3⟩
  · rcases h4 with ⟨b, ys, g1, g2, g3, g4⟩ | h4
    · obtain ⟨l, l1, l2⟩ := rs_of ys g4
      refine ⟨some (o, some l), ⟨a, u, v, h1, h2, h3.num, b, ys, g1, g2, l1, fun i y hy => ?_⟩, fun u c e l' e' => ?_⟩
      · obtain ⟨r, r1, r2⟩ := l2 i y hy
        exact ⟨r, r1, r2.num⟩
      · cases e
        cases e'
        omega
    · refine ⟨some (o, none), ⟨a, u, v, h1, h2, h3.num, h4.non S kT⟩, fun u c e l' e' => ?_⟩
      cases e
      cases e'
  · exact ⟨none, .inl (h.non S kT), fun u c e => by cases e⟩
  · exact ⟨none, .inr ⟨a, xs, h1, h2, h3⟩, fun u c e => by cases e⟩
theorem ThA.ints {K : PySem.W.Frag} {C p a : Addr} {H : Hp} {l : List Int} (h : SqT K H a (l.map V.int)) : ThA K C p H (.ref a) := by
  match l, h with
  | [i, j], h => exact .inl ⟨a, _, _, rfl, h, ⟨some i, rfl⟩, .inr (.inl (.inr (.inr (.inr ⟨j, rfl⟩))))⟩
  | [], h => exact .inr (.inr ⟨a, _, rfl, h, by decide⟩)
  | [i], h => exact .inr (.inr ⟨a, _, rfl, h, by simp⟩)
  | i :: j :: k :: l, h => exact .inr (.inr ⟨a, _, rfl, h, by simp⟩)
theorem SysAt.stp {K : PySem.W.Frag} {C q p : Addr} {H H' : Hp} {many : Nat} {ms : List Mv} (h : SysAt K C H q many ms) (hp : HandAt H p) (s : Stp p H H') : SysAt K C H' q many ms := by
  obtain ⟨dx, mv, h1, h2⟩ := h
  obtain ⟨ks, hk⟩ := hp.dk
  exact ⟨dx, mv, s.keep _ _ (ne_of h1 hk (by intro z; cases z)) h1, s.mvs hp h2⟩
theorem acc {T : Hp → V → Prop} {G G' : Hp} {xs : List V} {x : V} (I : ∀ y ∈ xs, T G y) (s : ∀ y, T G y → T G' y) (h : T G' x) : ∀ y ∈ xs ++ [x], T G' y := fun y hy => by
  rcases List.mem_append.mp hy with hy | hy
  · exact s y (I y hy)
  · rw [List.mem_singleton.mp hy]
    exact h
theorem VsA.ints {K : PySem.W.Frag} {C p a : Addr} {H : Hp} {l : List Int} (h : SqT K H a (l.map V.int)) (h2 : l.length ≤ 1000) : VsA K C p H (.ref a) := .inl ⟨a, _, rfl, h, by rw [List.length_map]; exact h2, fun x hx => by
  obtain ⟨i, _, rfl⟩ := List.mem_map.mp hx
  exact ⟨some i, rfl⟩⟩
section
variable {P : Program} {w : World} {K : PySem.W.Frag} {mg : Str → Option Value} {base : Heap}
def spDue (K : PySem.W.Frag) : Sp := fun vs H Q _ => ∃ (wd : Addr) (x : V) (o : Option (Option Int × Option (List (Option Int)))) (many : Nat) (Ls : List (List Int)) (ws : List Int), vs = [.ref wd, x] ∧ WAt K H wd many Ls ws ∧ WOk many Ls ws ∧ ThD K H x o ∧ (∀ u c, o = some (u, c) → Fit c) ∧ ∀ H', Same H H' → Q (.bl (jF Ls many o)) H'
abbrev nLawIsDue : List Str := ["world", "thing", "number", "coin"]
theorem scLawIsDue : FnScope nLawIsDue ["world", "thing"] (defScope s_law_is_due) := ⟨rfl, rfl, rfl, by decide +kernel, rfl, by decide +kernel, by decide +kernel⟩
theorem ok_is_due {f : Addr} {fd : FuncData} {fcDrawnL : Addr} {fdcDrawnL : FuncData} (F : Fun K "_law_is_due" "_law_is_due" s_law_is_due f fd) (T : NmA mg) (cDrawnL : Cl P w K mg base CX0 2 "_law_drawn" fcDrawnL fdcDrawnL ["world", "coins", "plan"] (spDrawnL K)) : FnOk P w K mg base CX0 3 f fd ["world", "thing"] (spDue K) := by
  refine F.ok scLawIsDue (fun vs H Q E h => ?_) (fun cdv A' outer s H vs Q E hr h => ?_)
  · obtain ⟨wd, x, o, many, Ls, ws, rfl, _⟩ := h
    rfl
  · obtain ⟨wd, x, o, many, Ls, ws, rfl, hW, wok, hT, fit, k⟩ := h
    have hu := hu_of hr
    refine ⟨_, pss_cons (ps_if (PW.pt (pw_or (pt_not (pt_val (pe_callB call_isi (by rfl) T.isi (by decide +kernel) (pa_cons (pv 1) (pa_cons (pe_bltn (v := .ty "tuple") (u := .type "tuple") (by rfl) T.tuple (by decide +kernel) rfl) pa_nil))))) (pw_or (pt_cmpR op_ne (pe_callB call_len_seq (by rfl) T.len PySem.boot_len (pa_cons (pv 1) pa_nil)) pe_int (nomark _)) (pw_or (pt_not (pt_val (pe_callB call_isi (by rfl) T.isi (by decide +kernel) (pa_cons (pe_ix ix_tup (pv 1) pe_int (fun _ _ => rfl)) (pa_cons (pe_bltn (v := .ty "tuple") (u := .type "tuple") (by rfl) T.tuple (by decide +kernel) rfl) pa_nil))))) (pw_or1 (pt_cmpR op_gt (pe_callB call_len_seq (by rfl) T.len PySem.boot_len (pa_cons (pe_ix ix_tup (pv 1) pe_int (fun _ _ => rfl)) pa_nil)) pe_int (nomark _)))))))
        (pss_one (ps_ret pe_bl)) pss_nil)
      (pss_cons (ps_for PassesOwn.never rfl (pi_list (pe_op op_cat (pe_lst (pa_cons (pe_ix ix_tup (pv 1) pe_int (fun _ _ => rfl)) pa_nil)) (pe_callTy call_list_of (by rfl) T.list (by decide +kernel) (pa_cons (pe_ix ix_tup (pv 1) pe_int (fun _ _ => rfl)) pa_nil)))) (pg_name (i := 2) scLawIsDue.nd rfl (Or.inl rfl))
        (pss_one (ps_if (PW.pt (pw_or (pt_not (pt_val (pe_callB call_isi (by rfl) T.isi (by decide +kernel) (pa_cons (pv 2) (pa_cons (pe_bltn (v := .ty "int") (u := .type "int") (by rfl) T.int (by decide +kernel) rfl) pa_nil))))) (pw_or (pt_val (pe_callB call_isi (by rfl) T.isi (by decide +kernel) (pa_cons (pv 2) (pa_cons (pe_bltn (v := .ty "bool") (u := .type "bool") (by rfl) T.bool (by decide +kernel) rfl) pa_nil)))) (pw_or1 (pt_cmpR op_lt (pv 2) pe_int (nomark _))))))
          (pss_one (ps_ret pe_bl)) pss_nil)))
      (pss_cons (ps_if (pt_not (pt_val (pe_callB (cr_all rfl) (by rfl) T.all (by decide +kernel) (pa_cons (pe_lc (own := [("coin", 3)]) (g := (gName 3)) (tt := tYes) rfl scLawIsDue.nd  (pi_tup (pe_ix ix_tup (pv 1) pe_int (fun _ _ => rfl))) (blkOk_by (own := [("coin", 3)]) (N := nLawIsDue) (sc := defScope s_law_is_due) (by decide +kernel)) (fun _ _ _ _ _ => (pg_name (i := 3) scLawIsDue.nd rfl (Or.inl rfl))) (fun _ _ _ _ _ => pts_nil) (fun _ _ _ _ _ => (pe_cmpR op_lt (pv 3) (pe_callB (r := rLenK K) (show CallR _ (.builtin "len") (rLenK K) from call_len_seq) (by rfl) T.len PySem.boot_len (pa_cons (pe_dget hu (pv 0) pe_str (fun _ _ => rfl)) pa_nil)) (nomark _)))) pa_nil))))
        (pss_one (ps_ret pe_bl)) pss_nil)
      (pss_one (ps_ret (pe_cmpR (op_eqD hr.units) (cDrawnL.call (hr.mono (by decide)) (pa_cons (pv 0) (pa_cons (pe_ix ix_tup (pv 1) pe_int (fun _ _ => rfl)) (pa_cons pe_str pa_nil)))) (pe_tup (pa_cons pe_str (pa_cons (pe_ix ix_tup (pv 1) pe_int (fun _ _ => rfl)) (pa_cons (pe_callB call_len_seq (by rfl) T.len PySem.boot_len (pa_cons (pe_ix ix_tup (pv 1) pe_int (fun _ _ => rfl)) pa_nil)) pa_nil)))) (nomark _)))))), ?_⟩
    have ld := lds_of wok
    have m1 := wok.m1
    have kI : PySem.W.kitOne K (.type "int") (.type "int") = some true := kit_ty (by decide +kernel)
    have kB : PySem.W.kitOne K (.type "int") (.type "bool") = some false := kit_ty (by decide +kernel)
    match o, hT, fit, k with
    | none, hT, fit, k =>
      rcases hT with ⟨t, h1, h2⟩ | ⟨a, xs, rfl, hX, hn⟩
      · exact ⟨_, rfl, _, _, _, _, _, rfl, .ty "tuple", h1, h2, _, rfl, iteT (k H (Same.refl H))⟩
      · refine ⟨_, rfl, _, _, _, _, _, rfl, .ty "tuple", tyx_tup hX, kit_tt, _, rfl, ?_⟩
        refine iteF ⟨_, rfl, a, _, rfl, .inr hX, rfl, _, rfl, ?_⟩
        rw [decide_eq_false (show ¬ V.int ((xs.length : Nat) : Int) = V.int 2 from fun z => hn (by injection z with z; omega))]
        exact iteT (k H (Same.refl H))
    | some (u, c), hT, fit, k =>
      obtain ⟨a, x1, v, rfl, hX, hu1, hv⟩ := hT
      have fc := fit u c rfl
      refine ⟨_, rfl, _, _, _, _, _, rfl, .ty "tuple", tyx_tup hX, kit_tt, _, rfl, ?_⟩
      refine iteF ⟨_, rfl, a, _, rfl, .inr hX, rfl, _, rfl, iteF ?_⟩
      have bad : ∀ H', Same H H' → jF Ls many (some (u, c)) = false → Q (.bl false) H' := fun H' s' e => by
        have z := k H' s'
        rw [e] at z
        exact z
      refine ⟨_, rfl, a, _, _, _, rfl, rfl, hX, atI_nat (i := 1) rfl, ?_⟩
      match c, hv, fc, k, bad with
      | none, hv, _, _, bad =>
        obtain ⟨t, h1, h2⟩ := hv
        refine ⟨_, _, _, _, _, rfl, .ty "tuple", h1, h2, _, rfl, iteT (bad H (Same.refl H) ?_)⟩
        cases u <;> rfl
      | some l, hv, fc, k, bad =>
        obtain ⟨ca, xs, rfl, hC, hN⟩ := hv
        have xl := hN.1
        have l1000 := fc l rfl
        refine ⟨_, _, _, _, _, rfl, .ty "tuple", tyx_tup hC, kit_tt, _, rfl, ?_⟩
        refine iteF ⟨_, rfl, a, _, _, _, rfl, rfl, hX, atI_nat (i := 1) rfl, ca, _, rfl, .inr hC, _, _, rfl, rfl, _, rfl, ?_⟩
        by_cases l4 : l.length ≤ 400
        · rw [decide_eq_false (show ¬ ((xs.length : Nat) : Int) > 400 by omega)]
          refine iteF ⟨_, rfl, a, _, _, _, rfl, rfl, hX, atI_nat (i := 0) rfl, by show 1 ≤ sizeLine; decide, fun l1 hl1 => ?_⟩
          refine new_step hl1 fun H1 s1 e1 => ?_
          refine ⟨_, rfl, a, _, _, _, rfl, rfl, s1.sqT hX, atI_nat (i := 1) rfl, ca, xs, rfl, .inr (s1.sqT hC), fun l2 hl2 => ?_⟩
          refine new_step hl2 fun H2 s2 e2 => ?_
          refine ⟨l1, l2, _, _, rfl, rfl, s2 _ _ e1, e2, by rw [sizeLine_eq]; show 1 + xs.length ≤ _; omega, fun l3 hl3 => ?_⟩
          refine new_step hl3 fun H3 s3 e3 => ?_
          have s03 := (s1.trans s2).trans s3
          have nums : NumsP K H3 ([x1] ++ xs) (u :: l) := by
            refine ⟨by show xs.length + 1 = l.length + 1; omega, fun i x hx => ?_⟩
            match i, hx with
            | 0, hx => exact ⟨u, rfl, (Option.some.inj hx) ▸ hu1.same s03⟩
            | i + 1, hx =>
              obtain ⟨o, h1, h2⟩ := hN.2 i x hx
              exact ⟨o, h1, h2.same s03⟩
          refine ⟨l3, rfl, ⟨_, SqL.of e3⟩, for_list (K := K) (a := l3) (xs := [x1] ++ xs) (fun i σ H' => H' = H3 ∧ (∀ j, j < i → j < (u :: l).length → ∃ z, (u :: l)[j]? = some (some z) ∧ 0 ≤ z) ∧ ∃ w : Option V, σ = [some (.ref wd), some (.ref a), w, none]) ⟨rfl, fun j hj => absurd hj (Nat.not_lt_zero _), none, rfl⟩ (fun i σ H' _ g => by rw [g.1]; exact SqL.of e3) ?_ ?_⟩
          · rintro i x σ H' hi ⟨rfl, al, w0, rfl⟩
            obtain ⟨o, ho, hp⟩ := nums.2 i x hi
            cases o with
            | some z =>
              have hp : x = .int z := hp
              subst hp
              refine ⟨_, rfl, _, _, _, _, _, rfl, .ty "int", .base (.int z), kI, _, rfl, iteF ⟨_, rfl, _, _, _, _, _, rfl, .ty "bool", .base (.int z), kB, _, rfl, iteF ⟨_, rfl, _, _, rfl, rfl, _, rfl, ?_⟩⟩⟩
              by_cases z0 : z < 0
              · rw [decide_eq_true z0]
                exact iteT (bad _ s03 (jF_bad ld ⟨some z, List.mem_of_getElem? ho, .inr ⟨z, rfl, z0⟩⟩))
              · rw [decide_eq_false z0]
                refine iteF ⟨rfl, fun j hj hjl => ?_, _, rfl⟩
                by_cases ji : j < i
                · exact al j ji hjl
                · rw [show j = i by omega]
                  exact ⟨z, ho, by omega⟩
            | none =>
              have jb := bad _ s03 (jF_bad ld ⟨none, List.mem_of_getElem? ho, .inl rfl⟩)
              obtain ⟨bi, bb, ⟨t, ht, k1, k2⟩, hf⟩ := hp
              cases bi with
              | false => exact ⟨_, rfl, _, _, _, _, _, rfl, .ty "int", ht, k1, _, rfl, iteT jb⟩
              | true =>
                cases bb with
                | true => exact ⟨_, rfl, _, _, _, _, _, rfl, .ty "int", ht, k1, _, rfl, iteF ⟨_, rfl, _, _, _, _, _, rfl, .ty "bool", ht, k2, _, rfl, iteT jb⟩⟩
                | false => cases hf
          · rintro σ H' ⟨rfl, al, w0, rfl⟩
            have all0 : ∀ o ∈ u :: l, ∃ z, o = some z ∧ 0 ≤ z := fun o ho => by
              obtain ⟨j, hj⟩ := List.getElem?_of_mem ho
              have jl := (List.getElem?_eq_some_iff.mp hj).1
              obtain ⟨z, h1, h2⟩ := al j (by rw [nums.1]; exact jl) jl
              rw [hj] at h1
              exact ⟨z, Option.some.inj h1, h2⟩
            obtain ⟨i, rfl, i0⟩ := all0 u List.mem_cons_self
            have hu1 : x1 = .int i := hu1
            subst hu1
            have alll : ∀ o ∈ l, ∃ z, o = some z ∧ 0 ≤ z := fun o ho => all0 o (List.mem_cons_of_mem _ ho)
            have hX3 := s03.sqT hX
            have hC3 := s03.sqT hC
            have W3 := hW.same s03
            obtain ⟨la, wa, vs, hwd, hla, hTs, _⟩ := id W3
            refine ⟨_, rfl, a, _, _, _, rfl, rfl, hX3, atI_nat (i := 1) rfl, ca, rfl, ⟨_, hC3⟩, fun D hD => ?_⟩
            refine lc_tup (K := K) (a := ca) (xs := xs) (fun j H4 => Same H' H4 ∧ H4 D = some (.lst (((l.take j).map (ltB Ls.length)).map V.bl))) ⟨Same.new hD, upd_same⟩ (fun j H4 _ g => g.1.sqT hC3) (fun j x H4 hj g => ?_) fun H4 g => ?_
            · obtain ⟨s4, g4⟩ := g
              obtain ⟨o, ho, hp⟩ := hN.2 j x hj
              obtain ⟨z, rfl, z0⟩ := alll o (List.mem_of_getElem? ho)
              have hp : x = .int z := hp
              subst hp
              have jl := (List.getElem?_eq_some_iff.mp ho).1
              refine ⟨rfl, _, rfl, _, rfl, wd, _, rfl, gw_leads (s4 _ _ hwd), la, _, rfl, .inl (SqL.of (s4 _ _ hla)), _, _, rfl, rfl, _, g4, ?_, s4.mut hD, ?_⟩
              · rw [List.length_map, List.length_map, List.length_take]
                exact small1000 (by omega)
              · rw [upd_same, List.take_add_one, ho, List.map_append, List.map_append, hTs.1] <;> rfl
            · obtain ⟨s4, g4⟩ := g
              rw [xl, List.take_length] at g4
              refine ⟨D, _, rfl, SqL.of g4, _, rfl, ?_⟩
              rw [all_map, lt_within alll]
              have s04 := s03.trans s4
              have jj : jF Ls many (some (some i, some l)) = (l.all (isO 0 ((Ls.length : Int) - 1)) && (decide (l.length ≤ 400) && decide (dpF Ls many (l.filterMap id) = some l.length ∧ (endsF Ls many (l.filterMap id)).getD 0 0 = i))) := rfl
              cases ha : l.all (isO 0 ((Ls.length : Int) - 1)) with
              | false =>
                rw [ha, Bool.false_and] at jj
                exact iteT (bad H4 s04 jj)
              | true =>
                rw [ha, Bool.true_and, decide_eq_true l4, Bool.true_and] at jj
                obtain ⟨ex, cok, fl⟩ := all_ints hN ha
                have c400 : (l.filterMap id).length ≤ 400 := by rw [fl]; exact l4
                rw [ex] at hC
                have hX4 := s04.sqT hX
                refine iteF ⟨_, rfl, _, rfl, a, _, _, _, rfl, rfl, hX4, atI_nat (i := 1) rfl, wd, ca, true, many, Ls, ws, l.filterMap id, rfl, hW.same s04, ld, s04.sqT hC, cok, c400, fun t H5 kk s5 r5 pk => ?_⟩
                have s05 := s04.trans s5
                have hX5 := s05.sqT hX
                refine ⟨_, rfl, a, _, _, _, rfl, rfl, hX5, atI_nat (i := 0) rfl, _, rfl, a, _, _, _, rfl, rfl, hX5, atI_nat (i := 1) rfl, ca, _, rfl, .inr (s05.sqT hC), by show 3 ≤ sizeLine; decide, fun z hz => ?_⟩
                refine new_step hz fun H6 s6 e6 => ?_
                refine ⟨resD kk (selF Ls many (upto many) (l.filterMap id) kk), toldD i (((l.filterMap id).length : Nat) : Int), dp_res (r5.same s6), ?_, sh_res _ _, shaped_of (lay_told _ _) (by decide), ?_⟩
                · rw [List.length_map] at e6
                  exact .tup (SqT.of e6) (.cons (.str _) (.cons (.int _) (.cons (.int _) .nil)))
                · rw [told_j ld cok pk]
                  have z := k H6 (s05.trans s6)
                  rw [jj, ← fl] at z
                  exact z
        · rw [decide_eq_true (show ((xs.length : Nat) : Int) > 400 by omega)]
          refine iteT (bad H (Same.refl H) ?_)
          cases u with
          | none => rfl
          | some i =>
            show (l.all _ && (decide (l.length ≤ 400) && _)) = false
            rw [decide_eq_false l4, Bool.false_and, Bool.and_false]
def spTells : Sp := fun vs H Q _ => ∃ (a b : Bool), vs = [.bl a, .bl b] ∧ Q (.bl (decide (a = b))) H
abbrev nLawTells : List Str := ["flag", "due"]
theorem scLawTells : FnScope nLawTells ["flag", "due"] (defScope s_law_tells) := ⟨rfl, rfl, rfl, by decide +kernel, rfl, by decide +kernel, by decide +kernel⟩
theorem ok_tells {f : Addr} {fd : FuncData} (F : Fun K "_law_tells" "_law_tells" s_law_tells f fd) (T : NmA mg) : FnOk P w K mg base CX0 1 f fd ["flag", "due"] spTells := by
  refine F.ok scLawTells (fun vs H Q E h => ?_) (fun cdv A' outer s H vs Q E hr h => ?_)
  · obtain ⟨a, b, rfl, _⟩ := h
    rfl
  · obtain ⟨a, b, rfl, k⟩ := h
    refine ⟨_, pss_one (ps_ret (pe_ifExp (pt_val (pv 1)) (pe_cmpR op_isBl (pv 0) pe_bl (nomark _)) (pe_cmpR op_isBl (pv 0) pe_bl (nomark _)))), ?_⟩
    cases b with
    | true => exact ⟨_, rfl, _, rfl, iteT ⟨_, rfl, a, true, rfl, rfl, k⟩⟩
    | false => exact ⟨_, rfl, _, rfl, iteF ⟨_, rfl, a, false, rfl, rfl, k⟩⟩
def spJudged (K : PySem.W.Frag) (C : Addr) : Sp := fun vs H Q _ => ∃ (p wd sy ca : Addr) (many : Nat) (Ls : List (List Int)) (ws cs : List Int), vs = [.ref p, .ref wd, .ref sy, .ref ca] ∧ HandAt H p ∧ SysAt K C H sy many (movesF Ls ws) ∧ WAt K H wd many Ls ws ∧ WOk many Ls ws ∧ SqT K H ca (cs.map V.int) ∧ CsOk Ls.length cs ∧ cs.length ≤ 400 ∧ ∀ H', Stp p H H' → Q (.bl true) H'
abbrev nLawAreJudged : List Str := ["hand", "world", "system", "coins", "told", "state", "few", "odd", "things", "turn", "thing"]
theorem scLawAreJudged : FnScope nLawAreJudged ["hand", "world", "system", "coins"] (defScope s_law_are_judged) := ⟨rfl, rfl, rfl, by decide +kernel, rfl, by decide +kernel, by decide +kernel⟩
theorem ok_are_judged {f : Addr} {fd : FuncData} {fcDrawnL : Addr} {fdcDrawnL : FuncData} {fD : Addr} {fdD : FuncData} {fA : Addr} {fdA : FuncData} {fcTells : Addr} {fdcTells : FuncData} {fcIsDrawn : Addr} {fdcIsDrawn : FuncData} {fcDue : Addr} {fdcDue : FuncData} {C : Addr} (F : Fun K "_law_are_judged" "_law_are_judged" s_law_are_judged f fd) (T : NmA mg) (cDrawnL : Cl P w K mg base CX0 2 "_law_drawn" fcDrawnL fdcDrawnL ["world", "coins", "plan"] (spDrawnL K)) (D : Cl P w K mg base CX0 1 "_law_draw" fD fdD ["hand", "many"] spDraw) (A : Cl P w K mg base CX0 2 "_law_any" fA fdA ["hand", "things"] (spAny K)) (cTells : Cl P w K mg base CX0 1 "_law_tells" fcTells fdcTells ["flag", "due"] spTells) (cIsDrawn : Cl P w K mg base CX0 6 "is_drawn" fcIsDrawn fdcIsDrawn ["system", "thing"] (spIsDrawn K C)) (cDue : Cl P w K mg base CX0 3 "_law_is_due" fcDue fdcDue ["world", "thing"] (spDue K)) (S : SysT K mg C) (kT : PySem.W.kitOne K (.ref C) (.type "tuple") = some false) : FnOk P w K mg base CX0 7 f fd ["hand", "world", "system", "coins"] (spJudged K C) := by
  refine F.ok scLawAreJudged (fun vs H Q E h => ?_) (fun cdv A' outer s H vs Q E hr h => ?_)
  · obtain ⟨p, wd, sy, ca, many, Ls, ws, cs, rfl, _⟩ := h
    rfl
  · obtain ⟨p, wd, sy, ca, many, Ls, ws, cs, rfl, hH, hS, hW, wok, hC, cok, c400, k⟩ := h
    have hu := hu_of hr
    refine ⟨_, pss_cons (ps_set (i := 4) scLawAreJudged.nd rfl (Or.inl rfl) (cDrawnL.call (hr.mono (by decide)) (pa_cons (pv 1) (pa_cons (pv 3) (pa_cons pe_str pa_nil)))))
      (Evl.pss_cut (ps_asg (pe_ifExp (pt_cmpR op_eq (pe_ix ix_tup (pv 4) pe_int (fun _ _ => rfl)) pe_str (nomark _)) (pe_tup (pa_cons (pe_ix ix_tup (pv 4) pe_int (fun _ _ => rfl)) (pa_cons (pe_slice sl_tupA (pv 3) po_none (po_some (pe_ix ix_tup (pv 4) pe_int (fun _ _ => rfl)))) pa_nil))) (pe_tup (pa_cons pe_int (pa_cons (pv 3) pa_nil)))) (pg_tup (by rfl) (pgs_cons (pg_name (i := 5) scLawAreJudged.nd rfl (Or.inl rfl)) (pgs_cons (pg_name (i := 6) scLawAreJudged.nd rfl (Or.inl rfl)) pgs_nil))))
      (pss_cons (ps_set (i := 7) scLawAreJudged.nd rfl (Or.inl rfl) (pe_lst (pa_cons pe_non (pa_cons pe_bl (pa_cons pe_bl (pa_cons pe_str (pa_cons (pe_tup (pa_cons pe_int pa_nil)) (pa_cons (pe_lst (pa_cons pe_int pa_nil)) (pa_cons (pe_un un_neg pe_int) (pa_cons (pe_callB call_len_seq (by rfl) T.len PySem.boot_len (pa_cons (pe_dget hu (pv 1) pe_str (fun _ _ => rfl)) pa_nil)) (pa_cons pe_dnewK pa_nil)))))))))))
      (pss_cons (ps_set (i := 8) scLawAreJudged.nd rfl (Or.inl rfl) (pe_lst (pa_cons (pe_tup (pa_cons (pv 5) (pa_cons (pv 6) pa_nil))) (pa_cons (pe_tup (pa_cons (pv 5) (pa_cons (pv 6) pa_nil))) (pa_cons (pe_tup (pa_cons (pv 5) (pa_cons (pe_op op_catA (pv 6) (pe_tup (pa_cons pe_int pa_nil))) pa_nil))) (pa_cons (pe_tup (pa_cons (pv 5) (pa_cons (pe_slice sl_tupA (pv 6) po_none (po_some (pe_un un_neg pe_int))) pa_nil))) (pa_cons (pe_tup (pa_cons (pv 5) (pa_cons (pv 3) pa_nil))) (pa_cons (pe_tup (pa_cons (pv 5) (pa_cons (pe_callTy call_list_of (by rfl) T.list (by decide +kernel) (pa_cons (pv 6) pa_nil)) pa_nil))) (pa_cons (pv 6) pa_nil)))))))))
      (pss_cons (ps_expr (pe_bm PySem.F.plainAttrs_list PySem.F.slot_list_extend PySem.F.type_list_extend mt_extend (pv 8) (pa_cons (pe_lst (pa_cons (pe_tup (pa_cons (D.call (hr.mono (by decide)) (pa_cons (pv 0) (pa_cons (pe_dget hu (pv 1) pe_str (fun _ _ => rfl)) pa_nil))) (pa_cons (pv 6) pa_nil))) (pa_cons (pe_tup (pa_cons (A.call (hr.mono (by decide)) (pa_cons (pv 0) (pa_cons (pv 7) pa_nil))) (pa_cons (pv 6) pa_nil))) (pa_cons (pe_tup (pa_cons (pv 5) (pa_cons (pe_op op_catA (pv 6) (pe_tup (pa_cons (A.call (hr.mono (by decide)) (pa_cons (pv 0) (pa_cons (pv 7) pa_nil))) pa_nil))) pa_nil))) pa_nil)))) pa_nil)))
      (pss_cons (ps_expr (pe_bm PySem.F.plainAttrs_list PySem.F.slot_list_extend PySem.F.type_list_extend mt_extend (pv 8) (pa_cons (pe_lst (pa_cons (pe_tup (pa_cons (pv 5) (pa_cons (pe_revT (pv 6)) pa_nil))) (pa_cons (pe_tup (pa_cons (pv 5) (pa_cons (pv 6) (pa_cons pe_int pa_nil)))) (pa_cons (pe_lst (pa_cons (pv 5) (pa_cons (pv 6) pa_nil))) (pa_cons pe_non (pa_cons (pe_tup pa_nil) (pa_cons (pe_tup (pa_cons (pv 5) (pa_cons pe_non pa_nil))) (pa_cons (pe_tup (pa_cons (pv 6) (pa_cons (pv 5) pa_nil))) (pa_cons (pe_tup (pa_cons (pv 5) (pa_cons (pe_tup pa_nil) pa_nil))) (pa_cons (pv 2) pa_nil)))))))))) pa_nil)))
      (pss_cons (ps_for PassesOwn.never rfl (pi_range1 (by rfl) T.range (pa_cons pe_int pa_nil)) (pg_name (i := 9) scLawAreJudged.nd rfl (Or.inl rfl))
        (pss_cons (ps_set (i := 10) scLawAreJudged.nd rfl (Or.inl rfl) (A.call (hr.mono (by decide)) (pa_cons (pv 0) (pa_cons (pv 8) pa_nil))))
        (pss_one (ps_if (pt_not (pt_val (cTells.call (hr.mono (by decide)) (pa_cons (cIsDrawn.call (hr.mono (by decide)) (pa_cons (pv 2) (pa_cons (pv 10) pa_nil))) (pa_cons (cDue.call (hr.mono (by decide)) (pa_cons (pv 1) (pa_cons (pv 10) pa_nil))) pa_nil)))))
          (pss_one (ps_ret pe_bl)) pss_nil))))
      (pss_one (ps_ret pe_bl)))))))), ?_⟩
    obtain ⟨la, wa, vs, hwd, hla, hTs, _⟩ := id hW
    have ld := lds_of wok
    have e1 := lds_moves Ls ws
    obtain ⟨dxs, mvs, hsy, _⟩ := id hS
    refine ⟨_, rfl, _, rfl, wd, ca, true, many, Ls, ws, cs, rfl, hW, ld, hC, cok, c400, fun t H1 kk s1 r1 pk => ?_⟩
    refine ⟨fun σ' H' => ∃ (st : Int) (fa : Addr) (fl : List Int), σ' = [some (.ref p), some (.ref wd), some (.ref sy), some (.ref ca), some (.ref t), some (.int st), some (.ref fa), none, none, none, none] ∧ Same H H' ∧ SqT K H' fa (fl.map V.int) ∧ fl.length ≤ 400, ?_, ?_⟩
    · rcases r1 with ⟨a, b⟩ | ⟨a, l, b, c⟩
      · refine ⟨_, rfl, t, _, _, _, rfl, rfl, b, atI_nat (i := 0) rfl, rfl, _, rfl, ?_⟩
        rw [decide_eq_true rfl]
        refine iteT ⟨_, rfl, t, _, _, _, rfl, rfl, b, atI_nat (i := 1) rfl, _, rfl, ?_⟩
        unfold tNoPart
        refine ⟨_, rfl, t, _, _, _, rfl, rfl, b, atI_nat (i := 2) rfl, _, rfl, sl_to (s1.sqT hC) fun fa H2 s2 h2 => ?_⟩
        refine ⟨by show 2 ≤ sizeLine; decide, fun z hz => ⟨z, _, rfl, SqT.of upd_same, rfl, _, _, rfl, _, _, rfl, rfl, ?_⟩⟩
        rw [← List.map_take] at h2
        exact ⟨_, fa, cs.take kk, rfl, (s1.trans s2).trans (Same.new hz), (Same.new hz).sqT h2, by rw [List.length_take]; omega⟩
      · refine ⟨_, rfl, t, _, _, _, rfl, rfl, b, atI_nat (i := 0) rfl, rfl, _, rfl, ?_⟩
        rw [dec_str, decide_eq_false (show ¬ ("undecided" : Str) = "told" by decide +kernel)]
        refine iteF ⟨_, rfl, by show 2 ≤ sizeLine; decide, fun z hz => ⟨z, _, rfl, SqT.of upd_same, rfl, _, _, rfl, _, _, rfl, rfl, ?_⟩⟩
        exact ⟨_, ca, cs, rfl, s1.trans (Same.new hz), (s1.trans (Same.new hz)).sqT hC, c400⟩
    · rintro σ' G ⟨st, fa, fl, rfl, sG, hF, fl4⟩
      have hHG := hH.same sG
      obtain ⟨kp, hp⟩ := hHG.dk
      have np : ∀ {G' : Hp} {b : Addr}, Same G G' → G' b = none → b ≠ p := fun {G' b} s z e => by rw [e, s _ _ hp] at z; cases z
      have fr : ∀ {G' : Hp} {b : Addr}, Same G G' → G' b = none → H b = none := fun s z => sG.free (s.free z)
      have int_ : ∀ {G' : Hp} (i : Int), NpA K p G' (.int i) := fun i => ⟨some i, rfl⟩
      refine ⟨by show 1 ≤ sizeLine; decide, fun o1 h1 => ?_⟩
      refine new_step h1 fun G1 s1 e1 => ?_
      refine ⟨by show 1 ≤ sizeLine; decide, fun o2 h2 => ?_⟩
      have o2p := np s1 h2
      refine new_step h2 fun G2 s2 e2 => ?_
      have s02 := s1.trans s2
      refine ⟨_, rfl, _, rfl, wd, _, rfl, gw_leads (s02 _ _ (sG _ _ hwd)), la, _, rfl, .inl (SqL.of (s02 _ _ (sG _ _ hla))), fun o3 h3 => ?_⟩
      have o3p := np s02 h3
      refine new_step h3 fun G3 s3 e3 => ?_
      refine ⟨by show 9 ≤ sizeLine; decide, fun od hod => ?_⟩
      have s03 := s02.trans s3
      have odp := np s03 hod
      have od0 := fr s03 hod
      have I0 : ∀ x ∈ [V.non, .bl true, .bl false, .str "0", .ref o1, .ref o2, .int (-1), .int ((vs.length : Nat) : Int), .ref o3], NpA K p G3 x := fun x hx => by
        simp only [List.mem_cons, List.not_mem_nil, or_false] at hx
        rcases hx with rfl | rfl | rfl | rfl | rfl | rfl | rfl | rfl | rfl
        · exact ⟨none, .inl (.inl rfl)⟩
        · exact ⟨none, .inl (.inr (.inl ⟨_, rfl⟩))⟩
        · exact ⟨none, .inl (.inr (.inl ⟨_, rfl⟩))⟩
        · exact ⟨none, .inl (.inr (.inr ⟨_, rfl⟩))⟩
        · exact ⟨none, .inr (.inr ⟨o1, _, rfl, (s2.trans s3).sqT (SqT.of e1)⟩)⟩
        · exact ⟨none, .inr (.inl ⟨o2, rfl, o2p, .inl ⟨_, s3 _ _ e2⟩⟩)⟩
        · exact ⟨some _, rfl⟩
        · exact ⟨some _, rfl⟩
        · exact ⟨none, .inr (.inl ⟨o3, rfl, o3p, .inr ⟨_, e3⟩⟩)⟩
      have s0G := sG.trans s03
      clear e1 e2 e3 h1 h2 h3 s1 s2 s3 s02
      refine new_step hod fun G4 s4 eod => ?_
      have I4 := fun x hx => (I0 x hx).map (.same s4)
      have s04 := s03.trans s4
      clear I0
      generalize hods : [V.non, .bl true, .bl false, .str "0", .ref o1, .ref o2, .int (-1), .int ((vs.length : Nat) : Int), .ref o3] = ods at I4 eod
      have odl : ods.length = 9 := by rw [← hods]; rfl
      clear hods
      have w1 := s0G.trans s4
      refine ⟨_, rfl, _, rfl, by show 2 ≤ sizeLine; decide, fun t1 g1 => ?_⟩
      refine new_step g1 fun G5 s5 e5 => ?_
      refine ⟨_, rfl, _, rfl, by show 2 ≤ sizeLine; decide, fun t2 g2 => ?_⟩
      refine new_step g2 fun G6 s6 e6 => ?_
      refine ⟨_, rfl, _, rfl, by show 1 ≤ sizeLine; decide, fun z1 hz1 => ?_⟩
      refine new_step hz1 fun G7 s7 e7 => ?_
      refine catT (((((s04.trans s5).trans s6).trans s7)).sqT hF) (SqT.of e7) (by rw [List.length_map]; show fl.length + 1 ≤ 1000; omega) fun c3 G8 s8 h8 => ?_
      refine ⟨by show 2 ≤ sizeLine; decide, fun t3 g3 => ?_⟩
      refine new_step g3 fun G9 s9 e9 => ?_
      have s49 := (((s5.trans s6).trans s7).trans s8).trans s9
      have s09 := s04.trans s49
      refine ⟨_, rfl, _, rfl, ?_⟩
      unfold tNoPart
      refine ⟨_, rfl, _, rfl, slT (s09.sqT hF) fun c4 G10 s10 h10 => ?_⟩
      refine ⟨by show 2 ≤ sizeLine; decide, fun t4 g4 => ?_⟩
      refine new_step g4 fun G11 s11 e11 => ?_
      refine ⟨_, rfl, _, rfl, by show 2 ≤ sizeLine; decide, fun t5 g5 => ?_⟩
      refine new_step g5 fun G12 s12 e12 => ?_
      have s911 := (s10.trans s11).trans s12
      refine ⟨_, rfl, _, rfl, fa, _, rfl, .inr ((s09.trans s911).sqT hF), fun l6 g6 => ?_⟩
      have l6p := np ((s03.trans s4).trans (s49.trans s911)) g6
      refine new_step g6 fun G13 s13 e13 => ?_
      refine ⟨by show 2 ≤ sizeLine; decide, fun t6 g7 => ?_⟩
      refine new_step g7 fun G14 s14 e14 => ?_
      refine ⟨_, rfl, by show 7 ≤ sizeLine; decide, fun ol hol => ?_⟩
      have s914 := (s911.trans s13).trans s14
      have s414 := s49.trans s914
      have s014 := s04.trans s414
      have vf : ∀ {G' : Hp}, Same G G' → VsA K C p G' (.ref fa) := fun {G'} s => VsA.ints (s.sqT hF) (by omega)
      have vany : ∀ {G' : Hp} {a : Addr} {ys : List V}, SqT K G' a ys → ys.length ≤ 1000 → (∀ y ∈ ys, ∃ i, y = .int i) → VsA K C p G' (.ref a) := fun {G' a ys} h hl hi => .inl ⟨a, _, rfl, h, hl, fun y hy => by
        obtain ⟨i, rfl⟩ := hi y hy
        exact ⟨some i, rfl⟩⟩
      have fi : ∀ y ∈ fl.map V.int, ∃ i, y = V.int i := fun y hy => by
        obtain ⟨i, _, rfl⟩ := List.mem_map.mp hy
        exact ⟨i, rfl⟩
      have J0 : ∀ x ∈ [V.ref t1, .ref t2, .ref t3, .ref t4, .ref t5, .ref t6, .ref fa], ThA K C p G14 x := fun x hx => by
        simp only [List.mem_cons, List.not_mem_nil, or_false] at hx
        rcases hx with rfl | rfl | rfl | rfl | rfl | rfl | rfl
        · exact .inl ⟨t1, _, _, rfl, (((((s6.trans s7).trans s8).trans s9).trans s914)).sqT (SqT.of e5), int_ _, vf s014⟩
        · exact .inl ⟨t2, _, _, rfl, ((((s7.trans s8).trans s9).trans s914)).sqT (SqT.of e6), int_ _, vf s014⟩
        · refine .inl ⟨t3, _, _, rfl, s914.sqT (SqT.of e9), int_ _, vany ((s9.trans s914).sqT h8) (by rw [List.length_append, List.length_map]; show fl.length + 1 ≤ 1000; omega) fun y hy => ?_⟩
          rcases List.mem_append.mp hy with hy | hy
          · exact fi y hy
          · exact ⟨0, List.mem_singleton.mp hy⟩
        · exact .inl ⟨t4, _, _, rfl, ((s12.trans s13).trans s14).sqT (SqT.of e11), int_ _, vany ((((s11.trans s12).trans s13).trans s14).sqT h10) (Nat.le_trans cutV_len (by rw [List.length_map]; omega)) fun y hy => fi y (mem_cutV hy)⟩
        · exact .inl ⟨t5, _, _, rfl, (s13.trans s14).sqT (SqT.of e12), int_ _, VsA.ints (((sG.trans s014).sqT hC)) (by omega)⟩
        · exact .inl ⟨t6, _, _, rfl, SqT.of e14, int_ _, .inr (.inr (.inl ⟨l6, rfl, l6p, .inl ⟨_, s14 _ _ e13⟩⟩))⟩
        · exact ThA.ints (s014.sqT hF)
      clear e5 e6 e7 h8 e9 h10 e11 e12 e13 e14 g1 g2 g3 g4 g5 g6 g7
      have t14 := s04.trans s414
      have olp := np s014 hol
      have ol0 := fr s014 hol
      have eod14 := s414 _ _ eod
      have I14 := fun x hx => (I4 x hx).map (.same s414)
      clear s5 s6 s7 s8 s9 s49 s10 s11 s12 s911 s13 s14 s914 s03 s04 s4 I4 eod s414 t14 hz1
      refine new_step hol fun G15 s15 eol => ?_
      have J15 := fun x hx => (J0 x hx).map (.same s15)
      have I15 := fun x hx => (I14 x hx).map (.same s15)
      have eod15 := s15 _ _ eod14
      have s015 := s014.trans s15
      clear J0 I14 eod14 s014 s15 w1
      generalize hth : [V.ref t1, .ref t2, .ref t3, .ref t4, .ref t5, .ref t6, .ref fa] = ths at J15 eol
      have thl : ths.length = 7 := by rw [← hth]; rfl
      clear hth
      have HP15 := hHG.same s015
      refine ⟨_, rfl, .inl ⟨rfl, _, SqL.of eol⟩, ?_⟩
      have m1 := ld.m1
      have m2 := ld.m2
      refine ⟨_, rfl, _, rfl, wd, _, rfl, gw_many (s015 _ _ (sG _ _ hwd)), p, many, rfl, by omega, by omega, HP15, fun d G16 d0 d1 S16 => ?_⟩
      refine ⟨_, rfl, by show 2 ≤ sizeLine; decide, fun t1 g1 => ?_⟩
      refine new_step g1 fun G17 s17 e17 => ?_
      have S17 := S16.post s17
      refine ⟨_, rfl, _, rfl, p, od, ods, rfl, .inl (SqL.of (S17.keep _ _ odp eod15)), by omega, by omega, S17.hand, fun i1 x1 G18 hx1 S18 => ?_⟩
      refine ⟨_, rfl, by show 2 ≤ sizeLine; decide, fun t2 g2 => ?_⟩
      refine new_step g2 fun G19 s19 e19 => ?_
      have S19 := S18.post s19
      have S159 := S17.trans S19
      refine ⟨_, rfl, _, rfl, _, rfl, _, rfl, p, od, ods, rfl, .inl (SqL.of (S159.keep _ _ odp eod15)), by omega, by omega, S19.hand, fun i2 x2 G20 hx2 S20 => ?_⟩
      refine ⟨by show 1 ≤ sizeLine; decide, fun z1 hz1 => ?_⟩
      refine new_step hz1 fun G21 s21 e21 => ?_
      have S21 := S20.post s21
      have S151 := S159.trans S21
      have hF21 := S151.sqT HP15 (s015.sqT hF)
      refine catT hF21 (SqT.of e21) (by rw [List.length_map]; show fl.length + 1 ≤ 1000; omega) fun c3 G22 s22 h22 => ?_
      refine ⟨by show 2 ≤ sizeLine; decide, fun t3 g3 => ?_⟩
      refine new_step g3 fun G23 s23 e23 => ?_
      refine ⟨by show 3 ≤ sizeLine; decide, fun lx hlx => ?_⟩
      have s223 := s22.trans s23
      have S153 := S151.post s223
      have lxp : lx ≠ p := fun e => by
        obtain ⟨ks, hk⟩ := S153.hand.dk
        rw [e, hk] at hlx
        cases hlx
      have X0 : ∀ x ∈ [V.ref t1, .ref t2, .ref t3], ThA K C p G23 x := fun x hx => by
        simp only [List.mem_cons, List.not_mem_nil, or_false] at hx
        rcases hx with rfl | rfl | rfl
        · exact .inl ⟨t1, _, _, rfl, (S19.trans (S21.post s223)).sqT S17.hand (SqT.of e17), int_ _, VsA.ints (S153.sqT HP15 (s015.sqT hF)) (by omega)⟩
        · exact .inl ⟨t2, _, _, rfl, (S21.post s223).sqT S19.hand (SqT.of e19), ((((I15 x1 (List.mem_of_getElem? hx1)).map (.stp HP15 S17)).map (.stp S17.hand S19)).map (.stp S19.hand (S21.post s223))), VsA.ints (S153.sqT HP15 (s015.sqT hF)) (by omega)⟩
        · refine .inl ⟨t3, _, _, rfl, SqT.of e23, int_ _, .inl ⟨c3, _, rfl, s23.sqT h22, by rw [List.length_append, List.length_map]; show fl.length + 1 ≤ 1000; omega, fun y hy => ?_⟩⟩
          rcases List.mem_append.mp hy with hy | hy
          · obtain ⟨i, _, rfl⟩ := List.mem_map.mp hy
            exact ⟨some i, rfl⟩
          · rw [List.mem_singleton.mp hy]
            exact ((I15 x2 (List.mem_of_getElem? hx2)).map (.stp HP15 S159)).map (.stp S19.hand (S21.post s223))
      have J23 := fun x hx => (J15 x hx).map (.stp HP15 S153)
      have eol23 := S153.keep _ _ olp eol
      clear e17 e19 e21 h22 e23 hF21 g1 g2 g3 hz1 J15 I15 eol eod15 s223 S151 S159
      refine new_step hlx fun G24 s24 e24 => ?_
      have S154 := S153.post s24
      have J24 : ∀ x ∈ ths ++ [V.ref t1, .ref t2, .ref t3], ThA K C p G24 x := fun x hx => by
        rcases List.mem_append.mp hx with hx | hx
        · exact (J23 x hx).map (.same s24)
        · exact (X0 x hx).map (.same s24)
      have eol24 := s24 _ _ eol23
      refine ⟨ol, lx, _, _, rfl, rfl, eol24, e24, by rw [thl]; show 10 ≤ sizeLine; decide, ?_⟩
      clear J23 X0 eol23
      generalize hth : ths ++ [V.ref t1, .ref t2, .ref t3] = ths2 at J24 ⊢
      have thl2 : ths2.length = 10 := by rw [← hth, List.length_append, thl]; rfl
      clear hth
      have S0L : Stp p H (upd G24 ol (.lst ths2)) := Stp.mut hH ((Stp.of hH (sG.trans s015)).trans S154) ol0
      have JL := fun x hx => (J24 x hx).map (.updL (ys := ths2) eol24)
      have hFL : SqT K (upd G24 ol (.lst ths2)) fa (fl.map V.int) := sqT_upd eol24 (S154.sqT HP15 (s015.sqT hF))
      have eolL : (upd G24 ol (.lst ths2)) ol = some (.lst ths2) := upd_same
      clear J24 eol24 S154 S153 S19 S21 S17 S16 s24 e24 hlx s22 s23 s21 s19 s17
      generalize upd G24 ol (.lst ths2) = G at S0L JL hFL eolL ⊢
      have np2 : ∀ {G' : Hp} {b : Addr}, Same G G' → G' b = none → b ≠ p := fun {G' b} s z e => by
        obtain ⟨ks, hk⟩ := S0L.hand.dk
        rw [e, s _ _ hk] at z
        cases z
      refine ⟨_, rfl, .inl ⟨rfl, _, SqL.of eolL⟩, _, rfl, _, rfl, fa, _, rfl, hFL, fun c1 hc1 => ?_⟩
      refine new_step hc1 fun G1 s1 e1 => ?_
      refine ⟨by show 2 ≤ sizeLine; decide, fun t1 g1 => ?_⟩
      refine new_step g1 fun G2 s2 e2 => ?_
      refine ⟨_, rfl, _, rfl, by show 3 ≤ sizeLine; decide, fun t2 g2 => ?_⟩
      refine new_step g2 fun G3 s3 e3 => ?_
      refine ⟨_, rfl, _, rfl, by show 2 ≤ sizeLine; decide, fun l3 g3 => ?_⟩
      have l3p := np2 ((s1.trans s2).trans s3) g3
      refine new_step g3 fun G4 s4 e4 => ?_
      refine ⟨by show 0 ≤ sizeLine; decide, fun t4 g4 => ?_⟩
      refine new_step g4 fun G5 s5 e5 => ?_
      refine ⟨_, rfl, by show 2 ≤ sizeLine; decide, fun t5 g5 => ?_⟩
      refine new_step g5 fun G6 s6 e6 => ?_
      refine ⟨_, rfl, _, rfl, by show 2 ≤ sizeLine; decide, fun t6 g6 => ?_⟩
      refine new_step g6 fun G7 s7 e7 => ?_
      refine ⟨_, rfl, by show 0 ≤ sizeLine; decide, fun z7 hz7 => ?_⟩
      refine new_step hz7 fun G8 s8 e8 => ?_
      refine ⟨by show 2 ≤ sizeLine; decide, fun t7 g7 => ?_⟩
      refine new_step g7 fun G9 s9 e9 => ?_
      refine ⟨_, rfl, by show 9 ≤ sizeLine; decide, fun lx hlx => ?_⟩
      have s69 := (s7.trans s8).trans s9
      have s39 := ((s4.trans s5).trans s6).trans s69
      have s09 := ((s1.trans s2).trans s3).trans s39
      have vfa : ∀ {G' : Hp}, Same G G' → NpA K p G' (.ref fa) := fun {G'} s => ⟨none, .inr (.inr ⟨fa, _, rfl, s.sqT hFL⟩)⟩
      have X0 : ∀ x ∈ [V.ref t1, .ref t2, .ref l3, .non, .ref t4, .ref t5, .ref t6, .ref t7, .ref sy], ThA K C p G9 x := fun x hx => by
        simp only [List.mem_cons, List.not_mem_nil, or_false] at hx
        rcases hx with rfl | rfl | rfl | rfl | rfl | rfl | rfl | rfl | rfl
        · refine .inl ⟨t1, _, _, rfl, (s3.trans s39).sqT (SqT.of e2), int_ _, .inl ⟨c1, _, rfl, ((s2.trans s3).trans s39).sqT (SqT.of e1), by rw [List.length_reverse, List.length_map]; omega, fun y hy => ?_⟩⟩
          obtain ⟨i, _, rfl⟩ := List.mem_map.mp (List.mem_reverse.mp hy)
          exact ⟨some i, rfl⟩
        · exact .inr (.inr ⟨t2, _, rfl, s39.sqT (SqT.of e3), by simp⟩)
        · exact .inr (.inl (.inr (.inl ⟨l3, rfl, l3p, .inl ⟨_, ((s5.trans s6).trans s69) _ _ e4⟩⟩)))
        · exact .inr (.inl (.inl (.inl rfl)))
        · exact .inr (.inr ⟨t4, _, rfl, (s6.trans s69).sqT (SqT.of e5), by simp⟩)
        · exact .inl ⟨t5, _, _, rfl, s69.sqT (SqT.of e6), int_ _, .inr (.inl (.inl rfl))⟩
        · exact .inl ⟨t6, _, _, rfl, (s8.trans s9).sqT (SqT.of e7), vfa s09, .inr (.inl (.inr (.inr (.inr ⟨_, rfl⟩))))⟩
        · exact .inl ⟨t7, _, _, rfl, SqT.of e9, int_ _, .inl ⟨z7, _, rfl, s9.sqT (SqT.of e8), by decide, fun y hy => absurd hy List.not_mem_nil⟩⟩
        · exact .inr (.inl (.inr (.inr ⟨sy, _, _, rfl, (S0L.post s09).keep _ _ (ne_of hsy hH.dk.choose_spec (by intro z; cases z)) hsy⟩)))
      have J9 := fun x hx => (JL x hx).map (.same s09)
      have eol9 := s09 _ _ eolL
      clear e1 e2 e3 e4 e5 e6 e7 e8 e9 hc1 g1 g2 g3 g4 g5 g6 hz7 g7 JL eolL vfa s1 s2 s3 s4 s5 s6 s7 s8 s9 s69 s39
      refine new_step hlx fun G10 s10 e10 => ?_
      have J10 : ∀ x ∈ ths2 ++ [V.ref t1, .ref t2, .ref l3, .non, .ref t4, .ref t5, .ref t6, .ref t7, .ref sy], ThA K C p G10 x := fun x hx => by
        rcases List.mem_append.mp hx with hx | hx
        · exact (J9 x hx).map (.same s10)
        · exact (X0 x hx).map (.same s10)
      have eol10 := s10 _ _ eol9
      refine ⟨ol, lx, _, _, rfl, rfl, eol10, e10, by rw [thl2]; show 19 ≤ sizeLine; decide, ?_⟩
      generalize hth : ths2 ++ [V.ref t1, .ref t2, .ref l3, .non, .ref t4, .ref t5, .ref t6, .ref t7, .ref sy] = th3 at J10 ⊢
      have thl3 : th3.length = 19 := by rw [← hth, List.length_append, thl2]; rfl
      clear hth J9 X0 eol9
      have S0M : Stp p H (upd G10 ol (.lst th3)) := Stp.mut hH (S0L.post (s09.trans s10)) ol0
      have JM := fun x hx => (J10 x hx).map (.updL (ys := th3) eol10)
      have eolM : (upd G10 ol (.lst th3)) ol = some (.lst th3) := upd_same
      clear J10 eol10 S0L s09 s10 e10 hlx np2
      generalize upd G10 ol (.lst th3) = G at S0M JM eolM ⊢
      refine ⟨6, rfl, by decide, by decide, for_range (lo := 0) (n := 6) (fun i σ H' => Stp p H H' ∧ (∀ x ∈ th3, ThA K C p H' x) ∧ H' ol = some (.lst th3) ∧ ∃ u v : Option V, σ = [some (.ref p), some (.ref wd), some (.ref sy), some (.ref ca), some (.ref t), some (.int st), some (.ref fa), some (.ref od), some (.ref ol), u, v]) ⟨S0M, JM, eolM, none, none, rfl⟩ ?_ ?_⟩
      · rintro i σ H' hi ⟨S5, J5, eol5, u, v, rfl⟩
        refine ⟨_, rfl, _, rfl, p, ol, th3, rfl, .inl (SqL.of eol5), by omega, by omega, S5.hand, fun j x H6 hx S6 => ?_⟩
        have S56 := S5.trans S6
        have J6 := fun x hx => (J5 x hx).map (.stp S5.hand S6)
        obtain ⟨o, hT, fit⟩ := (J6 x (List.mem_of_getElem? hx)).thd S kT
        have Y6 := hS.stp hH S56
        have W6 := hW.kp S56.kp hH
        refine ⟨_, rfl, _, rfl, sy, x, o, many, movesF Ls ws, rfl, Y6, by rw [e1]; exact ld, hT, fit, fun H7 s7 => ?_⟩
        rw [e1]
        refine ⟨_, rfl, _, rfl, wd, x, o, many, Ls, ws, rfl, W6.same s7, wok, hT.same s7, fit, fun H8 s8 => ?_⟩
        refine ⟨_, _, rfl, ?_⟩
        rw [decide_eq_true rfl]
        refine ⟨_, rfl, ?_⟩
        refine iteF ⟨S56.post (s7.trans s8), fun y hy => (J6 y hy).map (.same (s7.trans s8)), (s7.trans s8) _ _ (S6.keep _ _ olp eol5), _, _, rfl⟩
      · rintro σ H' ⟨S5, J5, eol5, u, v, rfl⟩
        exact k _ S5
end
end Law

namespace Law
open PySem L2 TL
theorem for_len {c : TT} {ta te : TE} {g : TG} {tb : TS} {E : Ends} {σ : St} {H : Hp} (R : Nat → Hp → Prop) (hb : ∀ N H1, R N H1 → N < 1000) (h : ∀ Q : VK, (∀ N H1, R N H1 → Q (.int ((N : Nat) : Int)) H1) → tIf c ta te σ H Q) (key : ∀ N H1, R N H1 → ∃ W : Nat → Nat → St → Hp → Prop, (∃ m, W 0 m σ H1) ∧ ∀ i m σ H, W i m σ H → ((Itr 0 N).stop i H ∧ E.nx σ H) ∨ ((Itr 0 N).go i H ∧ ∃ M : St → Hp → Prop, (∀ σ' H', M σ' H' → ∃ m', m' < m ∧ W (i + 1) m' σ' H') ∧ ∀ x H', (Itr 0 N).yld i H x H' → g x σ H' fun σ2 H2 => tb { E with nx := M, ct := M, bk := E.nx } σ2 H2)) : tFor (iRng1 (tCons (tIf c ta te) tNil)) g tb E σ H := by
  refine h _ fun N H1 r => ?_
  have := hb N H1 r
  refine ⟨_, rfl, by omega, by omega, ?_⟩
  rw [Int.toNat_natCast]
  exact key N H1 r
theorem mrg {te : TE} {σ : St} {H : Hp} {Q : VK} (R : V → Hp → Prop) (h : ∀ Q' : VK, (∀ x H1, R x H1 → Q' x H1) → te σ H Q') (key : ∀ x H1, R x H1 → Q x H1) : te σ H Q := h Q key
theorem if_or {t1 t2 : TT} {A B : TS} {E : Ends} {σ : St} {H : Hp} (R : Bool → Hp → Prop) (h : ∀ Q' : Bool → Hp → Prop, (∀ b H1, R b H1 → Q' b H1) → tOr t1 t2 σ H Q') (key : ∀ b H1, R b H1 → if b = true then A E σ H1 else B E σ H1) : tIfS (tOr t1 t2) A B E σ H := h _ key
theorem lay_st (o : Option Nat) (e : List Int) : (stD o e).canLay0 = true ∧ (stD o e).depth ≤ 1 := by
  unfold stD
  cases o <;> exact ⟨by simp only [PyData.canLay0], by simp only [PyData.depth]; omega⟩
theorem not_joinL {x s : Nat} (hs : x ≠ s) : ∀ {ps : List (List Nat)}, (∀ p ∈ ps, x ∉ p) → x ∉ joinL [s] ps
  | [], _ => List.not_mem_nil
  | [p], h => h p List.mem_cons_self
  | p :: q :: r, h => by
    have ih := not_joinL hs (ps := q :: r) fun y hy => h y (List.mem_cons_of_mem _ hy)
    show x ∉ p ++ ([s] ++ joinL [s] (q :: r))
    intro m
    rcases List.mem_append.mp m with m | m
    · exact h p List.mem_cons_self m
    · rcases List.mem_append.mp m with m | m
      · exact hs (List.mem_singleton.mp m)
      · exact ih m
theorem txt_facts {n : Nat} {cs : List Int} (hn : n ≤ 1000) (ok : CsOk n cs) (l4 : cs.length ≤ 400) : (txtF cs).length ≤ 1601 ∧ (wdsOf (cutL (txtF cs)).1).length ≤ 400 := by
  have small := len_num hn ok
  have dig : ∀ p ∈ cs.map (fun c => numL c.toNat), ∀ x, (x = 10 ∨ x = 32) → x ∉ p := fun p hp x hx m => by
    obtain ⟨c, _, rfl⟩ := List.mem_map.mp hp
    have := numL_digits c.toNat x m
    omega
  have j := len_joinL (cs.map fun c => numL c.toNat) 3 fun p hp => by
    obtain ⟨c, hc, rfl⟩ := List.mem_map.mp hp
    exact small c hc
  rw [List.length_map] at j
  refine ⟨?_, ?_⟩
  · unfold txtF
    rw [List.length_append]
    show _ + 1 ≤ _
    omega
  · have e : cutL (txtF cs) = (joinL [32] (cs.map fun c => numL c.toNat), true, []) := cutL_at rfl (not_joinL (by decide) fun p hp => dig p hp 10 (.inl rfl))
    rw [e]
    unfold wdsOf
    by_cases z : joinL [32] (cs.map fun c => numL c.toNat) = []
    · rw [if_pos z]
      exact Nat.zero_le _
    · rw [if_neg z, TL.spl_join (fun e0 => z (by rw [e0] <;> rfl)) fun p hp => dig p hp 32 (.inr rfl), List.length_map]
      exact l4
/-- a Drawer that has read cs, without its system -/
def DrO (K : PySem.W.Frag) (D : Addr) (H : Hp) (q sy : Addr) (many : Nat) (Ls : List (List Int)) (cs : List Int) : Prop := ∃ dx ca la, H q = some (.ins D dx (drL sy ca la (dpV (dpF Ls many cs)))) ∧ SqT K H ca (cs.map V.int) ∧ SqT K H la ((endsF Ls many cs).map V.int)
theorem DrO.map {K : PySem.W.Frag} {D p q sy : Addr} {H H' : Hp} {many : Nat} {Ls : List (List Int)} {cs : List Int} (h : DrO K D H q sy many Ls cs) (k : Keeps K p H H') : DrO K D H' q sy many Ls cs := by
  obtain ⟨dx, ca, la, h1, h2, h3⟩ := h
  exact ⟨dx, ca, la, k.ins _ _ _ _ h1, k.tup _ _ h2, k.tup _ _ h3⟩
theorem DrO.at {K : PySem.W.Frag} {C D q sy : Addr} {H : Hp} {many : Nat} {Ls : List (List Int)} {ws cs : List Int} (h : DrO K D H q sy many Ls cs) (hS : SysAt K C H sy many (movesF Ls ws)) : DrAt K C D H q sy many (movesF Ls ws) cs := by
  obtain ⟨dx, ca, la, h1, h2, h3⟩ := h
  exact ⟨dx, ca, la, by rw [lds_moves]; exact h1, hS, h2, by rw [lds_moves]; exact h3⟩
theorem DrO.of {K : PySem.W.Frag} {C D q sy : Addr} {H : Hp} {many : Nat} {Ls : List (List Int)} {ws cs : List Int} (h : DrAt K C D H q sy many (movesF Ls ws) cs) : DrO K D H q sy many Ls cs := by
  obtain ⟨dx, ca, la, h1, _, h2, h3⟩ := h
  rw [lds_moves] at h1 h3
  exact ⟨dx, ca, la, h1, h2, h3⟩
theorem Stp.kq {p q : Addr} {H H' H2 : Hp} (h : HandAt H p) (S : Stp p H H') (hq : H q = none) (k : ∀ b o, b ≠ q → H' b = some o → H2 b = some o) : Stp p H H2 := by
  obtain ⟨ca, cells, a, g, s, t, hp, hc, _⟩ := h
  obtain ⟨cb, cells', a', g', s', t', hp', hc', r⟩ := S.hand
  have e : ca = cb := cell_eq hp' (S.cell ca ⟨a, g, s, t, hp⟩)
  have n1 : p ≠ q := ne_of_none hp hq
  have n2 : cb ≠ q := e ▸ ne_of_none hc hq
  exact ⟨fun b o n e => k _ _ (ne_of_none e hq) (S.keep b o n e), fun c hc => by
    obtain ⟨x1, x2, x3, x4, x5⟩ := S.cell c hc
    exact ⟨x1, x2, x3, x4, k _ _ n1 x5⟩, cb, cells', a', g', s', t', k _ _ n1 hp', k _ _ n2 hc', r⟩
/-- Drawers and what each of them has read -/
structure HsAt (K : PySem.W.Frag) (D : Addr) (Hb : Hp) (hl al sy : Addr) (many : Nat) (Ls : List (List Int)) (css : List (List Int)) (qs as : List Addr) (H : Hp) : Prop where
  h : H hl = some (.lst (qs.map V.ref))
  a : H al = some (.lst (as.map V.ref))
  ql : qs.length = css.length
  al : as.length = css.length
  nd : qs.Nodup
  nb : ∀ q ∈ qs, Hb q = none
  dr : ∀ (i : Nat) q cs, qs[i]? = some q → css[i]? = some cs → DrO K D H q sy many Ls cs
  ac : ∀ (i : Nat) x cs, as[i]? = some x → css[i]? = some cs → SqT K H x (cs.map V.int)
theorem HsAt.stp {K : PySem.W.Frag} {D p hl al sy : Addr} {Hb H H' : Hp} {many : Nat} {Ls css : List (List Int)} {qs as : List Addr} (h : HsAt K D Hb hl al sy many Ls css qs as H) (hp : HandAt H p) (s : Stp p H H') : HsAt K D Hb hl al sy many Ls css qs as H' := by
  obtain ⟨ks, hk⟩ := hp.dk
  exact ⟨s.keep _ _ (ne_of h.h hk (by intro z; cases z)) h.h, s.keep _ _ (ne_of h.a hk (by intro z; cases z)) h.a, h.ql, h.al, h.nd, h.nb, fun i q cs h1 h2 => (h.dr i q cs h1 h2).map (.stp hp s), fun i x cs h1 h2 => s.sqT hp (h.ac i x cs h1 h2)⟩
theorem HsAt.same {K : PySem.W.Frag} {D hl al sy : Addr} {Hb H H' : Hp} {many : Nat} {Ls css : List (List Int)} {qs as : List Addr} (h : HsAt K D Hb hl al sy many Ls css qs as H) (s : Same H H') : HsAt K D Hb hl al sy many Ls css qs as H' :=
  ⟨s _ _ h.h, s _ _ h.a, h.ql, h.al, h.nd, h.nb, fun i q cs h1 h2 => (h.dr i q cs h1 h2).map (.same (p := 0) s), fun i x cs h1 h2 => s.sqT (h.ac i x cs h1 h2)⟩
theorem snoc_at {α : Type} {l : List α} {a x : α} {i : Nat} (h : (l ++ [a])[i]? = some x) : l[i]? = some x ∨ (i = l.length ∧ x = a) := by
  by_cases e : i < l.length
  · rw [List.getElem?_append_left e] at h
    exact .inl h
  · have := (List.getElem?_eq_some_iff.mp h).1
    rw [List.length_append, show [a].length = 1 from rfl] at this
    have i0 : i = l.length := by omega
    subst i0
    rw [List.getElem?_concat_length] at h
    exact .inr ⟨rfl, (Option.some.inj h).symm⟩
theorem HsAt.add {K : PySem.W.Frag} {D hl al sy q2 x : Addr} {Hb H H1 : Hp} {many n : Nat} {Ls css : List (List Int)} {cs : List Int} {qs as : List Addr} (A : HsAt K D Hb hl al sy many Ls css qs as H) (hla : hl ≠ al) (hc : css[n]? = some cs) (hx : as[n]? = some x) (s : Same H H1) (nq : H q2 = none) (nb : Hb q2 = none) (d : DrO K D H1 q2 sy many Ls cs) : HsAt K D Hb hl al sy many Ls (css ++ [cs]) (qs ++ [q2]) (as ++ [x]) (upd (upd H1 hl (.lst ((qs ++ [q2]).map V.ref))) al (.lst ((as ++ [x]).map V.ref))) := by
  have h1 := s _ _ A.h
  have a1 : (upd H1 hl (.lst ((qs ++ [q2]).map V.ref))) al = some (.lst (as.map V.ref)) := by rw [upd_ne hla.symm]; exact s _ _ A.a
  have keep : ∀ {q cs}, DrO K D H1 q sy many Ls cs → DrO K D (upd (upd H1 hl (.lst ((qs ++ [q2]).map V.ref))) al (.lst ((as ++ [x]).map V.ref))) q sy many Ls cs := fun h => (h.map (p := 0) (.updL h1)).map (p := 0) (.updL a1)
  have keepT : ∀ {a xs}, SqT K H1 a xs → SqT K (upd (upd H1 hl (.lst ((qs ++ [q2]).map V.ref))) al (.lst ((as ++ [x]).map V.ref))) a xs := fun h => sqT_upd a1 (sqT_upd h1 h)
  refine ⟨by rw [upd_ne hla]; exact upd_same, upd_same, by rw [List.length_append, List.length_append, A.ql] <;> rfl, by rw [List.length_append, List.length_append, A.al] <;> rfl, ?_, fun q hq => ?_, fun i q c h2 h3 => ?_, fun i y c h2 h3 => ?_⟩
  · refine List.nodup_append.mpr ⟨A.nd, by simp, fun u hu v hv => ?_⟩
    rw [List.mem_singleton.mp hv]
    rintro rfl
    obtain ⟨i, hi⟩ := List.getElem?_of_mem hu
    have il := (List.getElem?_eq_some_iff.mp hi).1
    have il2 : i < css.length := by rw [← A.ql]; exact il
    obtain ⟨dx, ca, la, g, _⟩ := A.dr i u css[i] hi (List.getElem?_eq_getElem il2)
    rw [nq] at g
    cases g
  · rcases List.mem_append.mp hq with hq | hq
    · exact A.nb q hq
    · rw [List.mem_singleton.mp hq]
      exact nb
  · rcases snoc_at h2 with h2 | ⟨h2, rfl⟩ <;> rcases snoc_at h3 with h3 | ⟨h3, rfl⟩
    · exact keep ((A.dr i q c h2 h3).map (p := 0) (.same s))
    · have := (List.getElem?_eq_some_iff.mp h2).1
      have := A.ql
      omega
    · have := (List.getElem?_eq_some_iff.mp h3).1
      have := A.ql
      omega
    · exact keep d
  · rcases snoc_at h2 with h2 | ⟨h2, rfl⟩ <;> rcases snoc_at h3 with h3 | ⟨h3, rfl⟩
    · exact keepT (s.sqT (A.ac i y c h2 h3))
    · have := (List.getElem?_eq_some_iff.mp h2).1
      have := A.al
      omega
    · have := (List.getElem?_eq_some_iff.mp h3).1
      have := A.al
      omega
    · exact keepT (s.sqT (A.ac n _ _ hx hc))
theorem HsAt.put {K : PySem.W.Frag} {D hl al sy q z : Addr} {Hb H H1 H2 : Hp} {many n : Nat} {Ls css : List (List Int)} {cs : List Int} {c : Int} {qs as : List Addr} (A : HsAt K D Hb hl al sy many Ls css qs as H) (hla : hl ≠ al) (hq : qs[n]? = some q) (hc : css[n]? = some cs) (k : ∀ b o, b ≠ q → H b = some o → H1 b = some o) (d : DrO K D H1 q sy many Ls (cs ++ [c])) (s : Same H1 H2) (hz : SqT K H2 z ((cs ++ [c]).map V.int)) : HsAt K D Hb hl al sy many Ls (css.set n (cs ++ [c])) qs (as.set n z) (upd H2 al (.lst ((as.set n z).map V.ref))) := by
  obtain ⟨dx, ca0, la0, gq, _, _⟩ := A.dr n q cs hq hc
  have nl : ∀ {b xs}, H b = some (.lst xs) → b ≠ q := fun h => ne_of h gq (by intro z; cases z)
  have h2 := s _ _ (k _ _ (nl A.h) A.h)
  have a2 := s _ _ (k _ _ (nl A.a) A.a)
  have n1 := (List.getElem?_eq_some_iff.mp hq).1
  have n2 := (List.getElem?_eq_some_iff.mp hc).1
  have n3 : n < as.length := by rw [A.al]; exact n2
  refine ⟨by rw [upd_ne hla]; exact h2, upd_same, by rw [List.length_set]; exact A.ql, by rw [List.length_set, List.length_set]; exact A.al, A.nd, A.nb, fun i q' c' g2 g3 => ?_, fun i y c' g2 g3 => ?_⟩
  · by_cases e : i = n
    · subst e
      rw [hq] at g2
      cases g2
      rw [List.getElem?_set_self n2] at g3
      cases g3
      exact (d.map (p := 0) (.same s)).map (p := 0) (.updL a2)
    · rw [List.getElem?_set_ne (Ne.symm e)] at g3
      have nq : q' ≠ q := fun z => e ((List.getElem?_inj (List.getElem?_eq_some_iff.mp g2).1 A.nd).mp (by rw [g2, hq, z]))
      obtain ⟨dx', ca', la', x1, x2, x3⟩ := A.dr i q' c' g2 g3
      have r : DrO K D H1 q' sy many Ls c' := ⟨dx', ca', la', k _ _ nq x1, sqT_q k gq x2, sqT_q k gq x3⟩
      exact (r.map (p := 0) (.same s)).map (p := 0) (.updL a2)
  · by_cases e : i = n
    · subst e
      rw [List.getElem?_set_self n3] at g2
      cases g2
      rw [List.getElem?_set_self n2] at g3
      cases g3
      exact sqT_upd a2 hz
    · rw [List.getElem?_set_ne (Ne.symm e)] at g2 g3
      exact sqT_upd a2 (s.sqT (sqT_q k gq (A.ac i y c' g2 g3)))
section
variable {P : Program} {w : World} {K : PySem.W.Frag} {mg : Str → Option Value} {base : Heap}
def spLaw (K : PySem.W.Frag) : Sp := fun vs H Q _ => ∃ (a : Addr) (ns : List Int), vs = [.ref a] ∧ SqL K H a (ns.map V.int) ∧ ns.length ≤ 63 ∧ ∀ H', Q (.bl true) H'
abbrev nLaw : List Str := ["script", "hand", "world", "late", "system", "houses", "accounts", "turn", "at", "move", "told", "due", "k", "text", "again"]
theorem scLaw : FnScope nLaw ["script"] (defScope s_law) := ⟨rfl, rfl, rfl, by decide +kernel, rfl, by decide +kernel, by decide +kernel⟩
theorem ok_law {f : Addr} {fd : FuncData} {fcHand : Addr} {fdcHand : FuncData} {fcWorld : Addr} {fdcWorld : FuncData} {fcLate : Addr} {fdcLate : FuncData} {fcDr : Addr} {fdcDr : FuncData} {fcMade : Addr} {fdcMade : FuncData} {fgD : Addr} {fdgD : FuncData} {fmCopy : Addr} {fdmCopy : FuncData} {fmRead : Addr} {fdmRead : FuncData} {fcDrawnL : Addr} {fdcDrawnL : FuncData} {fcStands : Addr} {fdcStands : FuncData} {fcText : Addr} {fdcText : FuncData} {fcIsRead : Addr} {fdcIsRead : FuncData} {fcBent : Addr} {fdcBent : FuncData} {fcJudged : Addr} {fdcJudged : FuncData} {C D : Addr} (F : Fun K "law" "law" s_law f fd) (T : NmA mg) (cHand : Cl P w K mg base CX0 1 "_law_hand" fcHand fdcHand ["script"] (spHand K)) (cWorld : Cl P w K mg base CX0 3 "_law_world" fcWorld fdcWorld ["hand", "most", "moves"] (spWorld K)) (cLate : Cl P w K mg base CX0 3 "_law_late" fcLate fdcLate ["hand"] (spLate K)) (cDr : Cl P w K mg base CX0 1 "_law_draw" fcDr fdcDr ["hand", "many"] spDraw) (cMade : Cl P w K mg base CX0 7 "_law_made" fcMade fdcMade ["world"] (spMade K C)) (MgD : Mk K D fgD) (GgD : FnOk P w K mg base CX0 1 fgD fdgD ["self", "system"] (spDInit K C D)) (BgD : Binds K fdgD ["self", "system"] []) (YgD : DrT K mg D) (mCopy : Ml P w K mg base 3 D "copy" fmCopy fdmCopy ["self"] (spCopy K C D)) (mRead : Ml P w K mg base 3 D "read" fmRead fdmRead ["self", "move"] (spRead K C D)) (cDrawnL : Cl P w K mg base CX0 2 "_law_drawn" fcDrawnL fdcDrawnL ["world", "coins", "plan"] (spDrawnL K)) (cStands : Cl P w K mg base CX0 3 "_law_stands" fcStands fdcStands ["drawer", "world", "coins"] (spStands K C D)) (cText : Cl P w K mg base CX0 2 "drawer_text" fcText fdcText ["drawer"] (spText K C D)) (cIsRead : Cl P w K mg base CX0 6 "_law_is_read" fcIsRead fdcIsRead ["hand", "world", "system", "text"] (spIsRead K C D)) (cBent : Cl P w K mg base CX0 3 "_law_bent" fcBent fdcBent ["hand", "world", "text"] (spBent K)) (cJudged : Cl P w K mg base CX0 7 "_law_are_judged" fcJudged fdcJudged ["hand", "world", "system", "coins"] (spJudged K C)) : FnOk P w K mg base CX0 8 f fd ["script"] (spLaw K) := by
  refine F.ok scLaw (fun vs H Q E h => ?_) (fun cdv A' outer s H vs Q E hr h => ?_)
  · obtain ⟨a, ns, rfl, _⟩ := h
    rfl
  · obtain ⟨a, ns, rfl, hN, h63, k⟩ := h
    have hu := hu_of hr
    refine ⟨_, pss_cons (ps_set (i := 1) scLaw.nd rfl (Or.inl rfl) (cHand.call (hr.mono (by decide)) (pa_cons (pv 0) pa_nil)))
      (pss_cons (ps_asg (pe_tup (pa_cons (cWorld.call (hr.mono (by decide)) (pa_cons (pv 1) (pa_cons pe_int (pa_cons pe_int pa_nil)))) (pa_cons (pe_tup pa_nil) pa_nil))) (pg_tup (by rfl) (pgs_cons (pg_name (i := 2) scLaw.nd rfl (Or.inr rfl)) (pgs_cons (pg_name (i := 3) scLaw.nd rfl (Or.inl rfl)) pgs_nil))))
      (Evl.pss_cut (ps_if (pt_cmpR op_eq (cDr.call (hr.mono (by decide)) (pa_cons (pv 1) (pa_cons pe_int pa_nil))) pe_int (nomark _))
        (pss_one (ps_asg (cLate.call (hr.mono (by decide)) (pa_cons (pv 1) pa_nil)) (pg_tup (by rfl) (pgs_cons (pg_name (i := 2) scLaw.nd rfl (Or.inr rfl)) (pgs_cons (pg_name (i := 3) scLaw.nd rfl (Or.inl rfl)) pgs_nil))))) pss_nil)
      (pss_cons (ps_asg (pe_tup (pa_cons (cMade.call (hr.mono (by decide)) (pa_cons (pv 2) pa_nil)) (pa_cons (pe_lst pa_nil) (pa_cons (pe_lst (pa_cons (pe_tup pa_nil) pa_nil)) pa_nil)))) (pg_tup (by rfl) (pgs_cons (pg_name (i := 4) scLaw.nd rfl (Or.inl rfl)) (pgs_cons (pg_name (i := 5) scLaw.nd rfl (Or.inr rfl)) (pgs_cons (pg_name (i := 6) scLaw.nd rfl (Or.inr rfl)) pgs_nil)))))
      (pss_cons (ps_expr (pe_bm PySem.F.plainAttrs_list PySem.F.slot_list_append PySem.F.type_list_append mt_append (pv 5) (pa_cons (pe_make MgD GgD (hr.mono (by decide)) (by rfl) YgD.mgC BgD .nil pass0 (pa_cons (pv 4) pa_nil)) pa_nil)))
      (pss_cons (ps_for PassesOwn.never rfl (pi_range1 (by rfl) T.range (pa_cons (pe_ifExp (pt_cmpR op_gt (pe_callB call_len_seq (by rfl) T.len PySem.boot_len (pa_cons (pv 3) pa_nil)) pe_int (nomark _)) (pe_callB call_len_seq (by rfl) T.len PySem.boot_len (pa_cons (pv 3) pa_nil)) (pe_op op_add pe_int (cDr.call (hr.mono (by decide)) (pa_cons (pv 1) (pa_cons pe_int pa_nil))))) pa_nil)) (pg_name (i := 7) scLaw.nd rfl (Or.inl rfl))
        (pss_cons (ps_set (i := 8) scLaw.nd rfl (Or.inl rfl) (pe_ifExp (pt_cmpR op_eq (pe_callB call_len_seq (by rfl) T.len PySem.boot_len (pa_cons (pv 3) pa_nil)) pe_int (nomark _)) (cDr.call (hr.mono (by decide)) (pa_cons (pv 1) (pa_cons (pe_callB call_len_seq (by rfl) T.len PySem.boot_len (pa_cons (pv 5) pa_nil)) pa_nil))) pe_int))
        (Evl.pss_cut (ps_if (PW.pt (pw_and (pt_cmpR op_lt (pe_callB call_len_seq (by rfl) T.len PySem.boot_len (pa_cons (pv 5) pa_nil)) pe_int (nomark _)) (pw_and1 (pt_cmpR op_eq (cDr.call (hr.mono (by decide)) (pa_cons (pv 1) (pa_cons pe_int pa_nil))) pe_int (nomark _)))))
          (pss_cons (ps_expr (pe_bm PySem.F.plainAttrs_list PySem.F.slot_list_append PySem.F.type_list_append mt_append (pv 5) (pa_cons (mCopy.call0 (hr.mono (by decide)) (pe_ix ix_list (pv 5) (pv 8) (fun _ _ => rfl))) pa_nil)))
          (pss_one (ps_expr (pe_bm PySem.F.plainAttrs_list PySem.F.slot_list_append PySem.F.type_list_append mt_append (pv 6) (pa_cons (pe_ix ix_list (pv 6) (pv 8) (fun _ _ => rfl)) pa_nil))))) pss_nil)
        (pss_cons (ps_set (i := 9) scLaw.nd rfl (Or.inl rfl) (pe_ifExp (pt_cmpR op_eq (pe_callB call_len_seq (by rfl) T.len PySem.boot_len (pa_cons (pv 3) pa_nil)) pe_int (nomark _)) (cDr.call (hr.mono (by decide)) (pa_cons (pv 1) (pa_cons (pe_callB call_len_seq (by rfl) T.len PySem.boot_len (pa_cons (pe_dget hu (pv 2) pe_str (fun _ _ => rfl)) pa_nil)) pa_nil))) (pe_ix ix_tup (pv 3) (pv 7) (fun _ _ => rfl))))
        (pss_cons (ps_set (i := 10) scLaw.nd rfl (Or.inl rfl) (mRead.call (hr.mono (by decide)) (pe_ix ix_list (pv 5) (pv 8) (fun _ _ => rfl)) (pa_cons (pv 9) pa_nil)))
        (pss_cons (ps_asg (pe_op op_catA (pe_ix ix_list (pv 6) (pv 8) (fun _ _ => rfl)) (pe_tup (pa_cons (pv 9) pa_nil))) (pg_sub (pv 6) (pv 8) set_list))
        (pss_one (ps_if (PW.pt (pw_or (pt_cmpR op_lt (pv 7) pe_int (nomark _)) (pw_or1 (pt_cmpR op_gt (pe_op op_add (pv 7) pe_int) (pe_callB call_len_seq (by rfl) T.len PySem.boot_len (pa_cons (pv 3) pa_nil)) (nomark _)))))
          (pss_cons (ps_set (i := 11) scLaw.nd rfl (Or.inl rfl) (cDrawnL.call (hr.mono (by decide)) (pa_cons (pv 2) (pa_cons (pe_ix ix_list (pv 6) (pv 8) (fun _ _ => rfl)) (pa_cons pe_str pa_nil)))))
          (pss_cons (ps_if (pt_cmpR (op_neD hr.units) (pv 10) (pe_ifExp (pt_cmpR op_eq (pe_ix ix_tup (pv 11) pe_int (fun _ _ => rfl)) pe_str (nomark _)) (pe_ix ix_tup (pv 11) pe_int (fun _ _ => rfl)) pe_non) (nomark _))
            (pss_one (ps_ret pe_bl)) pss_nil)
          (pss_one (ps_if (pt_not (pt_val (pe_callB (cr_all rfl) (by rfl) T.all (by decide +kernel) (pa_cons (pe_lc (own := [("k", 12)]) (g := (gName 12)) (tt := tYes) rfl scLaw.nd  (pi_range1 (by rfl) T.range (pa_cons (pe_callB call_len_seq (by rfl) T.len PySem.boot_len (pa_cons (pv 5) pa_nil)) pa_nil)) (blkOk_by (own := [("k", 12)]) (N := nLaw) (sc := defScope s_law) (by decide +kernel)) (fun _ _ _ _ _ => (pg_name (i := 12) scLaw.nd rfl (Or.inl rfl))) (fun _ _ _ _ _ => pts_nil) (fun _ _ _ _ _ => (cStands.call (hr.mono (by decide)) (pa_cons (pe_ix (r := rIxL K) (show IxR _ (rIxL K) from ix_list) (pv 5) (pv 12) (fun _ _ => rfl)) (pa_cons (pv 2) (pa_cons (pe_ix (r := rIxL K) (show IxR _ (rIxL K) from ix_list) (pv 6) (pv 12) (fun _ _ => rfl)) pa_nil)))))) pa_nil))))
            (pss_one (ps_ret pe_bl)) pss_nil)))) pss_nil))))))))
      (pss_cons (ps_for PassesOwn.never rfl (pi_range1 (by rfl) T.range (pa_cons (pe_callB call_len_seq (by rfl) T.len PySem.boot_len (pa_cons (pv 5) pa_nil)) pa_nil)) (pg_name (i := 12) scLaw.nd rfl (Or.inl rfl))
        (pss_cons (ps_set (i := 13) scLaw.nd rfl (Or.inl rfl) (cText.call (hr.mono (by decide)) (pa_cons (pe_ix ix_list (pv 5) (pv 12) (fun _ _ => rfl)) pa_nil)))
        (pss_cons (ps_if (PW.pt (pw_or (pt_not (pt_val (cStands.call (hr.mono (by decide)) (pa_cons (pe_ix ix_list (pv 5) (pv 12) (fun _ _ => rfl)) (pa_cons (pv 2) (pa_cons (pe_ix ix_list (pv 6) (pv 12) (fun _ _ => rfl)) pa_nil)))))) (pw_or1 (pt_not (pt_val (cIsRead.call (hr.mono (by decide)) (pa_cons (pv 1) (pa_cons (pv 2) (pa_cons (pv 4) (pa_cons (pv 13) pa_nil))))))))))
          (pss_one (ps_ret pe_bl)) pss_nil)
        (pss_cons (ps_for PassesOwn.never rfl (pi_range1 (by rfl) T.range (pa_cons pe_int pa_nil)) (pg_name (i := 14) scLaw.nd rfl (Or.inl rfl))
          (pss_one (ps_if (pt_not (pt_val (cIsRead.call (hr.mono (by decide)) (pa_cons (pv 1) (pa_cons (pv 2) (pa_cons (pv 4) (pa_cons (cBent.call (hr.mono (by decide)) (pa_cons (pv 1) (pa_cons (pv 2) (pa_cons (pe_slice sl_str (pv 13) po_none (po_some pe_int)) pa_nil)))) pa_nil)))))))
            (pss_one (ps_ret pe_bl)) pss_nil)))
        (pss_one (ps_if (pt_not (pt_val (cJudged.call (hr.mono (by decide)) (pa_cons (pv 1) (pa_cons (pv 2) (pa_cons (pv 4) (pa_cons (pe_ix ix_list (pv 6) (pv 12) (fun _ _ => rfl)) pa_nil)))))))
          (pss_one (ps_ret pe_bl)) pss_nil))))))
      (pss_one (ps_ret pe_bl)))))))), ?_⟩
    refine ⟨_, rfl, a, ns, rfl, hN, h63, fun p H1 hp s1 hH1 => ?_⟩
    refine ⟨_, rfl, p, 5, 4, rfl, by decide, by decide, by decide, by decide, hH1, fun wd H2 many Ls ws S2 hW wok => ?_⟩
    refine ⟨by show 0 ≤ sizeLine; decide, fun z1 hz1 => ?_⟩
    refine new_step hz1 fun H3 s3 e3 => ?_
    refine ⟨by show 2 ≤ sizeLine; decide, fun z2 hz2 => ?_⟩
    refine new_step hz2 fun H4 s4 e4 => ?_
    refine ⟨z2, _, rfl, SqT.of e4, rfl, _, _, rfl, _, _, rfl, rfl, ?_⟩
    refine ⟨fun σ' H' => ∃ (wd ca : Addr) (many : Nat) (Ls : List (List Int)) (ws lcs : List Int), σ' = [some (.ref a), some (.ref p), some (.ref wd), some (.ref ca), none, none, none, none, none, none, none, none, none, none, none] ∧ HandAt H' p ∧ WAt K H' wd many Ls ws ∧ WOk many Ls ws ∧ SqT K H' ca (lcs.map V.int) ∧ CsOk Ls.length lcs ∧ lcs.length ≤ 400, ?_, ?_⟩
    · have s34 := s3.trans s4
      have hH4 := S2.hand.same s34
      refine ⟨_, rfl, p, 24, rfl, by decide, by decide, hH4, fun d H5 d0 d1 S5 => ⟨rfl, _, rfl, ite2 (fun _ => ?_) (fun _ => ?_)⟩⟩
      · refine ⟨_, rfl, p, rfl, S5.hand, fun t wd2 ca2 H6 many2 Ls2 ws2 lcs S6 hT hW2 wok2 hC2 cok2 l4 => ?_⟩
        refine ⟨t, _, rfl, hT, rfl, _, _, rfl, _, _, rfl, rfl, ?_⟩
        exact ⟨wd2, ca2, many2, Ls2, ws2, lcs, rfl, S6.hand, hW2, wok2, hC2, cok2, l4⟩
      · exact ⟨wd, z1, many, Ls, ws, [], rfl, S5.hand, (hW.same s34).kp S5.kp hH4, wok, S5.sqT hH4 (s4.sqT (SqT.of e3)), fun c hc => absurd hc List.not_mem_nil, by decide⟩
    clear hW wok e3 e4 hH1 s1 s3 s4
    rintro σ' H ⟨wd, ca, many, Ls, ws, lcs, rfl, hH, hW, wok, hC, cok, l4⟩
    have ld := lds_of wok
    have e1 := lds_moves Ls ws
    have ml : (movesF Ls ws).length = Ls.length := by unfold movesF; rw [List.length_map, List.length_range]
    have ldm : LdOk many (ldsOf (movesF Ls ws)) := by rw [e1]; exact ld
    refine ⟨_, rfl, wd, many, Ls, ws, rfl, hW, wok, fun sy Hb s0 hS => ?_⟩
    have hHb := hH.same s0
    have hWb := hW.same s0
    have hCb := s0.sqT hC
    refine ⟨by show 0 ≤ sizeLine; decide, fun hl hhl => ?_⟩
    refine new_step hhl fun G1 t1 e2 => ?_
    refine ⟨by show 0 ≤ sizeLine; decide, fun z3 hz3 => ?_⟩
    refine new_step hz3 fun G2 t2 e3 => ?_
    refine ⟨by show 1 ≤ sizeLine; decide, fun al hal => ?_⟩
    have t02 := t1.trans t2
    have alb := t02.free hal
    have hla : hl ≠ al := ne_of_none (t2 _ _ e2) hal
    refine new_step hal fun G3 t3 e4 => ?_
    refine ⟨by show 3 ≤ sizeLine; decide, fun z4 hz4 => ?_⟩
    refine new_step hz4 fun G4 t4 e5 => ?_
    refine ⟨z4, _, rfl, SqT.of e5, rfl, _, _, rfl, _, _, rfl, _, _, rfl, rfl, ?_⟩
    have t04 := (t02.trans t3).trans t4
    have eh4 := ((t2.trans t3).trans t4) _ _ e2
    refine ⟨_, rfl, .inl ⟨rfl, _, SqL.of eh4⟩, _, rfl, ?_⟩
    intro q dx nx ndx nex
    refine ⟨q, dx, sy, many, movesF Ls ws, rfl, upd_same, (hS.same t04).same (mk_same0 nx ndx), ldm, fun G5 k5 D5 => ⟨rfl, ?_⟩⟩
    have t5 : Same G4 G5 := mk_same nx ndx k5
    have t05 := t04.trans t5
    refine ⟨hl, [], _, rfl, rfl, t5 _ _ eh4, by show 0 < sizeLine; decide, ?_⟩
    have eh5 := t5 _ _ eh4
    have S6 : Stp p Hb (upd G5 hl (.lst ([] ++ [V.ref q]))) := Stp.mut hHb (Stp.of hHb t05) hhl
    have A6 : HsAt K D Hb hl al sy many Ls [[]] [q] [z3] (upd G5 hl (.lst ([] ++ [V.ref q]))) := by
      refine ⟨upd_same, by rw [upd_ne hla.symm]; exact (t4.trans t5) _ _ e4, rfl, rfl, by simp, fun x hx => ?_, fun i x cs h1 h2 => ?_, fun i x cs h1 h2 => ?_⟩
      · rw [List.mem_singleton.mp hx]
        exact t04.free nx
      · have i0 : i = 0 := by have := (List.getElem?_eq_some_iff.mp h1).1; simpa using this
        subst i0
        cases h1
        cases h2
        exact (DrO.of D5).map (p := p) (.updL eh5)
      · have i0 : i = 0 := by have := (List.getElem?_eq_some_iff.mp h1).1; simpa using this
        subst i0
        cases h1
        cases h2
        exact sqT_upd eh5 (((t3.trans t4).trans t5).sqT (SqT.of e3))
    clear eh5 eh4 D5 k5 t5 t05 t04 e5 e4 e3 e2 t1 t2 t3 t4 t02 hz3 hal hz4 nx ndx nex
    generalize upd G5 hl (.lst ([] ++ [V.ref q])) = G at S6 A6 ⊢
    dsimp only
    show tFor (iRng1 (tCons (tIf _ _ _) tNil)) _ _ _ _ _
    refine for_len (fun N G' => Stp p G G' ∧ N ≤ 400 ∧ (lcs.length ≠ 0 → N = lcs.length)) (fun N H1 r => by omega) (fun Q' key => ?_) fun N G' hN => ?_
    · have hC6 := S6.sqT hHb hCb
      refine ⟨_, rfl, ca, _, rfl, .inr hC6, _, _, rfl, rfl, _, rfl, ite2 (fun z => ?_) (fun z => ?_)⟩
      · refine ⟨_, rfl, ca, _, rfl, .inr hC6, ?_⟩
        rw [List.length_map]
        exact key _ _ ⟨Stp.refl S6.hand, l4, fun _ => rfl⟩
      · refine ⟨_, rfl, p, 12, rfl, by decide, by decide, S6.hand, fun d H1 d0 d1 S => ⟨_, _, rfl, rfl, ?_⟩⟩
        obtain ⟨n, rfl⟩ := Int.eq_ofNat_of_zero_le d0
        show Q' (V.int ((6 : Int) + (n : Int))) H1
        rw [show (6 : Int) + (n : Int) = ((6 + n : Nat) : Int) by omega]
        exact key _ _ ⟨S, by omega, fun h => absurd (decide_eq_true (show ((lcs.map V.int).length : Int) > 0 by rw [List.length_map]; omega)) z⟩
    refine for_range (lo := 0) (n := N) (fun i σ H' => ∃ (css : List (List Int)) (qs as : List Addr), Stp p Hb H' ∧ HsAt K D Hb hl al sy many Ls css qs as H' ∧ 0 < css.length ∧ css.length ≤ 3 ∧ (∀ cs ∈ css, CsOk Ls.length cs ∧ cs.length ≤ i) ∧ ∃ u7 u8 u9 u10 u11 : Option V, σ = [some (.ref a), some (.ref p), some (.ref wd), some (.ref ca), some (.ref sy), some (.ref hl), some (.ref al), u7, u8, u9, u10, u11, none, none, none]) ⟨[[]], [q], [z3], S6.trans hN.1, A6.stp S6.hand hN.1, by decide, by decide, fun cs hcs => by rw [List.mem_singleton.mp hcs]; exact ⟨fun c hc => absurd hc List.not_mem_nil, Nat.le_refl _⟩, none, none, none, none, none, rfl⟩ ?_ ?_
    · rintro i σ H2 hi ⟨css, qs, as, S2, A2, c0, c3, cok2, u7, u8, u9, u10, u11, rfl⟩
      obtain ⟨NS, N4, NL⟩ := hN
      have hC2 := S2.sqT hHb hCb
      dsimp only
      show tIf _ _ _ _ _ _
      refine mrg (fun x H' => Stp p H2 H' ∧ ∃ n : Nat, x = .int (n : Int) ∧ n < css.length) (fun Q' key => ?_) ?_
      · refine ⟨_, rfl, ca, _, rfl, .inr hC2, rfl, _, rfl, ite2 (fun z => ?_) (fun z => ?_)⟩
        · refine ⟨_, rfl, _, rfl, hl, _, rfl, .inl (SqL.of A2.h), p, _, rfl, by rw [List.length_map, A2.ql]; omega, by rw [List.length_map, A2.ql]; omega, S2.hand, fun d H1 d0 d1 S => key _ _ ⟨S, d.toNat, ?_, ?_⟩⟩
          · rw [Int.toNat_of_nonneg d0]
          · rw [List.length_map, A2.ql] at d1
            omega
        · exact key _ _ ⟨Stp.refl S2.hand, 0, rfl, c0⟩
      rintro x H3 ⟨S23, n, rfl, nc⟩
      have S3 := S2.trans S23
      have A3 := A2.stp S2.hand S23
      clear A2 S2 S23
      refine ⟨fun σ' H' => ∃ (css : List (List Int)) (qs as : List Addr), Stp p Hb H' ∧ HsAt K D Hb hl al sy many Ls css qs as H' ∧ n < css.length ∧ css.length ≤ 3 ∧ (∀ cs ∈ css, CsOk Ls.length cs ∧ cs.length ≤ i) ∧ σ' = [some (.ref a), some (.ref p), some (.ref wd), some (.ref ca), some (.ref sy), some (.ref hl), some (.ref al), some (.int (0 + (i : Int))), some (.int (n : Int)), u9, u10, u11, none, none, none], ?_, ?_⟩
      · have stay : ∀ H', Stp p H3 H' → ∃ (css : List (List Int)) (qs as : List Addr), Stp p Hb H' ∧ HsAt K D Hb hl al sy many Ls css qs as H' ∧ n < css.length ∧ css.length ≤ 3 ∧ (∀ cs ∈ css, CsOk Ls.length cs ∧ cs.length ≤ i) ∧ [some (.ref a), some (.ref p), some (.ref wd), some (.ref ca), some (.ref sy), some (.ref hl), some (.ref al), some (.int (0 + (i : Int))), some (.int (n : Int)), u9, u10, u11, none, none, none] = [some (V.ref a), some (.ref p), some (.ref wd), some (.ref ca), some (.ref sy), some (.ref hl), some (.ref al), some (.int (0 + (i : Int))), some (.int (n : Int)), u9, u10, u11, none, none, none] := fun H' S => ⟨css, qs, as, S3.trans S, A3.stp S3.hand S, nc, c3, cok2, rfl⟩
        refine ⟨_, rfl, hl, _, rfl, .inl (SqL.of A3.h), _, _, rfl, rfl, _, rfl, ite2 (fun z => ?_) (fun z => ?_)⟩
        · have c2 : css.length < 3 := by
            have z := of_decide_eq_true z
            rw [List.length_map, A3.ql] at z
            omega
          refine ⟨_, rfl, p, 6, rfl, by decide, by decide, S3.hand, fun d H4 d0 d1 S34 => ⟨rfl, _, rfl, ite2 (fun _ => ?_) (fun _ => ?_)⟩⟩
          · have A4 := A3.stp S3.hand S34
            have S4 := S3.trans S34
            have nq : n < qs.length := by rw [A4.ql]; exact nc
            have na : n < as.length := by rw [A4.al]; exact nc
            obtain ⟨cs, hcs⟩ : ∃ cs, css[n]? = some cs := ⟨_, List.getElem?_eq_getElem nc⟩
            obtain ⟨q, hq⟩ : ∃ q, qs[n]? = some q := ⟨_, List.getElem?_eq_getElem nq⟩
            obtain ⟨x, hx⟩ : ∃ x, as[n]? = some x := ⟨_, List.getElem?_eq_getElem na⟩
            have dq := (A4.dr n q cs hq hcs).at (hS.stp hHb S4)
            obtain ⟨dx2, ca2, la2, gq, _, _, _⟩ := id dq
            refine ⟨_, rfl, .inl ⟨rfl, _, SqL.of A4.h⟩, _, rfl, _, rfl, hl, _, _, .ref q, rfl, rfl, SqL.of A4.h, atI_nat (by rw [List.getElem?_map, hq] <;> rfl), q, dx2, _, rfl, gq, dr_copy, q, sy, many, movesF Ls ws, cs, rfl, dq, ldm, fun q2 H5 s5 nq2 D5 => ?_⟩
            refine ⟨hl, _, _, rfl, rfl, s5 _ _ A4.h, by rw [List.length_map, A4.ql, sizeLine_eq]; omega, ?_⟩
            rw [show qs.map V.ref ++ [V.ref q2] = (qs ++ [q2]).map V.ref by rw [List.map_append] <;> rfl]
            have ea : (upd H5 hl (.lst ((qs ++ [q2]).map V.ref))) al = some (.lst (as.map V.ref)) := by rw [upd_ne hla.symm]; exact s5 _ _ A4.a
            refine ⟨_, rfl, .inl ⟨rfl, _, SqL.of ea⟩, _, rfl, _, rfl, al, _, _, .ref x, rfl, rfl, SqL.of ea, atI_nat (by rw [List.getElem?_map, hx] <;> rfl), al, _, _, rfl, rfl, ea, by rw [List.length_map, A4.al, sizeLine_eq]; omega, ?_⟩
            rw [show as.map V.ref ++ [V.ref x] = (as ++ [x]).map V.ref by rw [List.map_append] <;> rfl]
            refine ⟨css ++ [cs], qs ++ [q2], as ++ [x], Stp.mut hHb (Stp.mut hHb (S4.post s5) hhl) alb, A4.add hla hcs hx s5 nq2 (S4.free nq2) (DrO.of D5), by rw [List.length_append]; omega, by rw [List.length_append]; show css.length + 1 ≤ 3; omega, fun c hc => ?_, rfl⟩
            rcases List.mem_append.mp hc with hc | hc
            · exact cok2 c hc
            · rw [List.mem_singleton.mp hc]
              exact cok2 _ (List.mem_of_getElem? hcs)
          · exact stay _ S34
        · exact stay _ (Stp.refl S3.hand)
      clear hC2 S3 A3
      rintro σ' H4 ⟨css, qs, as, S4, A4, nc, c3, cok2, rfl⟩
      have hC4 := S4.sqT hHb hCb
      have hW4 := hWb.kp S4.kp hHb
      show tIf _ _ _ _ _ _
      refine mrg (fun x H' => Stp p H4 H' ∧ ∃ c : Int, x = .int c ∧ 0 ≤ c ∧ c < (Ls.length : Int)) (fun Q' key => ?_) ?_
      · obtain ⟨la, wa, vs, hwd, hla2, hTs, _⟩ := id hW4
        have w1 := wok.l1
        have w24 := wok.l2
        refine ⟨_, rfl, ca, _, rfl, .inr hC4, rfl, _, rfl, ite2 (fun z => ?_) (fun z => ?_)⟩
        · refine ⟨_, rfl, _, rfl, wd, _, rfl, gw_leads hwd, la, _, rfl, .inl (SqL.of hla2), p, _, rfl, by rw [hTs.1]; omega, by rw [hTs.1]; omega, S4.hand, fun d H5 d0 d1 S5 => key _ _ ⟨S5, d, rfl, d0, by rw [hTs.1] at d1; exact d1⟩⟩
        · have l0 : lcs.length ≠ 0 := fun e => z (decide_eq_true (show V.int (((lcs.map V.int).length : Nat) : Int) = V.int 0 by rw [List.length_map, e] <;> rfl))
          have hil : i < lcs.length := by rw [← NL l0]; exact hi
          obtain ⟨c, hc⟩ : ∃ c, lcs[i]? = some c := ⟨_, List.getElem?_eq_getElem hil⟩
          have cb := cok c (List.mem_of_getElem? hc)
          refine ⟨_, rfl, _, rfl, ca, _, _, .int c, rfl, rfl, hC4, ?_, key _ _ ⟨Stp.refl S4.hand, c, rfl, cb.1, cb.2⟩⟩
          rw [Int.zero_add]
          exact atI_nat (by rw [List.getElem?_map, hc] <;> rfl)
      clear hC4 hW4
      rintro x H5 ⟨S45, c, rfl, cb0, cb1⟩
      have S5 := S4.trans S45
      have A5 := A4.stp S4.hand S45
      clear A4 S4 S45
      have nq : n < qs.length := by rw [A5.ql]; exact nc
      have na : n < as.length := by rw [A5.al]; exact nc
      obtain ⟨cs, hcs⟩ : ∃ cs, css[n]? = some cs := ⟨_, List.getElem?_eq_getElem nc⟩
      obtain ⟨q, hq⟩ : ∃ q, qs[n]? = some q := ⟨_, List.getElem?_eq_getElem nq⟩
      obtain ⟨x, hx⟩ : ∃ x, as[n]? = some x := ⟨_, List.getElem?_eq_getElem na⟩
      obtain ⟨ccs, lcs2⟩ := cok2 cs (List.mem_of_getElem? hcs)
      have dq := (A5.dr n q cs hq hcs).at (hS.stp hHb S5)
      obtain ⟨dx2, ca2, la2, gq, _, _, _⟩ := id dq
      refine ⟨_, rfl, _, rfl, hl, _, _, .ref q, rfl, rfl, SqL.of A5.h, atI_nat (by rw [List.getElem?_map, hq] <;> rfl), q, dx2, _, rfl, gq, dr_read, _, rfl, q, sy, many, movesF Ls ws, cs, c, rfl, dq, ldm, by rw [ml]; exact ccs, cb0, by rw [ml]; exact cb1, by omega, fun H6 k6 D6 => ?_⟩
      have S6' : Stp p Hb H6 := S5.kq hHb (A5.nb q (List.mem_of_getElem? hq)) k6
      have a6 : H6 al = some (.lst (as.map V.ref)) := k6 _ _ (ne_of A5.a gq (by intro z; cases z)) A5.a
      have x6 := sqT_q k6 gq (A5.ac n x cs hx hcs)
      refine ⟨_, rfl, _, rfl, al, _, _, .ref x, rfl, rfl, SqL.of a6, atI_nat (by rw [List.getElem?_map, hx] <;> rfl), _, rfl, by show 1 ≤ sizeLine; decide, fun z hz => ?_⟩
      refine new_step hz fun H7 s7 e7 => ?_
      refine catT (s7.sqT x6) (SqT.of e7) (by rw [List.length_map]; show cs.length + 1 ≤ 1000; omega) fun z2 H8 s8 h8 => ?_
      have s68 := s7.trans s8
      refine ⟨_, rfl, _, rfl, al, _, _, n, rfl, rfl, s68 _ _ a6, Evl.ixN_nat (by rw [List.length_map]; exact na), ?_⟩
      rw [← List.map_set]
      have A9 := A5.put hla hq hcs k6 (DrO.of D6) s68 (z := z2) (by rw [List.map_append]; exact h8)
      have S9 : Stp p Hb (upd H8 al (.lst ((as.set n z2).map V.ref))) := Stp.mut hHb (S6'.post s68) alb
      generalize upd H8 al (.lst ((as.set n z2).map V.ref)) = H9 at A9 S9 ⊢
      have csn : (css.set n (cs ++ [c]))[n]? = some (cs ++ [c]) := List.getElem?_set_self nc
      have asn : (as.set n z2)[n]? = some z2 := List.getElem?_set_self na
      have csl : (css.set n (cs ++ [c])).length = css.length := List.length_set ..
      have cok9 : ∀ d ∈ css.set n (cs ++ [c]), CsOk Ls.length d ∧ d.length ≤ i + 1 := fun d hd => by
        rcases List.mem_or_eq_of_mem_set hd with hd | rfl
        · obtain ⟨h1, h2⟩ := cok2 d hd
          exact ⟨h1, by omega⟩
        · refine ⟨fun u hu => ?_, by rw [List.length_append]; show cs.length + 1 ≤ i + 1; omega⟩
          rcases List.mem_append.mp hu with hu | hu
          · exact ccs u hu
          · rw [List.mem_singleton.mp hu]
            exact ⟨cb0, cb1⟩
      clear A5 D6 k6 dq gq a6 x6 e7 h8 s7 s8 s68 S5 S6' hz hcs hq hx lcs2 ccs cok2
      generalize css.set n (cs ++ [c]) = css9 at A9 csn csl cok9 ⊢
      generalize as.set n z2 = as9 at A9 asn ⊢
      generalize cs ++ [c] = cs9 at csn ⊢
      have done : ∀ H' u11 u12, Stp p H9 H' → ∃ (css : List (List Int)) (qs as : List Addr), Stp p Hb H' ∧ HsAt K D Hb hl al sy many Ls css qs as H' ∧ 0 < css.length ∧ css.length ≤ 3 ∧ (∀ cs ∈ css, CsOk Ls.length cs ∧ cs.length ≤ i + 1) ∧ ∃ v7 v8 v9 v10 v11 : Option V, [some (.ref a), some (.ref p), some (.ref wd), some (.ref ca), some (.ref sy), some (.ref hl), some (.ref al), some (.int (0 + (i : Int))), some (.int (n : Int)), some (.int c), u11, u12, none, none, none] = [some (V.ref a), some (.ref p), some (.ref wd), some (.ref ca), some (.ref sy), some (.ref hl), some (.ref al), v7, v8, v9, v10, v11, none, none, none] := fun H' u11 u12 S => ⟨css9, qs, as9, S9.trans S, A9.stp S9.hand S, by rw [csl]; omega, by rw [csl]; exact c3, cok9, _, _, _, _, _, rfl⟩
      have hC9 := S9.sqT hHb hCb
      have hW9 := hWb.kp S9.kp hHb
      rw [e1]
      dsimp only
      refine if_or (fun b H' => H' = H9) (fun Q' key => ?_) ?_
      · refine ⟨_, rfl, _, _, rfl, rfl, _, rfl, ite2 (fun _ => key _ _ rfl) (fun _ => ?_)⟩
        exact ⟨_, rfl, _, _, rfl, rfl, _, rfl, ca, _, rfl, .inr hC9, _, _, rfl, rfl, _, rfl, key _ _ rfl⟩
      rintro b H10 rfl
      cases b with
      | false => exact iteF (done _ _ _ (Stp.refl S9.hand))
      | true =>
        refine iteT ?_
        have h9 := A9.ac n z2 cs9 asn csn
        obtain ⟨ok9, len9⟩ := cok9 cs9 (List.mem_of_getElem? csn)
        refine ⟨_, rfl, _, rfl, _, rfl, al, _, _, .ref z2, rfl, rfl, SqL.of A9.a, atI_nat (by rw [List.getElem?_map, asn] <;> rfl), wd, z2, true, many, Ls, ws, cs9, rfl, hW9, ld, h9, ok9, by omega, fun t H11 kk s11 r11 pk => ?_⟩
        have hC11 := s11.sqT h9
        refine ⟨_, rfl, ?_⟩
        refine mrg (fun x H' => x = stV (dpF Ls many cs9) (endsF Ls many cs9) ∧ H' = H11) (fun Q' key => ?_) ?_
        · rcases dp_pick pk with ⟨o1, dp⟩ | ⟨o1, dp⟩
          · have c1 : (lotF (selF Ls many (upto many) cs9 kk)).length = 1 := of_decide_eq_true o1
            rcases r11 with ⟨a', b'⟩ | ⟨a', l, b', c'⟩
            · refine ⟨_, rfl, t, _, _, _, rfl, rfl, b', atI_nat (i := 0) rfl, rfl, _, rfl, ?_⟩
              rw [decide_eq_true rfl]
              refine iteT ⟨_, rfl, t, _, _, _, rfl, rfl, b', atI_nat (i := 1) rfl, key _ _ ⟨?_, rfl⟩⟩
              rw [dp, told_is ld ok9 dp]
              rfl
            · exact absurd c1 a'
          · have c1 : (lotF (selF Ls many (upto many) cs9 kk)).length ≠ 1 := of_decide_eq_false o1
            rcases r11 with ⟨a', b'⟩ | ⟨a', l, b', c'⟩
            · exact absurd a' c1
            · refine ⟨_, rfl, t, _, _, _, rfl, rfl, b', atI_nat (i := 0) rfl, rfl, _, rfl, ?_⟩
              rw [dec_str, decide_eq_false (show ¬ ("undecided" : Str) = "told" by decide +kernel)]
              refine iteF (key _ _ ⟨?_, rfl⟩)
              rw [dp]
              rfl
        rintro x H12 ⟨hx12, hH12⟩
        rw [hx12, hH12]
        clear hx12 hH12 x H12
        refine ⟨stD (dpF Ls many cs9) (endsF Ls many cs9), stD (dpF Ls many cs9) (endsF Ls many cs9), dp_st _ _, dp_st _ _, shaped_of (lay_st _ _) (by decide), shaped_of (lay_st _ _) (by decide), _, rfl, ?_⟩
        rw [SeqAt.eqv_refl _ (lay_st _ _).1]
        refine iteF ?_
        have A11 := A9.same s11
        have S11 := S9.post s11
        have cl3 : css9.length ≤ 3 := by rw [csl]; exact c3
        refine ⟨_, rfl, hl, _, rfl, .inl (SqL.of A11.h), _, rfl, by omega, by rw [List.length_map, A11.ql]; omega, fun Dl hDl => ?_⟩
        rw [List.length_map, Int.toNat_natCast]
        refine lc_range (lo := 0) (n := qs.length) (fun j H' => Same H11 H' ∧ H' Dl = some (.lst ((List.replicate j true).map V.bl))) ⟨Same.new hDl, upd_same⟩ (fun j H12 hj g => ?_) fun H12 g => ?_
        · obtain ⟨s12, g12⟩ := g
          have A12 := A11.same s12
          have S12 := S11.post s12
          have hja : j < as9.length := by rw [A9.al, ← A9.ql]; exact hj
          have hjc : j < css9.length := by rw [← A9.ql]; exact hj
          obtain ⟨csj, hcsj⟩ : ∃ x, css9[j]? = some x := ⟨_, List.getElem?_eq_getElem hjc⟩
          obtain ⟨qj, hqj⟩ : ∃ x, qs[j]? = some x := ⟨_, List.getElem?_eq_getElem hj⟩
          obtain ⟨xj, hxj⟩ : ∃ x, as9[j]? = some x := ⟨_, List.getElem?_eq_getElem hja⟩
          obtain ⟨okj, lenj⟩ := cok9 csj (List.mem_of_getElem? hcsj)
          rw [Int.zero_add]
          refine ⟨rfl, _, rfl, _, rfl, hl, _, _, .ref qj, rfl, rfl, SqL.of A12.h, atI_nat (by rw [List.getElem?_map, hqj] <;> rfl), _, rfl, _, rfl, _, rfl, al, _, _, .ref xj, rfl, rfl, SqL.of A12.a, atI_nat (by rw [List.getElem?_map, hxj] <;> rfl), qj, wd, xj, sy, many, Ls, ws, csj, rfl, (A12.dr j qj csj hqj hcsj).at (hS.stp hHb S12), hWb.kp S12.kp hHb, wok, A12.ac j xj csj hxj hcsj, okj, by omega, fun H13 s13 => ?_⟩
          refine ⟨_, s13 _ _ g12, by rw [List.length_map, List.length_replicate]; exact small1000 (by rw [A9.ql] at hj; omega), (s12.trans s13).mut hDl, ?_⟩
          rw [upd_same, List.replicate_succ', List.map_append] <;> rfl
        · obtain ⟨s12, g12⟩ := g
          refine ⟨Dl, _, rfl, SqL.of g12, _, rfl, ?_⟩
          rw [show (List.replicate qs.length true).all id = true by simp]
          exact iteF (done _ _ _ (Stp.of S9.hand (s11.trans s12)))
    · rintro σ' H2 ⟨css, qs, as, S2, A2, c0, c3, cok2, u7, u8, u9, u10, u11, rfl⟩
      obtain ⟨NS, N4, NL⟩ := hN
      have cN : ∀ cs ∈ css, CsOk Ls.length cs ∧ cs.length ≤ 400 := fun cs hcs => ⟨(cok2 cs hcs).1, Nat.le_trans (cok2 cs hcs).2 N4⟩
      clear cok2
      have w24 := wok.l2
      refine ⟨_, rfl, hl, _, rfl, .inl (SqL.of A2.h), _, rfl, by omega, by rw [List.length_map, A2.ql]; omega, ?_⟩
      rw [List.length_map, Int.toNat_natCast]
      refine for_range (lo := 0) (n := qs.length) (fun i σ H' => Stp p H2 H' ∧ ∃ u7 u8 u9 u10 u11 u12 u13 u14 : Option V, σ = [some (.ref a), some (.ref p), some (.ref wd), some (.ref ca), some (.ref sy), some (.ref hl), some (.ref al), u7, u8, u9, u10, u11, u12, u13, u14]) ⟨Stp.refl S2.hand, _, _, _, _, _, _, _, _, rfl⟩ ?_ ?_
      · rintro i σ H3 hi ⟨S23, u7, u8, u9, u10, u11, u12, u13, u14, rfl⟩
        rw [Int.zero_add]
        have S3 := S2.trans S23
        have A3 := A2.stp S2.hand S23
        have hja : i < as.length := by rw [A2.al, ← A2.ql]; exact hi
        have hjc : i < css.length := by rw [← A2.ql]; exact hi
        obtain ⟨cs, hcs⟩ : ∃ x, css[i]? = some x := ⟨_, List.getElem?_eq_getElem hjc⟩
        obtain ⟨q, hq⟩ : ∃ x, qs[i]? = some x := ⟨_, List.getElem?_eq_getElem hi⟩
        obtain ⟨x, hx⟩ : ∃ x, as[i]? = some x := ⟨_, List.getElem?_eq_getElem hja⟩
        obtain ⟨okj, lenj⟩ := cN cs (List.mem_of_getElem? hcs)
        have d3 := (A3.dr i q cs hq hcs).at (hS.stp hHb S3)
        refine ⟨_, rfl, _, rfl, hl, _, _, .ref q, rfl, rfl, SqL.of A3.h, atI_nat (by rw [List.getElem?_map, hq] <;> rfl), q, sy, many, movesF Ls ws, cs, rfl, d3, by rw [ml]; exact okj, by rw [ml]; exact w24, lenj, fun tx H4 s4 htx => ?_⟩
        have A4 := A3.same s4
        have S4 := S3.post s4
        obtain ⟨tl1, tl2⟩ := txt_facts (by omega) okj lenj
        rw [← htx] at tl1 tl2
        have txl := len_tl tx
        refine ⟨_, rfl, _, rfl, hl, _, _, .ref q, rfl, rfl, SqL.of A4.h, atI_nat (by rw [List.getElem?_map, hq] <;> rfl), _, rfl, _, rfl, _, rfl, al, _, _, .ref x, rfl, rfl, SqL.of A4.a, atI_nat (by rw [List.getElem?_map, hx] <;> rfl), q, wd, x, sy, many, Ls, ws, cs, rfl, d3.same s4, hWb.kp S4.kp hHb, wok, A4.ac i x cs hx hcs, okj, lenj, fun H5 s5 => ?_⟩
        have A5 := A4.same s5
        have S5 := S4.post s5
        refine ⟨_, rfl, iteF ⟨_, rfl, _, rfl, _, rfl, _, rfl, p, wd, sy, tx, many, Ls, ws, rfl, hS.stp hHb S5, hWb.kp S5.kp hHb, wok, by rw [txl]; omega, fun _ => tl2, fun H6 s6 => ⟨_, rfl, iteF ?_⟩⟩⟩
        have S26 : Stp p H2 H6 := (S23.post (s4.trans s5)).post s6
        clear A3 A4 A5 S3 S4 S5 s4 s5 s6 d3 S23
        refine ⟨4, rfl, by decide, by decide, for_range (lo := 0) (n := 4) (fun j σ H' => Stp p H2 H' ∧ ∃ u14 : Option V, σ = [some (.ref a), some (.ref p), some (.ref wd), some (.ref ca), some (.ref sy), some (.ref hl), some (.ref al), u7, u8, u9, u10, u11, some (.int (i : Int)), some (.str tx), u14]) ⟨S26, _, rfl⟩ ?_ ?_⟩
        · rintro j σ H7 hj ⟨S27, v14, rfl⟩
          have S7 := S2.trans S27
          refine ⟨_, rfl, _, rfl, _, rfl, _, rfl, _, rfl, _, rfl, ?_⟩
          unfold tNoPart
          have cl : (cutS tx none (some 200)).length ≤ 200 := by
            rw [len_tl, show (some (200 : Int)) = some ((200 : Nat) : Int) from rfl, tl_cutS_to, List.length_take]
            omega
          refine ⟨_, rfl, tx, rfl, by rw [txl, sizeLine_eq]; omega, p, wd, _, many, Ls, ws, rfl, S7.hand, hWb.kp S7.kp hHb, w24, cl, fun t' H8 S8 l8 => ?_⟩
          have S28 := S27.trans S8
          have S9 := S2.trans S28
          refine ⟨p, wd, sy, t', many, Ls, ws, rfl, hS.stp hHb S9, hWb.kp S9.kp hHb, wok, by omega, fun hb => by have := wds_len hb; rw [← len_tl] at this; omega, fun H10 s10 => ⟨_, rfl, iteF ⟨S28.post s10, _, rfl⟩⟩⟩
        · rintro σ H7 ⟨S27, v14, rfl⟩
          have S7 := S2.trans S27
          have A7 := A2.stp S2.hand S27
          refine ⟨_, rfl, _, rfl, _, rfl, _, rfl, _, rfl, al, _, _, .ref x, rfl, rfl, SqL.of A7.a, atI_nat (by rw [List.getElem?_map, hx] <;> rfl), p, wd, sy, x, many, Ls, ws, cs, rfl, S7.hand, hS.stp hHb S7, hWb.kp S7.kp hHb, wok, A7.ac i x cs hx hcs, okj, lenj, fun H8 S8 => ⟨_, rfl, iteF ⟨S27.trans S8, _, _, _, _, _, _, _, _, rfl⟩⟩⟩
      · rintro σ' H3 ⟨S23, u7, u8, u9, u10, u11, u12, u13, u14, rfl⟩
        exact k _
end
end Law

namespace Law
open PySem PySem.Spec PyProof.Rows L2
theorem ba4 {a b : Bool} (h : (a && b) = true) : a = true ∧ b = true := Bool.and_eq_true_iff.mp h
theorem optT_ok2 {o : Option Bool} (h : optT o = true) : o = some true := by
  cases o with
  | none => cases h
  | some b =>
    cases b with
    | true => rfl
    | false => cases h
theorem clsB_ok {K : PySem.W.Frag} {C : Addr} (h : clsB K C = true) : ∃ nm q N bs bm sn sub ab col dd k0 k1 k2 k3 k5, K.lookup C = some (excClassObj nm q C N bs bm true sn sub ab col dd k0 k1 k2 k3 k5 "ValueError.__new__") ∧ PySem.HandSPX.refsVE bm = true := by
  unfold clsB at h
  split at h
  · rename_i dd cd sl ho
    split at h
    · rename_i C' bm k0 k1 k2 k3 n k5 hm hs
      obtain ⟨h1, h⟩ := ba4 h
      obtain ⟨h2, h⟩ := ba4 h
      obtain ⟨h3, h⟩ := ba4 h
      obtain ⟨h4, h5⟩ := ba4 h
      obtain ⟨nm, bs, mro, ns, qn, hd, sn, sb, ab, col, del⟩ := cd
      have e1 := of_decide_eq_true h1
      have e2 := of_decide_eq_true h2
      dsimp only at hm h3 h4
      have e3 : del = false := by simpa using h3
      have es : sl = #[k0, k1, k2, k3, some (.builtin n), k5] := by
        have z := congrArg List.toArray hs
        simpa using z
      subst e1 e2 e3 es hm h4
      exact ⟨nm, qn, ns, bs, bm, sn, sb, ab, col, dd, k0, k1, k2, k3, k5, ho, h5⟩
    · cases h
  · cases h
theorem exvB_ok {K : PySem.W.Frag} {C : Addr} (h : exvB K C = true) : ExV K C := by
  obtain ⟨h1, h⟩ := ba4 h
  obtain ⟨h2, h⟩ := ba4 h
  obtain ⟨h3, h⟩ := ba4 h
  obtain ⟨h4, h⟩ := ba4 h
  obtain ⟨h5, h⟩ := ba4 h
  obtain ⟨h6, h⟩ := ba4 h
  obtain ⟨h7, h⟩ := ba4 h
  obtain ⟨h8, h⟩ := ba4 h
  obtain ⟨h9, h⟩ := ba4 h
  obtain ⟨h10, h⟩ := ba4 h
  obtain ⟨h11, h⟩ := ba4 h
  obtain ⟨h12, h13⟩ := ba4 h
  exact ⟨⟨clsB_ok h1, He.eqO_ok h2, optT_ok2 h3, of_decide_eq_true h4, h5⟩, h6, He.eqO_ok h7, He.eqO_ok h8, He.eqO_ok h9, He.eqO_ok h10, optT_ok2 h11, optT_ok2 h12, h13⟩
theorem kit_ve {K : PySem.W.Frag} {Ci D : Addr} (hm : mroB K Ci D = true) : PySem.W.kitOne K (.ref Ci) (.type "ValueError") = some true := by
  have e := of_decide_eq_true hm
  obtain ⟨cd, hc, hr⟩ := Option.map_eq_some_iff.mp e
  unfold PySem.W.kitOne
  rw [if_neg (by simp)]
  show (if PySem.W.kitMeta "ValueError" = true then PySem.W.subIn K (.ref Ci) (.type "ValueError") else none) = _
  rw [if_pos (by decide +kernel)]
  show ((PySem.W.clsIn K Ci).bind fun cd => if cd.mro.isEmpty then none else some (cd.mro.contains (.type "ValueError"))) = _
  rw [hc]
  show (if cd.mro.isEmpty = true then none else some (cd.mro.contains (Value.type "ValueError"))) = _
  rw [hr, if_neg (by simp)]
  simp
section
variable {P : Program} {w : World} {K : PySem.W.Frag} {mg : Str → Option Value} {base : Heap}
theorem scE2 : FnScope ["self", "number"] ["self", "number"] (defScope s_BadCoin_init) := ⟨rfl, rfl, rfl, by decide +kernel, rfl, by decide +kernel, by decide +kernel⟩
theorem ok_E2 {f C : Addr} {fd : FuncData} (F : Fun K "__init__" "BadCoin.__init__" s_BadCoin_init f fd) (O : OexC K C) (no : PySem.W.findIn K (.ref C) "number" = some none) : FnOk P w K mg base CX0 1 f fd ["self", "number"] (spIni C "number") := by
  refine F.ok scE2 (fun vs H Q E h => ?_) (fun cdv A outer s H vs Q E hr h => ?_)
  · obtain ⟨a, v, rfl, _⟩ := h
    rfl
  · obtain ⟨a, v, rfl, ha, k⟩ := h
    refine ⟨_, pss_one (ps_ost (pv 0) (pv 1)), ?_⟩
    exact ⟨_, rfl, _, rfl, a, C, rfl, O, no, .inl ⟨ha, fun dx hd ne => k dx hd ne⟩⟩
end
end Law
set_option maxHeartbeats 0
namespace Law
open PySem PySem.Spec PyProof.Rows L2
theorem ba3 {a b : Bool} (h : (a && b) = true) : a = true ∧ b = true := Bool.and_eq_true_iff.mp h
theorem optT_ok {o : Option Bool} (h : optT o = true) : o = some true := by
  cases o with
  | none => cases h
  | some b =>
    cases b with
    | true => rfl
    | false => cases h
section
variable {P : Program} {w : World} {K : PySem.W.Frag} {h : Heap} {mg : Str → Option Value} {base : Heap}
theorem facts {f : Addr} (tr : P.given.tree = none) (X : K.In h) (G : h.Ns mainGlobals mg) (hfa : mg ("law" : Str) = some (.ref f)) (c : He.SaysD fas fns K) (e : exK K = true) :
    ∃ fd : FuncData, (∀ (s : Shared) (v : Value), BindsTo s fd ⟨[v], []⟩ [("script", v)]) ∧ ∀ base : Heap, K.In base → base.Ns mainGlobals mg → FnOk P w K mg base CX0 8 f fd ["script"] (spLaw K) := by
  have eL := hfa.symm.trans (He.glo_ok X G (c.fact 47 (f := .glo "law") rfl))
  cases eL
  obtain ⟨e1, e5⟩ := ba3 e
  obtain ⟨e5, e6⟩ := ba3 e5
  obtain ⟨e7, e8⟩ := ba3 e5
  obtain ⟨x1, x2⟩ := ba3 e7
  obtain ⟨x2, x3⟩ := ba3 x2
  obtain ⟨x3, x4⟩ := ba3 x3
  obtain ⟨u1, u2⟩ := ba3 e8
  obtain ⟨u2, u3⟩ := ba3 u2
  obtain ⟨u3, u4⟩ := ba3 u3
  obtain ⟨y1, y2⟩ := ba3 e1
  obtain ⟨v1, v2⟩ := ba3 e6
  obtain ⟨v2, v3⟩ := ba3 v2
  obtain ⟨v3, v4⟩ := ba3 v3
  obtain ⟨i1, i2⟩ := ba3 v3
  have T : NmA mg := ⟨He.free_ok X G (c.fact 49 (f := .free "abs") rfl), He.free_ok X G (c.fact 50 (f := .free "all") rfl), He.free_ok X G (c.fact 51 (f := .free "bool") rfl), He.free_ok X G (c.fact 52 (f := .free "enumerate") rfl), He.free_ok X G (c.fact 53 (f := .free "int") rfl), He.free_ok X G (c.fact 54 (f := .free "isinstance") rfl), He.free_ok X G (c.fact 55 (f := .free "len") rfl), He.free_ok X G (c.fact 56 (f := .free "list") rfl), He.free_ok X G (c.fact 57 (f := .free "range") rfl), He.free_ok X G (c.fact 58 (f := .free "set") rfl), He.free_ok X G (c.fact 59 (f := .free "sorted") rfl), He.free_ok X G (c.fact 60 (f := .free "str") rfl), He.free_ok X G (c.fact 61 (f := .free "sum") rfl), He.free_ok X G (c.fact 62 (f := .free "tuple") rfl), PySem.W.mg_of X G (He.eqO_ok y1), PySem.W.mg_of X G (He.eqO_ok y2)⟩
  have Y : SysT K mg (He.ga K "System") := ⟨He.cls_ok (c.fact 63 (f := .cls "System") rfl), He.noat_ok (c.fact 64 (f := .noat "System" "many") rfl), He.noat_ok (c.fact 65 (f := .noat "System" "moves") rfl), He.glo_ok X G (c.fact 16 (f := .glo "System") rfl), He.eqO_ok x1, He.eqO_ok x2, optT_ok x3, optT_ok x4⟩
  obtain ⟨fd_law, F_law⟩ := c.def_ 53 rfl
  have FD_law := F_law
  have F_law := funD_fun (st := s_law) F_law
  have B_law := F_law.binds (ps := ["script"]) fun _ _ _ _ _ _ us hl => match us, hl with | [_], _ => rfl
  have M_law := He.glo_ok X G (c.fact 47 (f := .glo "law") rfl)
  obtain ⟨fd__law_hand, F__law_hand⟩ := c.def_ 34 rfl
  have FD__law_hand := F__law_hand
  have F__law_hand := funD_fun (st := s_law_hand) F__law_hand
  have B__law_hand := F__law_hand.binds (ps := ["script"]) fun _ _ _ _ _ _ us hl => match us, hl with | [_], _ => rfl
  have M__law_hand := He.glo_ok X G (c.fact 28 (f := .glo "_law_hand") rfl)
  obtain ⟨fd__law_world, F__law_world⟩ := c.def_ 39 rfl
  have FD__law_world := F__law_world
  have F__law_world := funD_fun (st := s_law_world) F__law_world
  have B__law_world := F__law_world.binds (ps := ["hand", "most", "moves"]) fun _ _ _ _ _ _ us hl => match us, hl with | [_, _, _], _ => rfl
  have M__law_world := He.glo_ok X G (c.fact 33 (f := .glo "_law_world") rfl)
  obtain ⟨fd__law_draw, F__law_draw⟩ := c.def_ 35 rfl
  have FD__law_draw := F__law_draw
  have F__law_draw := funD_fun (st := s_law_draw) F__law_draw
  have B__law_draw := F__law_draw.binds (ps := ["hand", "many"]) fun _ _ _ _ _ _ us hl => match us, hl with | [_, _], _ => rfl
  have M__law_draw := He.glo_ok X G (c.fact 29 (f := .glo "_law_draw") rfl)
  obtain ⟨fd__law_any, F__law_any⟩ := c.def_ 36 rfl
  have FD__law_any := F__law_any
  have F__law_any := funD_fun (st := s_law_any) F__law_any
  have B__law_any := F__law_any.binds (ps := ["hand", "things"]) fun _ _ _ _ _ _ us hl => match us, hl with | [_, _], _ => rfl
  have M__law_any := He.glo_ok X G (c.fact 30 (f := .glo "_law_any") rfl)
  obtain ⟨fd__law_leads, F__law_leads⟩ := c.def_ 38 rfl
  have FD__law_leads := F__law_leads
  have F__law_leads := funD_fun (st := s_law_leads) F__law_leads
  have B__law_leads := F__law_leads.binds (ps := ["hand", "many"]) fun _ _ _ _ _ _ us hl => match us, hl with | [_, _], _ => rfl
  have M__law_leads := He.glo_ok X G (c.fact 32 (f := .glo "_law_leads") rfl)
  obtain ⟨fd__law_late, F__law_late⟩ := c.def_ 44 rfl
  have FD__law_late := F__law_late
  have F__law_late := funD_fun (st := s_law_late) F__law_late
  have B__law_late := F__law_late.binds (ps := ["hand"]) fun _ _ _ _ _ _ us hl => match us, hl with | [_], _ => rfl
  have M__law_late := He.glo_ok X G (c.fact 38 (f := .glo "_law_late") rfl)
  obtain ⟨fd__law_made, F__law_made⟩ := c.def_ 40 rfl
  have FD__law_made := F__law_made
  have F__law_made := funD_fun (st := s_law_made) F__law_made
  have B__law_made := F__law_made.binds (ps := ["world"]) fun _ _ _ _ _ _ us hl => match us, hl with | [_], _ => rfl
  have M__law_made := He.glo_ok X G (c.fact 34 (f := .glo "_law_made") rfl)
  obtain ⟨fd__law_low, F__law_low⟩ := c.def_ 37 rfl
  have FD__law_low := F__law_low
  have F__law_low := funD_fun (st := s_law_low) F__law_low
  have B__law_low := F__law_low.binds (ps := ["top", "bottom"]) fun _ _ _ _ _ _ us hl => match us, hl with | [_, _], _ => rfl
  have M__law_low := He.glo_ok X G (c.fact 31 (f := .glo "_law_low") rfl)
  obtain ⟨fd_System___init__, F_System___init__⟩ := c.def_ 15 rfl
  have FD_System___init__ := F_System___init__
  have F_System___init__ := funD_fun (st := s_System_init) F_System___init__
  have B_System___init__ := F_System___init__.binds (ps := ["self", "many", "moves"]) fun _ _ _ _ _ _ us hl => match us, hl with | [_, _, _], _ => rfl
  obtain ⟨fd_is_within, F_is_within⟩ := c.def_ 1 rfl
  have FD_is_within := F_is_within
  have F_is_within := funD_fun (st := s_is_within) F_is_within
  have B_is_within := F_is_within.binds (ps := ["low", "high", "thing"]) fun _ _ _ _ _ _ us hl => match us, hl with | [_, _, _], _ => rfl
  have M_is_within := He.glo_ok X G (c.fact 1 (f := .glo "is_within") rfl)
  obtain ⟨fd_is_integer, F_is_integer⟩ := c.def_ 0 rfl
  have FD_is_integer := F_is_integer
  have F_is_integer := funD_fun (st := s_is_integer) F_is_integer
  have B_is_integer := F_is_integer.binds (ps := ["thing"]) fun _ _ _ _ _ _ us hl => match us, hl with | [_], _ => rfl
  have M_is_integer := He.glo_ok X G (c.fact 0 (f := .glo "is_integer") rfl)
  obtain ⟨fd_is_move, F_is_move⟩ := c.def_ 17 rfl
  have FD_is_move := F_is_move
  have F_is_move := funD_fun (st := s_is_move) F_is_move
  have B_is_move := F_is_move.binds (ps := ["many", "thing"]) fun _ _ _ _ _ _ us hl => match us, hl with | [_, _], _ => rfl
  have M_is_move := He.glo_ok X G (c.fact 17 (f := .glo "is_move") rfl)
  obtain ⟨fd_is_fraction, F_is_fraction⟩ := c.def_ 4 rfl
  have FD_is_fraction := F_is_fraction
  have F_is_fraction := funD_fun (st := s_is_fraction) F_is_fraction
  have B_is_fraction := F_is_fraction.binds (ps := ["thing"]) fun _ _ _ _ _ _ us hl => match us, hl with | [_], _ => rfl
  have M_is_fraction := He.glo_ok X G (c.fact 4 (f := .glo "is_fraction") rfl)
  obtain ⟨fd_is_row_below, F_is_row_below⟩ := c.def_ 2 rfl
  have FD_is_row_below := F_is_row_below
  have F_is_row_below := funD_fun (st := s_is_row_below) F_is_row_below
  have B_is_row_below := F_is_row_below.binds (ps := ["bound", "thing"]) fun _ _ _ _ _ _ us hl => match us, hl with | [_, _], _ => rfl
  have M_is_row_below := He.glo_ok X G (c.fact 2 (f := .glo "is_row_below") rfl)
  obtain ⟨fd_are_one_together, F_are_one_together⟩ := c.def_ 7 rfl
  have FD_are_one_together := F_are_one_together
  have F_are_one_together := funD_fun (st := s_are_one_together) F_are_one_together
  have B_are_one_together := F_are_one_together.binds (ps := ["fractions"]) fun _ _ _ _ _ _ us hl => match us, hl with | [_], _ => rfl
  have M_are_one_together := He.glo_ok X G (c.fact 7 (f := .glo "are_one_together") rfl)
  obtain ⟨fd_common_bottom, F_common_bottom⟩ := c.def_ 5 rfl
  have FD_common_bottom := F_common_bottom
  have F_common_bottom := funD_fun (st := s_common_bottom) F_common_bottom
  have B_common_bottom := F_common_bottom.binds (ps := ["fractions"]) fun _ _ _ _ _ _ us hl => match us, hl with | [_], _ => rfl
  have M_common_bottom := He.glo_ok X G (c.fact 5 (f := .glo "common_bottom") rfl)
  obtain ⟨fd_tops_over, F_tops_over⟩ := c.def_ 6 rfl
  have FD_tops_over := F_tops_over
  have F_tops_over := funD_fun (st := s_tops_over) F_tops_over
  have B_tops_over := F_tops_over.binds (ps := ["fractions", "bottom"]) fun _ _ _ _ _ _ us hl => match us, hl with | [_, _], _ => rfl
  have M_tops_over := He.glo_ok X G (c.fact 6 (f := .glo "tops_over") rfl)
  obtain ⟨fd_Drawer___init__, F_Drawer___init__⟩ := c.def_ 24 rfl
  have FD_Drawer___init__ := F_Drawer___init__
  have F_Drawer___init__ := funD_fun (st := s_Drawer_init) F_Drawer___init__
  have B_Drawer___init__ := F_Drawer___init__.binds (ps := ["self", "system"]) fun _ _ _ _ _ _ us hl => match us, hl with | [_, _], _ => rfl
  obtain ⟨fd_Drawer_copy, F_Drawer_copy⟩ := c.def_ 30 rfl
  have FD_Drawer_copy := F_Drawer_copy
  have F_Drawer_copy := funD_fun (st := s_Drawer_copy) F_Drawer_copy
  have B_Drawer_copy := F_Drawer_copy.binds (ps := ["self"]) fun _ _ _ _ _ _ us hl => match us, hl with | [_], _ => rfl
  obtain ⟨fd_Drawer_read, F_Drawer_read⟩ := c.def_ 25 rfl
  have FD_Drawer_read := F_Drawer_read
  have F_Drawer_read := funD_fun (st := s_Drawer_read) F_Drawer_read
  have B_Drawer_read := F_Drawer_read.binds (ps := ["self", "move"]) fun _ _ _ _ _ _ us hl => match us, hl with | [_, _], _ => rfl
  obtain ⟨fd_led_ahead, F_led_ahead⟩ := c.def_ 21 rfl
  have FD_led_ahead := F_led_ahead
  have F_led_ahead := funD_fun (st := s_led_ahead) F_led_ahead
  have B_led_ahead := F_led_ahead.binds (ps := ["system", "move", "leads"]) fun _ _ _ _ _ _ us hl => match us, hl with | [_, _, _], _ => rfl
  have M_led_ahead := He.glo_ok X G (c.fact 21 (f := .glo "led_ahead") rfl)
  obtain ⟨fd_Drawer_lot, F_Drawer_lot⟩ := c.def_ 28 rfl
  have FD_Drawer_lot := F_Drawer_lot
  have F_Drawer_lot := funD_fun (st := s_Drawer_lot) F_Drawer_lot
  have B_Drawer_lot := F_Drawer_lot.binds (ps := ["self"]) fun _ _ _ _ _ _ us hl => match us, hl with | [_], _ => rfl
  obtain ⟨fd_lot_of, F_lot_of⟩ := c.def_ 3 rfl
  have FD_lot_of := F_lot_of
  have F_lot_of := funD_fun (st := s_lot_of) F_lot_of
  have B_lot_of := F_lot_of.binds (ps := ["things"]) fun _ _ _ _ _ _ us hl => match us, hl with | [_], _ => rfl
  have M_lot_of := He.glo_ok X G (c.fact 3 (f := .glo "lot_of") rfl)
  obtain ⟨fd_Drawer_state, F_Drawer_state⟩ := c.def_ 26 rfl
  have FD_Drawer_state := F_Drawer_state
  have F_Drawer_state := funD_fun (st := s_Drawer_state) F_Drawer_state
  have B_Drawer_state := F_Drawer_state.binds (ps := ["self"]) fun _ _ _ _ _ _ us hl => match us, hl with | [_], _ => rfl
  obtain ⟨fd__law_drawn, F__law_drawn⟩ := c.def_ 43 rfl
  have FD__law_drawn := F__law_drawn
  have F__law_drawn := funD_fun (st := s_law_drawn) F__law_drawn
  have B__law_drawn := F__law_drawn.binds (ps := ["world", "coins", "plan"]) fun _ _ _ _ _ _ us hl => match us, hl with | [_, _, _], _ => rfl
  have M__law_drawn := He.glo_ok X G (c.fact 37 (f := .glo "_law_drawn") rfl)
  obtain ⟨fd__law_lot, F__law_lot⟩ := c.def_ 42 rfl
  have FD__law_lot := F__law_lot
  have F__law_lot := funD_fun (st := s_law_lot) F__law_lot
  have B__law_lot := F__law_lot.binds (ps := ["states"]) fun _ _ _ _ _ _ us hl => match us, hl with | [_], _ => rfl
  have M__law_lot := He.glo_ok X G (c.fact 36 (f := .glo "_law_lot") rfl)
  obtain ⟨fd__law_stands, F__law_stands⟩ := c.def_ 45 rfl
  have FD__law_stands := F__law_stands
  have F__law_stands := funD_fun (st := s_law_stands) F__law_stands
  have B__law_stands := F__law_stands.binds (ps := ["drawer", "world", "coins"]) fun _ _ _ _ _ _ us hl => match us, hl with | [_, _, _], _ => rfl
  have M__law_stands := He.glo_ok X G (c.fact 39 (f := .glo "_law_stands") rfl)
  obtain ⟨fd__law_behind, F__law_behind⟩ := c.def_ 41 rfl
  have FD__law_behind := F__law_behind
  have F__law_behind := funD_fun (st := s_law_behind) F__law_behind
  have B__law_behind := F__law_behind.binds (ps := ["world", "row"]) fun _ _ _ _ _ _ us hl => match us, hl with | [_, _], _ => rfl
  have M__law_behind := He.glo_ok X G (c.fact 35 (f := .glo "_law_behind") rfl)
  obtain ⟨fd_Drawer_coins, F_Drawer_coins⟩ := c.def_ 29 rfl
  have FD_Drawer_coins := F_Drawer_coins
  have F_Drawer_coins := funD_fun (st := s_Drawer_coins) F_Drawer_coins
  have B_Drawer_coins := F_Drawer_coins.binds (ps := ["self"]) fun _ _ _ _ _ _ us hl => match us, hl with | [_], _ => rfl
  obtain ⟨fd_Drawer_depth, F_Drawer_depth⟩ := c.def_ 27 rfl
  have FD_Drawer_depth := F_Drawer_depth
  have F_Drawer_depth := funD_fun (st := s_Drawer_depth) F_Drawer_depth
  have B_Drawer_depth := F_Drawer_depth.binds (ps := ["self"]) fun _ _ _ _ _ _ us hl => match us, hl with | [_], _ => rfl
  obtain ⟨fd_drawer_text, F_drawer_text⟩ := c.def_ 31 rfl
  have FD_drawer_text := F_drawer_text
  have F_drawer_text := funD_fun (st := s_drawer_text) F_drawer_text
  have B_drawer_text := F_drawer_text.binds (ps := ["drawer"]) fun _ _ _ _ _ _ us hl => match us, hl with | [_], _ => rfl
  have M_drawer_text := He.glo_ok X G (c.fact 25 (f := .glo "drawer_text") rfl)
  obtain ⟨fd__law_is_read, F__law_is_read⟩ := c.def_ 49 rfl
  have FD__law_is_read := F__law_is_read
  have F__law_is_read := funD_fun (st := s_law_is_read) F__law_is_read
  have B__law_is_read := F__law_is_read.binds (ps := ["hand", "world", "system", "text"]) fun _ _ _ _ _ _ us hl => match us, hl with | [_, _, _, _], _ => rfl
  have M__law_is_read := He.glo_ok X G (c.fact 43 (f := .glo "_law_is_read") rfl)
  obtain ⟨fd__law_first_wrong, F__law_first_wrong⟩ := c.def_ 46 rfl
  have FD__law_first_wrong := F__law_first_wrong
  have F__law_first_wrong := funD_fun (st := s_law_first_wrong) F__law_first_wrong
  have B__law_first_wrong := F__law_first_wrong.binds (ps := ["world", "text"]) fun _ _ _ _ _ _ us hl => match us, hl with | [_, _], _ => rfl
  have M__law_first_wrong := He.glo_ok X G (c.fact 40 (f := .glo "_law_first_wrong") rfl)
  obtain ⟨fd__law_read, F__law_read⟩ := c.def_ 48 rfl
  have FD__law_read := F__law_read
  have F__law_read := funD_fun (st := s_law_read) F__law_read
  have B__law_read := F__law_read.binds (ps := ["system", "text"]) fun _ _ _ _ _ _ us hl => match us, hl with | [_, _], _ => rfl
  have M__law_read := He.glo_ok X G (c.fact 42 (f := .glo "_law_read") rfl)
  obtain ⟨fd_drawer_of, F_drawer_of⟩ := c.def_ 32 rfl
  have FD_drawer_of := F_drawer_of
  have F_drawer_of := funD_fun (st := s_drawer_of) F_drawer_of
  have B_drawer_of := F_drawer_of.binds (ps := ["system", "text"]) fun _ _ _ _ _ _ us hl => match us, hl with | [_, _], _ => rfl
  have M_drawer_of := He.glo_ok X G (c.fact 26 (f := .glo "drawer_of") rfl)
  obtain ⟨fd_number_of_text, F_number_of_text⟩ := c.def_ 8 rfl
  have FD_number_of_text := F_number_of_text
  have F_number_of_text := funD_fun (st := s_number_of_text) F_number_of_text
  have B_number_of_text := F_number_of_text.binds (ps := ["text"]) fun _ _ _ _ _ _ us hl => match us, hl with | [_], _ => rfl
  have M_number_of_text := He.glo_ok X G (c.fact 8 (f := .glo "number_of_text") rfl)
  obtain ⟨fd__law_bent, F__law_bent⟩ := c.def_ 47 rfl
  have FD__law_bent := F__law_bent
  have F__law_bent := funD_fun (st := s_law_bent) F__law_bent
  have B__law_bent := F__law_bent.binds (ps := ["hand", "world", "text"]) fun _ _ _ _ _ _ us hl => match us, hl with | [_, _, _], _ => rfl
  have M__law_bent := He.glo_ok X G (c.fact 41 (f := .glo "_law_bent") rfl)
  obtain ⟨fd__law_are_judged, F__law_are_judged⟩ := c.def_ 52 rfl
  have FD__law_are_judged := F__law_are_judged
  have F__law_are_judged := funD_fun (st := s_law_are_judged) F__law_are_judged
  have B__law_are_judged := F__law_are_judged.binds (ps := ["hand", "world", "system", "coins"]) fun _ _ _ _ _ _ us hl => match us, hl with | [_, _, _, _], _ => rfl
  have M__law_are_judged := He.glo_ok X G (c.fact 46 (f := .glo "_law_are_judged") rfl)
  obtain ⟨fd__law_tells, F__law_tells⟩ := c.def_ 51 rfl
  have FD__law_tells := F__law_tells
  have F__law_tells := funD_fun (st := s_law_tells) F__law_tells
  have B__law_tells := F__law_tells.binds (ps := ["flag", "due"]) fun _ _ _ _ _ _ us hl => match us, hl with | [_, _], _ => rfl
  have M__law_tells := He.glo_ok X G (c.fact 45 (f := .glo "_law_tells") rfl)
  obtain ⟨fd_is_drawn, F_is_drawn⟩ := c.def_ 33 rfl
  have FD_is_drawn := F_is_drawn
  have F_is_drawn := funD_fun (st := s_is_drawn) F_is_drawn
  have B_is_drawn := F_is_drawn.binds (ps := ["system", "thing"]) fun _ _ _ _ _ _ us hl => match us, hl with | [_, _], _ => rfl
  have M_is_drawn := He.glo_ok X G (c.fact 27 (f := .glo "is_drawn") rfl)
  obtain ⟨fd_is_row, F_is_row⟩ := c.def_ 18 rfl
  have FD_is_row := F_is_row
  have F_is_row := funD_fun (st := s_is_row) F_is_row
  have B_is_row := F_is_row.binds (ps := ["system", "thing"]) fun _ _ _ _ _ _ us hl => match us, hl with | [_, _], _ => rfl
  have M_is_row := He.glo_ok X G (c.fact 18 (f := .glo "is_row") rfl)
  obtain ⟨fd_drawn, F_drawn⟩ := c.def_ 23 rfl
  have FD_drawn := F_drawn
  have F_drawn := funD_fun (st := s_drawn) F_drawn
  have B_drawn := F_drawn.binds (ps := ["system", "coins", "plan"]) fun _ _ _ _ _ _ us hl => match us, hl with | [_, _, _], _ => rfl
  have M_drawn := He.glo_ok X G (c.fact 23 (f := .glo "drawn") rfl)
  obtain ⟨fd_is_plan, F_is_plan⟩ := c.def_ 19 rfl
  have FD_is_plan := F_is_plan
  have F_is_plan := funD_fun (st := s_is_plan) F_is_plan
  have B_is_plan := F_is_plan.binds (ps := ["thing"]) fun _ _ _ _ _ _ us hl => match us, hl with | [_], _ => rfl
  have M_is_plan := He.glo_ok X G (c.fact 19 (f := .glo "is_plan") rfl)
  obtain ⟨fd_led_by_plan, F_led_by_plan⟩ := c.def_ 22 rfl
  have FD_led_by_plan := F_led_by_plan
  have F_led_by_plan := funD_fun (st := s_led_by_plan) F_led_by_plan
  have B_led_by_plan := F_led_by_plan.binds (ps := ["system", "coins", "plan", "states"]) fun _ _ _ _ _ _ us hl => match us, hl with | [_, _, _, _], _ => rfl
  have M_led_by_plan := He.glo_ok X G (c.fact 22 (f := .glo "led_by_plan") rfl)
  obtain ⟨fd_looks, F_looks⟩ := c.def_ 20 rfl
  have FD_looks := F_looks
  have F_looks := funD_fun (st := s_looks) F_looks
  have B_looks := F_looks.binds (ps := ["plan", "many"]) fun _ _ _ _ _ _ us hl => match us, hl with | [_, _], _ => rfl
  have M_looks := He.glo_ok X G (c.fact 20 (f := .glo "looks") rfl)
  obtain ⟨fd__law_is_due, F__law_is_due⟩ := c.def_ 50 rfl
  have FD__law_is_due := F__law_is_due
  have F__law_is_due := funD_fun (st := s_law_is_due) F__law_is_due
  have B__law_is_due := F__law_is_due.binds (ps := ["world", "thing"]) fun _ _ _ _ _ _ us hl => match us, hl with | [_, _], _ => rfl
  have M__law_is_due := He.glo_ok X G (c.fact 44 (f := .glo "_law_is_due") rfl)
  have MK := He.mkr_ok (c.fact 66 (f := .mkr "System") rfl)
  have YD : DrT K mg (He.ga K "Drawer") := ⟨He.cls_ok (c.fact 67 (f := .cls "Drawer") rfl), He.noat_ok (c.fact 68 (f := .noat "Drawer" "_system") rfl), He.noat_ok (c.fact 69 (f := .noat "Drawer" "_coins") rfl), He.noat_ok (c.fact 70 (f := .noat "Drawer" "_leads") rfl), He.noat_ok (c.fact 71 (f := .noat "Drawer" "_depth") rfl), He.glo_ok X G (c.fact 24 (f := .glo "Drawer") rfl), He.eqO_ok u1, He.eqO_ok u2, optT_ok u3, optT_ok u4⟩
  have MKD := He.mkr_ok (c.fact 72 (f := .mkr "Drawer") rfl)
  have hve := He.free_ok X G (c.fact 48 (f := .free "ValueError") rfl)
  have hGD := He.glo_ok X G (c.fact 9 (f := .glo "DrawError") rfl)
  have hx := He.exm_ok (c.fact 80 (f := .exm "BadCoin" "DrawError" true) rfl)
  have kV := kit_ve v2
  have kT : PySem.W.kitOne K (.ref (He.ga K "System")) (.type "tuple") = some false := of_decide_eq_true v4
  obtain ⟨fd_bc, F_bc⟩ := c.def_ 10 rfl
  have F_bc := funD_fun (st := s_BadCoin_init) F_bc
  have bla := FunD.bindsA (ps := ["script"]) FD_law fun _ _ _ _ _ _ us hl => match us, hl with | [_], _ => rfl
  refine ⟨fd_law, fun s v => bla s [v] rfl, fun base KB GB => ?_⟩
  have noB : PySem.W.findIn K (.ref (He.ga K "BadCoin")) "number" = some none := He.noat_ok (c.fact 79 (f := .noat "BadCoin" "number") rfl)
  have EBC : Er1 P w K mg base "BadCoin" (He.ga K "BadCoin") "number" := ⟨exvB_ok v1, He.glo_ok X G (c.fact 11 (f := .glo "BadCoin") rfl), noB, _, fd_bc, _, He.eqO_ok i1, of_decide_eq_true i2, ok_E2 (P := P) (w := w) (mg := mg) (base := base) F_bc (exvB_ok v1).ox noB, F_bc.binds fun _ _ _ _ _ _ us hl => match us, hl with | [_, _], _ => rfl⟩
  have k_hand : Cl P w K mg base CX0 1 "_law_hand" _ fd__law_hand ["script"] (spHand K) := ⟨ok_hand F__law_hand T, B__law_hand, M__law_hand, F__law_hand.kp⟩
  have k_draw : Cl P w K mg base CX0 1 "_law_draw" _ fd__law_draw ["hand", "many"] spDraw := ⟨ok_draw F__law_draw T, B__law_draw, M__law_draw, F__law_draw.kp⟩
  have k_any : Cl P w K mg base CX0 2 "_law_any" _ fd__law_any ["hand", "things"] (spAny K) := ⟨ok_any F__law_any T k_draw, B__law_any, M__law_any, F__law_any.kp⟩
  have k_leads : Cl P w K mg base CX0 2 "_law_leads" _ fd__law_leads ["hand", "many"] (spLeads K) := ⟨ok_leads F__law_leads T k_draw, B__law_leads, M__law_leads, F__law_leads.kp⟩
  have k_world : Cl P w K mg base CX0 3 "_law_world" _ fd__law_world ["hand", "most", "moves"] (spWorld K) := ⟨ok_world F__law_world T k_draw k_any k_leads, B__law_world, M__law_world, F__law_world.kp⟩
  have k_late : Cl P w K mg base CX0 3 "_law_late" _ fd__law_late ["hand"] (spLate K) := ⟨ok_late F__law_late T k_draw k_any, B__law_late, M__law_late, F__law_late.kp⟩
  have k_low : Cl P w K mg base CX0 1 "_law_low" _ fd__law_low ["top", "bottom"] spLowS := ⟨ok_low F__law_low T, B__law_low, M__law_low, F__law_low.kp⟩
  have k_isint : Cl P w K mg base CX0 1 "is_integer" _ fd_is_integer ["thing"] (spIsInt K) := ⟨ok_isint F_is_integer T, B_is_integer, M_is_integer, F_is_integer.kp⟩
  have k_within : Cl P w K mg base CX0 2 "is_within" _ fd_is_within ["low", "high", "thing"] (spWithin K) := ⟨ok_within F_is_within k_isint, B_is_within, M_is_within, F_is_within.kp⟩
  have k_frac : Cl P w K mg base CX0 2 "is_fraction" _ fd_is_fraction ["thing"] (spFrac K) := ⟨ok_frac F_is_fraction T k_isint, B_is_fraction, M_is_fraction, F_is_fraction.kp⟩
  have k_rowb : Cl P w K mg base CX0 3 "is_row_below" _ fd_is_row_below ["bound", "thing"] (spRowB K) := ⟨ok_rowb F_is_row_below T k_within, B_is_row_below, M_is_row_below, F_is_row_below.kp⟩
  have k_move : Cl P w K mg base CX0 4 "is_move" _ fd_is_move ["many", "thing"] (spMove K) := ⟨ok_move F_is_move T k_frac k_rowb, B_is_move, M_is_move, F_is_move.kp⟩
  have k_comb : Cl P w K mg base CX0 1 "common_bottom" _ fd_common_bottom ["fractions"] (spComB K) := ⟨ok_comb F_common_bottom T, B_common_bottom, M_common_bottom, F_common_bottom.kp⟩
  have k_tops : Cl P w K mg base CX0 1 "tops_over" _ fd_tops_over ["fractions", "bottom"] (spTops K) := ⟨ok_tops F_tops_over, B_tops_over, M_tops_over, F_tops_over.kp⟩
  have k_one : Cl P w K mg base CX0 2 "are_one_together" _ fd_are_one_together ["fractions"] (spOne K) := ⟨ok_one F_are_one_together T k_comb k_tops, B_are_one_together, M_are_one_together, F_are_one_together.kp⟩
  have g_sinit := ok_sinit (P := P) (w := w) (base := base) F_System___init__ T Y k_within k_move k_one
  have k_made : Cl P w K mg base CX0 7 "_law_made" _ fd__law_made ["world"] (spMade K (He.ga K "System")) := ⟨ok_made F__law_made T k_low MK g_sinit B_System___init__ Y, B__law_made, M__law_made, F__law_made.kp⟩
  have g_dinit := ok_dinit (P := P) (w := w) (base := base) F_Drawer___init__ T Y YD
  have m_dcopy : Ml P w K mg base 3 (He.ga K "Drawer") "copy" _ fd_Drawer_copy ["self"] (spCopy K (He.ga K "System") (He.ga K "Drawer")) := ⟨ok_dcopy F_Drawer_copy T MKD g_dinit B_Drawer___init__ YD, B_Drawer_copy, He.meth_ok (c.fact 78 (f := .meth "Drawer" "copy") rfl), YD.cl⟩
  have k_led_ahead : Cl P w K mg base CX0 1 "led_ahead" _ fd_led_ahead ["system", "move", "leads"] (spAhead K (He.ga K "System")) := ⟨ok_led_ahead F_led_ahead T Y, B_led_ahead, M_led_ahead, F_led_ahead.kp⟩
  have k_lot_of : Cl P w K mg base CX0 1 "lot_of" _ fd_lot_of ["things"] (spLotOf K) := ⟨ok_lot_of F_lot_of T, B_lot_of, M_lot_of, F_lot_of.kp⟩
  have m_dlot : Ml P w K mg base 2 (He.ga K "Drawer") "lot" _ fd_Drawer_lot ["self"] (spLotM (He.ga K "Drawer") K) := ⟨ok_dlot F_Drawer_lot T k_lot_of YD, B_Drawer_lot, He.meth_ok (c.fact 76 (f := .meth "Drawer" "lot") rfl), YD.cl⟩
  have m_dstate : Ml P w K mg base 1 (He.ga K "Drawer") "state" _ fd_Drawer_state ["self"] (spState (He.ga K "Drawer") K) := ⟨ok_dstate F_Drawer_state T YD, B_Drawer_state, He.meth_ok (c.fact 74 (f := .meth "Drawer" "state") rfl), YD.cl⟩
  have m_dread : Ml P w K mg base 3 (He.ga K "Drawer") "read" _ fd_Drawer_read ["self", "move"] (spRead K (He.ga K "System") (He.ga K "Drawer")) := ⟨ok_dread F_Drawer_read T k_within k_led_ahead m_dlot m_dstate Y YD, B_Drawer_read, He.meth_ok (c.fact 73 (f := .meth "Drawer" "read") rfl), YD.cl⟩
  have k_lot : Cl P w K mg base CX0 1 "_law_lot" _ fd__law_lot ["states"] (spLotOf K) := ⟨ok_lot F__law_lot T, B__law_lot, M__law_lot, F__law_lot.kp⟩
  have k_drawnL : Cl P w K mg base CX0 2 "_law_drawn" _ fd__law_drawn ["world", "coins", "plan"] (spDrawnL K) := ⟨ok_drawnL F__law_drawn T k_lot, B__law_drawn, M__law_drawn, F__law_drawn.kp⟩
  have k_behind : Cl P w K mg base CX0 1 "_law_behind" _ fd__law_behind ["world", "row"] (spBehind K) := ⟨ok_behind F__law_behind T, B__law_behind, M__law_behind, F__law_behind.kp⟩
  have m_dcoins : Ml P w K mg base 1 (He.ga K "Drawer") "coins" _ fd_Drawer_coins ["self"] (spCoinsM (He.ga K "Drawer")) := ⟨ok_dcoins F_Drawer_coins T YD, B_Drawer_coins, He.meth_ok (c.fact 77 (f := .meth "Drawer" "coins") rfl), YD.cl⟩
  have m_ddepth : Ml P w K mg base 1 (He.ga K "Drawer") "depth" _ fd_Drawer_depth ["self"] (spDepth (He.ga K "Drawer")) := ⟨ok_ddepth F_Drawer_depth T YD, B_Drawer_depth, He.meth_ok (c.fact 75 (f := .meth "Drawer" "depth") rfl), YD.cl⟩
  have k_drawer_text : Cl P w K mg base CX0 2 "drawer_text" _ fd_drawer_text ["drawer"] (spText K (He.ga K "System") (He.ga K "Drawer")) := ⟨ok_drawer_text F_drawer_text T m_dcoins YD, B_drawer_text, M_drawer_text, F_drawer_text.kp⟩
  have k_stands : Cl P w K mg base CX0 3 "_law_stands" _ fd__law_stands ["drawer", "world", "coins"] (spStands K (He.ga K "System") (He.ga K "Drawer")) := ⟨ok_stands F__law_stands T k_drawnL k_lot k_behind m_dcoins m_dlot m_dstate m_ddepth k_drawer_text YD, B__law_stands, M__law_stands, F__law_stands.kp⟩
  have k_first_wrong : Cl P w K mg base CX0 1 "_law_first_wrong" _ fd__law_first_wrong ["world", "text"] (spFW K) := ⟨ok_first_wrong F__law_first_wrong T, B__law_first_wrong, M__law_first_wrong, F__law_first_wrong.kp⟩
  have k_number_of_text : Cl P w K mg base CX0 1 "number_of_text" _ fd_number_of_text ["text"] spNum := ⟨ok_number_of_text F_number_of_text T, B_number_of_text, M_number_of_text, F_number_of_text.kp⟩
  have k_drawer_of : ClX P w K mg base 4 "drawer_of" _ fd_drawer_of ["system", "text"] (spDrawerOf K (He.ga K "System") (He.ga K "Drawer") (He.ga K "BadCoin")) := ⟨ok_drawer_of F_drawer_of T k_number_of_text k_within MKD g_dinit B_Drawer___init__ YD m_dread Y EBC, B_drawer_of, M_drawer_of, F_drawer_of.kp⟩
  have k_read : Cl P w K mg base CX0 5 "_law_read" _ fd__law_read ["system", "text"] (spRd K (He.ga K "System") (He.ga K "Drawer")) := ⟨ok_read F__law_read T k_drawer_of EBC hve hGD hx kV, B__law_read, M__law_read, F__law_read.kp⟩
  have k_is_read : Cl P w K mg base CX0 6 "_law_is_read" _ fd__law_is_read ["hand", "world", "system", "text"] (spIsRead K (He.ga K "System") (He.ga K "Drawer")) := ⟨ok_is_read F__law_is_read T k_first_wrong k_read k_stands YD, B__law_is_read, M__law_is_read, F__law_is_read.kp⟩
  have k_bent : Cl P w K mg base CX0 3 "_law_bent" _ fd__law_bent ["hand", "world", "text"] (spBent K) := ⟨ok_bent F__law_bent T k_any k_draw, B__law_bent, M__law_bent, F__law_bent.kp⟩
  have k_tells : Cl P w K mg base CX0 1 "_law_tells" _ fd__law_tells ["flag", "due"] spTells := ⟨ok_tells F__law_tells T, B__law_tells, M__law_tells, F__law_tells.kp⟩
  have k_rowA : Cl P w K mg base CX0 3 "is_row_below" _ fd_is_row_below ["bound", "thing"] (spRowA K) := ⟨ok_rowA F_is_row_below T k_within, B_is_row_below, M_is_row_below, F_is_row_below.kp⟩
  have k_isrowA : Cl P w K mg base CX0 4 "is_row" _ fd_is_row ["system", "thing"] (spIsRowA K (He.ga K "System")) := ⟨ok_isrowA F_is_row T k_rowA Y, B_is_row, M_is_row, F_is_row.kp⟩
  have k_isrow : Cl P w K mg base CX0 4 "is_row" _ fd_is_row ["system", "thing"] (spIsRow K (He.ga K "System")) := ⟨ok_isrow F_is_row T Y k_rowb, B_is_row, M_is_row, F_is_row.kp⟩
  have k_is_plan : Cl P w K mg base CX0 1 "is_plan" _ fd_is_plan ["thing"] spIsPlan := ⟨ok_is_plan F_is_plan T, B_is_plan, M_is_plan, F_is_plan.kp⟩
  have k_looks : Cl P w K mg base CX0 1 "looks" _ fd_looks ["plan", "many"] (spLooks K) := ⟨ok_looks F_looks T, B_looks, M_looks, F_looks.kp⟩
  have k_led_by_plan : Cl P w K mg base CX0 2 "led_by_plan" _ fd_led_by_plan ["system", "coins", "plan", "states"] (spPlan K (He.ga K "System")) := ⟨ok_led_by_plan F_led_by_plan T k_looks k_led_ahead k_lot_of Y, B_led_by_plan, M_led_by_plan, F_led_by_plan.kp⟩
  have k_drawn : Cl P w K mg base CX0 5 "drawn" _ fd_drawn ["system", "coins", "plan"] (spDrawn K (He.ga K "System")) := ⟨ok_drawn F_drawn T k_isrow k_is_plan k_led_by_plan k_lot_of Y, B_drawn, M_drawn, F_drawn.kp⟩
  have k_is_drawn : Cl P w K mg base CX0 6 "is_drawn" _ fd_is_drawn ["system", "thing"] (spIsDrawn K (He.ga K "System")) := ⟨ok_is_drawn F_is_drawn T k_isrowA k_within k_drawn Y, B_is_drawn, M_is_drawn, F_is_drawn.kp⟩
  have k_is_due : Cl P w K mg base CX0 3 "_law_is_due" _ fd__law_is_due ["world", "thing"] (spDue K) := ⟨ok_is_due F__law_is_due T k_drawnL, B__law_is_due, M__law_is_due, F__law_is_due.kp⟩
  have k_are_judged : Cl P w K mg base CX0 7 "_law_are_judged" _ fd__law_are_judged ["hand", "world", "system", "coins"] (spJudged K (He.ga K "System")) := ⟨ok_are_judged F__law_are_judged T k_drawnL k_draw k_any k_tells k_is_drawn k_is_due Y kT, B__law_are_judged, M__law_are_judged, F__law_are_judged.kp⟩
  exact ok_law F_law T k_hand k_world k_late k_draw k_made MKD g_dinit B_Drawer___init__ YD m_dcopy m_dread k_drawnL k_stands k_drawer_text k_is_read k_bent k_are_judged
end
end Law
open PySem PySem.W PySem.Calls PyProof.Rows
theorem PySem.Challenge.cw_asifforever_k14_whole_drawers_texts_and_holds : PySem.Challenge.rw_asifforever_k14_whole_drawers_texts_and.Holds := by
  w_on; o_law
  refine HandSHeadRun.head_imp (r := OpenLaw.row PySem.Challenge.rw_asifforever_k14_whole_drawers_texts_and) (q := view (OpenLaw.row PySem.Challenge.rw_asifforever_k14_whole_drawers_texts_and).prog [0, 53]) (H := Law.hk) (ob := Law.ob) (M := 14000) (loose := Law.names) (d := HandSHeadRun.topDef (OpenLaw.row PySem.Challenge.rw_asifforever_k14_whole_drawers_texts_and).prog 53) (kwd := []) Law.ob_eq
    Law.run (by kernel_rfl) (by kernel_rfl) (by kernel_rfl) (by rfl) (by first | assumption | decide +kernel) (by decide +kernel) ⟨rfl, rfl, rfl, rfl, rfl, by decide +kernel⟩ ?hw ?hc
  case hw => w_witness2
  case hc =>
    refine L2.walk_ofE (l := PySem.Challenge.rw_asifforever_k14_whole_drawers_texts_and) (n := 63) (k := 8) (x := "script") (CX := L2.CX0) rfl (by decide) (by kernel_rfl) ⟨rfl, by decide, by decide⟩ ?F (fun _ _ _ _ z => z)
    intro w mg fa h Y G hmg0
    obtain ⟨K, KX, c, e⟩ := Y
    have hmg : mg ("law" : PySem.Str) = some (.ref fa) := by
      have e : (HandSHeadRun.topDef (OpenLaw.row PySem.Challenge.rw_asifforever_k14_whole_drawers_texts_and).prog 53).name = ("law" : PySem.Str) := by kernel_rfl
      rw [← e]
      exact hmg0
    obtain ⟨fd, hb, hF⟩ := Law.facts (P := (PySem.Challenge.rw_asifforever_k14_whole_drawers_texts_and).prog) (w := w) (by rfl) KX G hmg c e
    exact ⟨K, fd, Law.spLaw K, KX, hb, fun H a ns hl _ hS => ⟨a, ns, rfl, hS, hl, fun _ => rfl⟩, hF⟩

