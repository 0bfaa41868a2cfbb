import PyProof.Rows.All
import Wide.All
import OpenK.AllK
import Wide.FinOn
import KE.KExcIs
import HandS.ForMost
import HandS.Evl
import HandS.IsInst
import HandS.ExcInit
import HandS.ExcIs
import HandS.DeepEq
import HandS.OwnEq
import HandS.SetFor
import KE.GoesMore
import PyProof.Draws
import HandS.Walk
import HandS.Wide
import HandS.Gcd
import KE.KStateDown
import HandS.Defaults
import HandS.Head0
import HandS.Head1
import HandS.Head2
import HandS.Head3
import HandS.HeadEnd
import HandS.HeadHook1
import HandS.HeadHook2
import PyProof.NoPylong
import HandS.Conv
import HandS.TupMul
import HandS.TupAny
import HandS.Strs
import HandS.List
import HandS.Style
import PySem.Challenge.RW_asifforever_k21_whole_drawing_by_both_en
import HandS.TupMul
import HandS.Deep
import HandS.Walk
import KE.KeyNested
import HandS.DictTup
import HandS.TupLe
import HandS.NoneIn
import KE.KUnpackStar
import HandS.Zip
import HandS.TupSets
import KE.DataMinMax
import KE.SortData
import KE.KDictCopyH
import KE.KDictSum
import HandS.SortInts
import HandS.SortRule
import KE.KDictDisplayH
set_option Elab.async false
set_option linter.all false
set_option maxRecDepth 100000
set_option maxHeartbeats 4000000
set_option exponentiation.threshold 200000
namespace Law
open PySem L2
def top (i : Nat) : Stmt := PySem.Challenge.pw_asifforever_k21_whole_drawing_by_both_en.main.body.getD i (.Pass ⟨0, 0, 0, 0⟩)
abbrev s_is_integer : Stmt := top 2
abbrev s_is_within : Stmt := top 3
abbrev s_is_row_below : Stmt := top 4
abbrev s_is_pair_below : Stmt := top 5
abbrev s_is_ascending : Stmt := top 6
abbrev s_is_lot_of_pairs : Stmt := top 7
abbrev s_lot_of : Stmt := top 8
abbrev s_is_fraction : Stmt := top 9
abbrev s_common_bottom : Stmt := top 10
abbrev s_tops_over : Stmt := top 11
abbrev s_are_one_together : Stmt := top 12
abbrev s_BadSystem_init : Stmt := inClass (top 15) 0
abbrev s_NoState_init : Stmt := inClass (top 16) 0
abbrev s_NoCoins_init : Stmt := inClass (top 17) 0
abbrev s_NoPlan_init : Stmt := inClass (top 18) 0
abbrev s_NoOrder_init : Stmt := inClass (top 19) 0
abbrev s_NotKept_init : Stmt := inClass (top 20) 0
abbrev s_NoEnds_init : Stmt := inClass (top 21) 0
abbrev s_System_init : Stmt := inClass (top 23) 0
abbrev s_System_eq : Stmt := inClass (top 23) 1
abbrev s_is_move : Stmt := top 24
abbrev s_is_row : Stmt := top 25
abbrev s_is_plan : Stmt := top 27
abbrev s_looks : Stmt := top 28
abbrev s_led_ahead : Stmt := top 29
abbrev s_led_by_plan : Stmt := top 30
abbrev s_drawn : Stmt := top 31
abbrev s_lot_led : Stmt := top 33
abbrev s_least_row_to_one : Stmt := top 34
abbrev s_merging_row : Stmt := top 35
abbrev s_joined : Stmt := top 37
abbrev s_is_order : Stmt := top 38
abbrev s_breaking : Stmt := top 39
abbrev s_ends : Stmt := top 40
abbrev s_least_order : Stmt := top 41
abbrev s_ends_kept : Stmt := top 42
abbrev s_merging_by_ends : Stmt := top 43
abbrev s_drawn_by_ends : Stmt := top 44
abbrev s_law_hand : Stmt := top 46
abbrev s_law_draw : Stmt := top 47
abbrev s_law_any : Stmt := top 48
abbrev s_law_low : Stmt := top 49
abbrev s_law_weights : Stmt := top 50
abbrev s_law_moves : Stmt := top 51
abbrev s_law_shuffled : Stmt := top 52
abbrev s_law_closed : Stmt := top 53
abbrev s_law_order_of : Stmt := top 54
abbrev s_law_frame : Stmt := top 55
abbrev s_law_kept_map : Stmt := top 56
abbrev s_law_any_map : Stmt := top 57
abbrev s_law_maps : Stmt := top 58
abbrev s_law_least_order : Stmt := top 59
abbrev s_law_all_led : Stmt := top 60
abbrev s_law_looks : Stmt := top 61
abbrev s_law_drawn_by : Stmt := top 62
abbrev s_law_merging : Stmt := top 63
abbrev s_law_coins : Stmt := top 64
abbrev s_law_is_drawn_right : Stmt := top 65
abbrev s_law : Stmt := top 66
end Law
namespace Law
open PySem PySem.Spec PyProof.Rows L2
/-! ### the head's Hook: facts of K by names, and one more Bool -/
abbrev AlM : Type := He.AlD × Bool
def obsM (n : Nat) (fa : List He.Fa) (fn : List He.DefD) (ex : PySem.W.Frag → Bool) (g : Addr → Option Obj) : AlM := (He.obsD fa fn (He.frG g (He.asD g n)), ex (He.frG g (He.asD g n)))
def hookM (n : Nat) (fa : List He.Fa) (fn : List He.DefD) (ex : PySem.W.Frag → Bool) : PySem.W.Hook where
  α := AlM
  obs := fun s => obsM n fa fn ex s.heap.get?
  val := fun _ => (He.valD fn, true)
  says := fun _ h => ∃ K : PySem.W.Frag, K.In h ∧ He.SaysD fa fn K ∧ ex K = true
  of := fun _ _ e => ⟨_, He.frG_in, congrArg (fun z : AlM => z.1) e, congrArg (fun z : AlM => z.2) e⟩
  keeps := fun _ _ _ ⟨K, hK, c⟩ k => ⟨K, PySem.W.Frag.In.keeps hK k, c⟩
theorem obsM_eq {n : Nat} {fa : List He.Fa} {fn : List He.DefD} {ex : PySem.W.Frag → Bool} {g : Addr → Option Obj} {s : Shared} (h : ∀ a, g a = s.heap.get? a) : obsM n fa fn ex g = (hookM n fa fn ex).obs s := by
  have e : g = s.heap.get? := funext h
  rw [e] <;> rfl
theorem funD_fun {K : PySem.W.Frag} {x qual : Str} {st : Stmt} {f : Addr} {fd : FuncData} (F : FunD K x qual (defArgs st) (defBody st) (defScope st) [] [] f fd) : Fun K x qual st f fd := by
  obtain ⟨⟨oc, od, dV, kV, doc, pm, an, cdv, ct, osl, h1, h2, h3, h4, _⟩, kp⟩ := F
  rcases h4 with ⟨_, rfl⟩ | ⟨h, _⟩
  · exact ⟨⟨oc, od, kV, doc, pm, an, cdv, ct, osl, h1, h2, h3⟩, kp⟩
  · exact absurd rfl h
end Law
namespace Law
open PySem PySem.Spec PyProof.Rows L2
def optT (o : Option Bool) : Bool := match o with
  | some b => b
  | none => false
/-- an own plain class's instances are asked for their class as usual -/
def insB (K : PySem.W.Frag) (C : Addr) : Bool := He.eqO (PySem.W.findIn K (.ref C) "__class__") (some (some (.builtin "object.__class__"))) && (He.eqO (PySem.W.specialIn K (.builtin "object.__class__") "__get__") (some (some (.builtin "getset_descriptor.__get__"))) && (optT (PySem.W.takesIn K (.builtin "object.__class__")) && optT (PySem.W.mroIn K C (.type "object"))))
def gclB (K : PySem.W.Frag) : Bool := He.eqO (PySem.W.nsIn K mainGlobals "gcd") (some (some (.builtin "math.gcd"))) && He.eqO (PySem.W.nsIn K mainGlobals "lcm") (some (some (.builtin "math.lcm")))
def exK (K : PySem.W.Frag) : Bool := gclB K && insB K (He.ga K "System")
end Law
set_option maxHeartbeats 0
namespace Law
open PySem PySem.Spec PyProof.Rows L2
def fns : List He.DefD := [
  ⟨("is_integer", none), "is_integer", "is_integer", defArgs s_is_integer, defBody s_is_integer, defScope s_is_integer, [], []⟩,
  ⟨("is_within", none), "is_within", "is_within", defArgs s_is_within, defBody s_is_within, defScope s_is_within, [], []⟩,
  ⟨("is_row_below", none), "is_row_below", "is_row_below", defArgs s_is_row_below, defBody s_is_row_below, defScope s_is_row_below, [], []⟩,
  ⟨("is_pair_below", none), "is_pair_below", "is_pair_below", defArgs s_is_pair_below, defBody s_is_pair_below, defScope s_is_pair_below, [], []⟩,
  ⟨("is_ascending", none), "is_ascending", "is_ascending", defArgs s_is_ascending, defBody s_is_ascending, defScope s_is_ascending, [], []⟩,
  ⟨("is_lot_of_pairs", none), "is_lot_of_pairs", "is_lot_of_pairs", defArgs s_is_lot_of_pairs, defBody s_is_lot_of_pairs, defScope s_is_lot_of_pairs, [], []⟩,
  ⟨("lot_of", none), "lot_of", "lot_of", defArgs s_lot_of, defBody s_lot_of, defScope s_lot_of, [], []⟩,
  ⟨("is_fraction", none), "is_fraction", "is_fraction", defArgs s_is_fraction, defBody s_is_fraction, defScope s_is_fraction, [], []⟩,
  ⟨("common_bottom", none), "common_bottom", "common_bottom", defArgs s_common_bottom, defBody s_common_bottom, defScope s_common_bottom, [], []⟩,
  ⟨("tops_over", none), "tops_over", "tops_over", defArgs s_tops_over, defBody s_tops_over, defScope s_tops_over, [], []⟩,
  ⟨("are_one_together", none), "are_one_together", "are_one_together", defArgs s_are_one_together, defBody s_are_one_together, defScope s_are_one_together, [], []⟩,
  ⟨("BadSystem", some "__init__"), "__init__", "BadSystem.__init__", defArgs s_BadSystem_init, defBody s_BadSystem_init, defScope s_BadSystem_init, [], []⟩,
  ⟨("NoState", some "__init__"), "__init__", "NoState.__init__", defArgs s_NoState_init, defBody s_NoState_init, defScope s_NoState_init, [], []⟩,
  ⟨("NoCoins", some "__init__"), "__init__", "NoCoins.__init__", defArgs s_NoCoins_init, defBody s_NoCoins_init, defScope s_NoCoins_init, [], []⟩,
  ⟨("NoPlan", some "__init__"), "__init__", "NoPlan.__init__", defArgs s_NoPlan_init, defBody s_NoPlan_init, defScope s_NoPlan_init, [], []⟩,
  ⟨("NoOrder", some "__init__"), "__init__", "NoOrder.__init__", defArgs s_NoOrder_init, defBody s_NoOrder_init, defScope s_NoOrder_init, [], []⟩,
  ⟨("NotKept", some "__init__"), "__init__", "NotKept.__init__", defArgs s_NotKept_init, defBody s_NotKept_init, defScope s_NotKept_init, [], []⟩,
  ⟨("NoEnds", some "__init__"), "__init__", "NoEnds.__init__", defArgs s_NoEnds_init, defBody s_NoEnds_init, defScope s_NoEnds_init, [], []⟩,
  ⟨("System", some "__init__"), "__init__", "System.__init__", defArgs s_System_init, defBody s_System_init, defScope s_System_init, [], []⟩,
  ⟨("System", some "__eq__"), "__eq__", "System.__eq__", defArgs s_System_eq, defBody s_System_eq, defScope s_System_eq, [], []⟩,
  ⟨("is_move", none), "is_move", "is_move", defArgs s_is_move, defBody s_is_move, defScope s_is_move, [], []⟩,
  ⟨("is_row", none), "is_row", "is_row", defArgs s_is_row, defBody s_is_row, defScope s_is_row, [], []⟩,
  ⟨("is_plan", none), "is_plan", "is_plan", defArgs s_is_plan, defBody s_is_plan, defScope s_is_plan, [], []⟩,
  ⟨("looks", none), "looks", "looks", defArgs s_looks, defBody s_looks, defScope s_looks, [], []⟩,
  ⟨("led_ahead", none), "led_ahead", "led_ahead", defArgs s_led_ahead, defBody s_led_ahead, defScope s_led_ahead, [], []⟩,
  ⟨("led_by_plan", none), "led_by_plan", "led_by_plan", defArgs s_led_by_plan, defBody s_led_by_plan, defScope s_led_by_plan, [], []⟩,
  ⟨("drawn", none), "drawn", "drawn", defArgs s_drawn, defBody s_drawn, defScope s_drawn, [], []⟩,
  ⟨("lot_led", none), "lot_led", "lot_led", defArgs s_lot_led, defBody s_lot_led, defScope s_lot_led, [], []⟩,
  ⟨("least_row_to_one", none), "least_row_to_one", "least_row_to_one", defArgs s_least_row_to_one, defBody s_least_row_to_one, defScope s_least_row_to_one, [], []⟩,
  ⟨("merging_row", none), "merging_row", "merging_row", defArgs s_merging_row, defBody s_merging_row, defScope s_merging_row, [], []⟩,
  ⟨("joined", none), "joined", "joined", defArgs s_joined, defBody s_joined, defScope s_joined, [], []⟩,
  ⟨("is_order", none), "is_order", "is_order", defArgs s_is_order, defBody s_is_order, defScope s_is_order, [], []⟩,
  ⟨("breaking", none), "breaking", "breaking", defArgs s_breaking, defBody s_breaking, defScope s_breaking, [], []⟩,
  ⟨("ends", none), "ends", "ends", defArgs s_ends, defBody s_ends, defScope s_ends, [], []⟩,
  ⟨("least_order", none), "least_order", "least_order", defArgs s_least_order, defBody s_least_order, defScope s_least_order, [], []⟩,
  ⟨("ends_kept", none), "ends_kept", "ends_kept", defArgs s_ends_kept, defBody s_ends_kept, defScope s_ends_kept, [], []⟩,
  ⟨("merging_by_ends", none), "merging_by_ends", "merging_by_ends", defArgs s_merging_by_ends, defBody s_merging_by_ends, defScope s_merging_by_ends, [], []⟩,
  ⟨("drawn_by_ends", none), "drawn_by_ends", "drawn_by_ends", defArgs s_drawn_by_ends, defBody s_drawn_by_ends, defScope s_drawn_by_ends, [], []⟩,
  ⟨("_law_hand", none), "_law_hand", "_law_hand", defArgs s_law_hand, defBody s_law_hand, defScope s_law_hand, [], []⟩,
  ⟨("_law_draw", none), "_law_draw", "_law_draw", defArgs s_law_draw, defBody s_law_draw, defScope s_law_draw, [], []⟩,
  ⟨("_law_any", none), "_law_any", "_law_any", defArgs s_law_any, defBody s_law_any, defScope s_law_any, [], []⟩,
  ⟨("_law_low", none), "_law_low", "_law_low", defArgs s_law_low, defBody s_law_low, defScope s_law_low, [], []⟩,
  ⟨("_law_weights", none), "_law_weights", "_law_weights", defArgs s_law_weights, defBody s_law_weights, defScope s_law_weights, [], []⟩,
  ⟨("_law_moves", none), "_law_moves", "_law_moves", defArgs s_law_moves, defBody s_law_moves, defScope s_law_moves, [], []⟩,
  ⟨("_law_shuffled", none), "_law_shuffled", "_law_shuffled", defArgs s_law_shuffled, defBody s_law_shuffled, defScope s_law_shuffled, [], []⟩,
  ⟨("_law_closed", none), "_law_closed", "_law_closed", defArgs s_law_closed, defBody s_law_closed, defScope s_law_closed, [], []⟩,
  ⟨("_law_order_of", none), "_law_order_of", "_law_order_of", defArgs s_law_order_of, defBody s_law_order_of, defScope s_law_order_of, [], []⟩,
  ⟨("_law_frame", none), "_law_frame", "_law_frame", defArgs s_law_frame, defBody s_law_frame, defScope s_law_frame, [], []⟩,
  ⟨("_law_kept_map", none), "_law_kept_map", "_law_kept_map", defArgs s_law_kept_map, defBody s_law_kept_map, defScope s_law_kept_map, [], []⟩,
  ⟨("_law_any_map", none), "_law_any_map", "_law_any_map", defArgs s_law_any_map, defBody s_law_any_map, defScope s_law_any_map, [], []⟩,
  ⟨("_law_maps", none), "_law_maps", "_law_maps", defArgs s_law_maps, defBody s_law_maps, defScope s_law_maps, [], []⟩,
  ⟨("_law_least_order", none), "_law_least_order", "_law_least_order", defArgs s_law_least_order, defBody s_law_least_order, defScope s_law_least_order, [], []⟩,
  ⟨("_law_all_led", none), "_law_all_led", "_law_all_led", defArgs s_law_all_led, defBody s_law_all_led, defScope s_law_all_led, [], []⟩,
  ⟨("_law_looks", none), "_law_looks", "_law_looks", defArgs s_law_looks, defBody s_law_looks, defScope s_law_looks, [], []⟩,
  ⟨("_law_drawn_by", none), "_law_drawn_by", "_law_drawn_by", defArgs s_law_drawn_by, defBody s_law_drawn_by, defScope s_law_drawn_by, [], []⟩,
  ⟨("_law_merging", none), "_law_merging", "_law_merging", defArgs s_law_merging, defBody s_law_merging, defScope s_law_merging, [], []⟩,
  ⟨("_law_coins", none), "_law_coins", "_law_coins", defArgs s_law_coins, defBody s_law_coins, defScope s_law_coins, [], []⟩,
  ⟨("_law_is_drawn_right", none), "_law_is_drawn_right", "_law_is_drawn_right", defArgs s_law_is_drawn_right, defBody s_law_is_drawn_right, defScope s_law_is_drawn_right, [], []⟩,
  ⟨("law", none), "law", "law", defArgs s_law, defBody s_law, defScope s_law, [], []⟩]
def fas : List He.Fa := [
  .glo "is_integer", .glo "is_within", .glo "is_row_below", .glo "is_pair_below", .glo "is_ascending", .glo "is_lot_of_pairs", .glo "lot_of", .glo "is_fraction", .glo "common_bottom", .glo "tops_over", .glo "are_one_together", .glo "DrawError", .glo "BadSystem", .glo "NoState", .glo "NoCoins", .glo "NoPlan", .glo "NoOrder", .glo "NotKept", .glo "NoEnds", .glo "System", .glo "is_move", .glo "is_row", .glo "is_plan", .glo "looks", .glo "led_ahead", .glo "led_by_plan", .glo "drawn", .glo "lot_led", .glo "least_row_to_one", .glo "merging_row", .glo "joined", .glo "is_order", .glo "breaking", .glo "ends", .glo "least_order", .glo "ends_kept", .glo "merging_by_ends", .glo "drawn_by_ends", .glo "_law_hand", .glo "_law_draw", .glo "_law_any", .glo "_law_low", .glo "_law_weights", .glo "_law_moves", .glo "_law_shuffled", .glo "_law_closed", .glo "_law_order_of", .glo "_law_frame", .glo "_law_kept_map", .glo "_law_any_map", .glo "_law_maps", .glo "_law_least_order", .glo "_law_all_led", .glo "_law_looks", .glo "_law_drawn_by", .glo "_law_merging", .glo "_law_coins", .glo "_law_is_drawn_right", .glo "law", .free "ValueError", .free "abs", .free "all", .free "any", .free "bool", .free "enumerate", .free "int", .free "isinstance", .free "len", .free "list", .free "max", .free "min", .free "range", .free "set", .free "sorted", .free "str", .free "sum", .free "tuple", .free "zip", .cls "System", .noat "System" "many", .noat "System" "moves", .mkr "System"]
-- defs: 0 is_integer, 1 is_within, 2 is_row_below, 3 is_pair_below, 4 is_ascending, 5 is_lot_of_pairs, 6 lot_of, 7 is_fraction, 8 common_bottom, 9 tops_over, 10 are_one_together, 11 BadSystem.__init__, 12 NoState.__init__, 13 NoCoins.__init__, 14 NoPlan.__init__, 15 NoOrder.__init__, 16 NotKept.__init__, 17 NoEnds.__init__, 18 System.__init__, 19 System.__eq__, 20 is_move, 21 is_row, 22 is_plan, 23 looks, 24 led_ahead, 25 led_by_plan, 26 drawn, 27 lot_led, 28 least_row_to_one, 29 merging_row, 30 joined, 31 is_order, 32 breaking, 33 ends, 34 least_order, 35 ends_kept, 36 merging_by_ends, 37 drawn_by_ends, 38 _law_hand, 39 _law_draw, 40 _law_any, 41 _law_low, 42 _law_weights, 43 _law_moves, 44 _law_shuffled, 45 _law_closed, 46 _law_order_of, 47 _law_frame, 48 _law_kept_map, 49 _law_any_map, 50 _law_maps, 51 _law_least_order, 52 _law_all_led, 53 _law_looks, 54 _law_drawn_by, 55 _law_merging, 56 _law_coins, 57 _law_is_drawn_right, 58 law
-- facts: 0 .glo "is_integer", 1 .glo "is_within", 2 .glo "is_row_below", 3 .glo "is_pair_below", 4 .glo "is_ascending", 5 .glo "is_lot_of_pairs", 6 .glo "lot_of", 7 .glo "is_fraction", 8 .glo "common_bottom", 9 .glo "tops_over", 10 .glo "are_one_together", 11 .glo "DrawError", 12 .glo "BadSystem", 13 .glo "NoState", 14 .glo "NoCoins", 15 .glo "NoPlan", 16 .glo "NoOrder", 17 .glo "NotKept", 18 .glo "NoEnds", 19 .glo "System", 20 .glo "is_move", 21 .glo "is_row", 22 .glo "is_plan", 23 .glo "looks", 24 .glo "led_ahead", 25 .glo "led_by_plan", 26 .glo "drawn", 27 .glo "lot_led", 28 .glo "least_row_to_one", 29 .glo "merging_row", 30 .glo "joined", 31 .glo "is_order", 32 .glo "breaking", 33 .glo "ends", 34 .glo "least_order", 35 .glo "ends_kept", 36 .glo "merging_by_ends", 37 .glo "drawn_by_ends", 38 .glo "_law_hand", 39 .glo "_law_draw", 40 .glo "_law_any", 41 .glo "_law_low", 42 .glo "_law_weights", 43 .glo "_law_moves", 44 .glo "_law_shuffled", 45 .glo "_law_closed", 46 .glo "_law_order_of", 47 .glo "_law_frame", 48 .glo "_law_kept_map", 49 .glo "_law_any_map", 50 .glo "_law_maps", 51 .glo "_law_least_order", 52 .glo "_law_all_led", 53 .glo "_law_looks", 54 .glo "_law_drawn_by", 55 .glo "_law_merging", 56 .glo "_law_coins", 57 .glo "_law_is_drawn_right", 58 .glo "law", 59 .free "ValueError", 60 .free "abs", 61 .free "all", 62 .free "any", 63 .free "bool", 64 .free "enumerate", 65 .free "int", 66 .free "isinstance", 67 .free "len", 68 .free "list", 69 .free "max", 70 .free "min", 71 .free "range", 72 .free "set", 73 .free "sorted", 74 .free "str", 75 .free "sum", 76 .free "tuple", 77 .free "zip", 78 .cls "System", 79 .noat "System" "many", 80 .noat "System" "moves", 81 .mkr "System"
def names0 : List PySem.Str := ["is_integer", "is_within", "is_row_below", "is_pair_below", "is_ascending", "is_lot_of_pairs", "lot_of", "is_fraction", "common_bottom", "tops_over", "are_one_together", "DrawError"]
def names1 : List PySem.Str := ["BadSystem", "NoState", "NoCoins", "NoPlan", "NoOrder", "NotKept", "NoEnds", "System", "is_move", "is_row", "is_plan", "looks"]
def names2 : List PySem.Str := ["led_ahead", "led_by_plan", "drawn", "lot_led", "least_row_to_one", "merging_row", "joined", "is_order", "breaking", "ends", "least_order", "ends_kept"]
def names3 : List PySem.Str := ["merging_by_ends", "drawn_by_ends", "_law_hand", "_law_draw", "_law_any", "_law_low", "_law_weights", "_law_moves", "_law_shuffled", "_law_closed", "_law_order_of", "_law_frame"]
def names4 : List PySem.Str := ["_law_kept_map", "_law_any_map", "_law_maps", "_law_least_order", "_law_all_led", "_law_looks", "_law_drawn_by", "_law_merging", "_law_coins", "_law_is_drawn_right"]
def names : List PySem.Str := names0 ++ names1 ++ names2 ++ names3 ++ names4
abbrev R : PySem.W.OpenRow := PySem.W.OpenLaw.row PySem.Challenge.rw_asifforever_k21_whole_drawing_by_both_en
abbrev hk : PySem.W.Hook := hookM 4 fas fns exK
def ob (s : PySem.W.SharedT) : AlM := obsM 4 fas fns exK (HandSHeadRun.getT s)
theorem ob_eq (s : PySem.W.SharedT) : ob s = hk.obs s.abs := obsM_eq (HandSHeadRun.getT_eq s)
theorem run (w : World) : HandSHeadRun.RunEqI R (PySem.W.view R.prog [0, 66]) hk ob 13000 names w := by
  unfold HandSHeadRun.RunEqI
  kernel_rfl
end Law
set_option maxHeartbeats 4000000
namespace Law
open PySem L2
/-- what is asked of the module's names -/
structure NmA (mg : Str → Option Value) : Prop where
  abs : mg "abs" = none
  all : mg "all" = none
  any : mg "any" = none
  bool : mg "bool" = none
  enum : mg "enumerate" = none
  int : mg "int" = none
  isi : mg "isinstance" = none
  len : mg "len" = none
  list : mg "list" = none
  max : mg "max" = none
  min : mg "min" = none
  range : mg "range" = none
  set : mg "set" = none
  sorted : mg "sorted" = none
  str : mg "str" = none
  sum : mg "sum" = none
  tuple : mg "tuple" = none
  zip : mg "zip" = none
  gcd : mg "gcd" = some (.builtin "math.gcd")
  lcm : mg "lcm" = some (.builtin "math.lcm")
end Law
namespace L2
open PySem PySem.Spec PyProof.Rows
/-! ### a dict whose keys are pairs (a number, a tuple of numbers), each with True -/
abbrev NKey := Int × List Int
def nkey (k : NKey) : NestedKey := .tup [.num k.1, .tup (k.2.map .num)]
theorem num_map_inj : ∀ {a b : List Int}, a.map NestedKey.num = b.map NestedKey.num → a = b
  | [], [], _ => rfl
  | [], _ :: _, h => by simp at h
  | _ :: _, [], h => by simp at h
  | x :: a, y :: b, h => by
    rw [List.map_cons, List.map_cons] at h
    injection h with h1 h2
    injection h1 with h1
    rw [h1, num_map_inj h2]
theorem nkey_inj {a b : NKey} (h : nkey a = nkey b) : a = b := by
  unfold nkey at h
  injection h with h
  injection h with h1 h2
  injection h1 with h1
  injection h2 with h2 _
  injection h2 with h2
  exact Prod.ext h1 (num_map_inj h2)
theorem nums_depth : ∀ l : List Int, NestedKey.depthAll (l.map NestedKey.num) = 0
  | [] => by simp [NestedKey.depthAll]
  | x :: l => by
    rw [List.map_cons, NestedKey.depthAll, nums_depth l]
    simp [NestedKey.depth]
theorem nkey_depth (k : NKey) : (nkey k).depth ≤ 8 := by
  unfold nkey
  simp [NestedKey.depth, NestedKey.depthAll, nums_depth]
/-- the key stands at b -/
def NKAt (H : Hp) (b : Addr) (k : NKey) : Prop := ∃ c, H b = some (.tup [.int k.1, .ref c]) ∧ H c = some (.tup (k.2.map V.int))
theorem nums_are {h : Heap} : ∀ {l : List Int} {its : List Value}, Vals (l.map V.int) its → NestedAll h (l.map NestedKey.num) its
  | [], _, r => by
    cases r
    exact .nil
  | x :: l, _, r => by
    cases r with
    | cons r1 r2 =>
      obtain ⟨t, rfl⟩ := (show ∃ t, _ = Value.int x t from r1)
      exact .cons (.int x t) (nums_are r2)
section
variable {P : Program} {w : World} {H : Hp} {h : Heap}
theorem nk_is (ok : HOk P w H h) {b : Addr} {k : NKey} (e : NKAt H b k) : (nestedKind P w).is h (nkey k) b := by
  obtain ⟨c, e1, e2⟩ := e
  obtain ⟨_, i1, r1, o1, a1, c1, n1, d1⟩ := (show ObjOk P w H h b (.tup [.int k.1, .ref c]) from ok b _ e1)
  obtain ⟨_, i2, r2, o2, a2, c2, n2, d2⟩ := (show ObjOk P w H h c (.tup (k.2.map V.int)) from ok c _ e2)
  refine ⟨?_, nkey_depth k⟩
  cases r1 with
  | cons q1 r1 =>
    cases r1 with
    | cons q2 r1 =>
      cases r1
      obtain ⟨t, rfl⟩ := (show ∃ t, _ = Value.int k.1 t from q1)
      cases (show _ = Value.ref c from q2)
      exact .tup a1 c1 d1 (.cons (.int _ t) (.cons (.tup a2 c2 d2 (nums_are r2)) .nil))
def ndX (xs : List (NKey × Addr)) : List (NestedKey × Addr × Value) := xs.map fun x => (nkey x.1, x.2, Value.bool true)
/-- the dict with these keys, by its own object alone -/
def ndO (P : Program) (w : World) (d : Addr) (xs : List (NKey × Addr)) : HO := .ext fun h => (d == sysModules) = false ∧
  ∃ o es ep, h.get? d = some o ∧ o.ExactDict ∧ o.data = .dict es ep ∧ es.toList = (ndX xs).map (entryOfKey (nestedKind P w)) ∧ ((ndX xs).map (·.1)).Nodup
/-- a dict with these keys stands at d -/
def NDic (P : Program) (w : World) (H : Hp) (d : Addr) (ks : List NKey) : Prop := ∃ xs : List (NKey × Addr), ks = xs.map (·.1) ∧ H d = some (ndO P w d xs) ∧ ∀ x ∈ xs, NKAt H x.2 x.1
theorem ndO_ok {H' : Hp} {h' : Heap} {d : Addr} {xs : List (NKey × Addr)} {o : Obj} {es : Array DictEntry} {ep : Nat} (hs : (d == sysModules) = false) (a : h'.get? d = some o) (b : o.ExactDict) (c : o.data = .dict es ep)
    (e : es.toList = (ndX xs).map (entryOfKey (nestedKind P w))) (n : ((ndX xs).map (·.1)).Nodup) : ObjOk P w H' h' d (ndO P w d xs) :=
  ⟨⟨hs, o, es, ep, a, b, c, e, n⟩, ⟨o, a⟩, fun _ _ ⟨s1, o1, es1, ep1, a1, r1⟩ k => ⟨s1, o1, es1, ep1, k _ a1, r1⟩⟩
theorem nd_rd (ok : HOk P w H h) {d : Addr} {xs : List (NKey × Addr)} (e : H d = some (ndO P w d xs)) (kk : ∀ x ∈ xs, NKAt H x.2 x.1) : (d == sysModules) = false ∧ h.DictOfH (nestedKind P w) d (ndX xs) := by
  obtain ⟨⟨s1, o, es, ep, a, b, c, e1, n⟩, _⟩ := (show ObjOk P w H h d (ndO P w d xs) from ok d _ e)
  refine ⟨s1, o, es, ep, a, b, c, e1, fun x hx => ?_, n⟩
  obtain ⟨y, hy, rfl⟩ := List.mem_map.mp hx
  exact nk_is ok (kk y hy)
theorem nd_at {xs : List (NKey × Addr)} (k : NKey) : (atKey (ndX xs) (nkey k)).isSome = decide (k ∈ xs.map (·.1)) := by
  unfold atKey ndX
  rw [Option.isSome_map]
  induction xs with
  | nil => rfl
  | cons x xs ih =>
    rw [List.map_cons, List.find?_cons]
    by_cases c : x.1 = k
    · rw [decide_eq_true (by rw [c] : (nkey x.1, x.2, Value.bool true).1 = nkey k)]
      rw [List.map_cons, decide_eq_true (by rw [c]; exact List.mem_cons_self)] <;> rfl
    · rw [decide_eq_false (fun z => c (nkey_inj z) : ¬ (nkey x.1, x.2, Value.bool true).1 = nkey k)]
      show Option.isSome _ = _
      rw [ih]
      refine decide_eq_decide.mpr ?_
      rw [List.map_cons, List.mem_cons]
      exact ⟨.inr, fun z => z.resolve_left fun q => c q.symm⟩
theorem nd_put_old {xs : List (NKey × Addr)} {k : NKey} : (ndX xs).map (putAt (nkey k) (Value.bool true)) = ndX xs := by
  unfold ndX
  rw [List.map_map]
  refine List.map_congr_left fun x _ => ?_
  show (if nkey x.1 = nkey k then _ else _) = _
  split <;> rfl
end
section
variable {X : Cx} {pos pos' : Pos} {o i value : Expr} {td ty tv : TE}
def tDNewN (P : Program) (w : World) : TE := fun _ H Q => ∀ p H', H p = none → Same H H' → NDic P w H' p [] → Q (.ref p) H'
theorem pe_dnewN : PE X (.Dict [] [] pos) (tDNewN X.prog X.w) := ⟨fun pins s σ H Q I h => by
  have fr := I.hok.fresh (Nat.le_refl s.heap.objs.size)
  have new : ObjOk X.prog X.w (upd H s.heap.objs.size (ndO X.prog X.w s.heap.objs.size [])) (s.heap.push { cls := .type "dict", data := .dict #[] }) s.heap.objs.size (ndO X.prog X.w s.heap.objs.size []) :=
    ndO_ok (beq_eq_false_iff_ne.mpr (Ne.symm (Nat.ne_of_lt I.big))) (Heap.get?_push_size _ rfl) ⟨rfl, rfl, rfl⟩ rfl rfl List.nodup_nil
  exact wpAny_Dict_empty ⟨.ref s.heap.objs.size, _, I.laid (a := s.heap.objs.size) (o := ndO X.prog X.w s.heap.objs.size []) (t' := s.toks) (fun _ _ q => Heap.get?_push_of_some _ q) (Nat.le_refl _) new, rfl,
    h _ _ fr (fun b u e => by rw [upd_ne (ne_of_none e fr)]; exact e) ⟨[], rfl, upd_same, fun x hx => absurd hx List.not_mem_nil⟩⟩⟩
/-- k in d -/
def tNDIn (P : Program) (w : World) (ty td : TE) : TE := fun σ H Q => ty σ H fun y H1 => td σ H1 fun x H2 => ∃ a b k ks, x = .ref a ∧ y = .ref b ∧ NKAt H2 b k ∧ NDic P w H2 a ks ∧ Q (.bl (decide (k ∈ ks))) H2
theorem pc_ndin (hu : X.A.units + 9 < cLine) (hi : PE X i ty) (ho : PE X o td) : PC X .In i o (tNDIn X.prog X.w ty td) := by
  refine ⟨fun pins s σ H Q I h => ?_⟩
  refine thn (hi.run pins s σ H _ I h) fun iv s1 ⟨y, H1, I1, ry, q1⟩ => thn (ho.run pins s1 σ H1 _ I1 q1) fun u s2 ⟨x, H2, I2, rx, a, b, k, ks, ex, ey, nk, nd, q2⟩ => ?_
  subst ex ey
  cases (show u = Value.ref a from rx)
  cases (show iv = Value.ref b from ry)
  obtain ⟨xs, rfl, e, kk⟩ := nd
  obtain ⟨hs, dd⟩ := nd_rd I2.hok e kk
  refine wpAny_in_heap (knd := nestedKind X.prog X.w) (by show X.A.units + 1 + 8 < cLine; omega) (nk_is I2.hok nk) hs dd ?_
  rw [nd_at]
  exact ⟨.bl _, H2, I2.tok _, rfl, q2⟩
/-- d[k] = True -/
def sNDPut (P : Program) (w : World) (td ty tv : TE) : TS := fun D σ H => tv σ H fun v H1 => td σ H1 fun x H2 => ty σ H2 fun y H3 => ∃ a b k ks, x = .ref a ∧ y = .ref b ∧ v = .bl true ∧ NKAt H3 b k ∧ NDic P w H3 a ks ∧ ks.length < sizeLine ∧
  ∀ ks' H4, (∀ q, q ∈ ks' ↔ q ∈ ks ∨ q = k) → ks'.length ≤ ks.length + 1 → (∀ c u, c ≠ a → H3 c = some u → H4 c = some u) → NDic P w H4 a ks' → D.nx σ H4
theorem ps_ndput (hu : X.A.units + 9 < cLine) (ho : PE X o td) (hi : PE X i ty) (hv : PE X value tv) (hs : swapsWith value (some (.Subscript o i pos')) pos.line X.env = pure false) :
    PS X (.Assign [.Subscript o i pos'] value pos) (sNDPut X.prog X.w td ty tv) := by
  refine ⟨fun pins s σ H D I h => ?_⟩
  refine wpAny_Assign_Subscript (thn (hv.run pins s σ H _ I h) fun r s1 ⟨v, H1, I1, rv, q1⟩ => thn (ho.run pins s1 σ H1 _ I1 q1) fun u s2 ⟨x, H2, I2, rx, q2⟩ => thn (hi.run pins s2 σ H2 _ I2 q2) fun iv s3 ⟨y, H3, I3, ry, a, b, k, ks, ex, ey, ev, nk, nd, nl, q3⟩ => ?_) hs
  subst ex ey ev
  cases (show u = Value.ref a from rx)
  cases (show iv = Value.ref b from ry)
  cases (show r = Value.bool true from rv)
  obtain ⟨xs, rfl, e, kk⟩ := nd
  obtain ⟨hsy, dd⟩ := nd_rd I3.hok e kk
  rw [List.length_map] at nl
  have mu : Mut (H3 a) := by rw [e]; exact True.intro
  have nka : ∀ {c : Addr} {q : NKey}, NKAt H3 c q → ∀ O, NKAt (upd H3 a O) c q := fun ⟨c', z1, z2⟩ O => ⟨c', by rw [upd_ne (ne_of z1 e (by intro z; cases z))]; exact z1, by rw [upd_ne (ne_of z2 e (by intro z; cases z))]; exact z2⟩
  refine wpAny_setItem_heap (knd := nestedKind X.prog X.w) (hsz := by unfold ndX; rw [List.length_map]; exact Nat.le_of_lt nl) (by show X.A.units + 1 + 8 < cLine; omega) (nk_is I3.hok nk) dd fun h' dd' hsame => ?_
  have fin : ∀ ys : List (NKey × Addr), ndX ys = storedH (ndX xs) (nkey k) b (Value.bool true) → (∀ q, q ∈ ys.map (·.1) ↔ q ∈ xs.map (·.1) ∨ q = k) → ys.length ≤ xs.length + 1 → (∀ y ∈ ys, NKAt H3 y.2 y.1) → SP X pins D .next { s3 with heap := h', toks := s3.toks + (nestedKind X.prog X.w).draws (nkey k) } := fun ys ey hm hl hk => by
    obtain ⟨ob, es, ep, g1, g2, g3, g4, _, g5⟩ := dd'
    rw [← ey] at g4 g5
    refine ⟨σ, upd H3 a (ndO X.prog X.w a ys), ?_, q3 (ys.map (·.1)) _ hm (by rw [List.length_map, List.length_map]; exact hl) (fun c u' n z => by rw [upd_ne n]; exact z) ⟨ys, rfl, upd_same, fun y hy => nka (hk y hy) _⟩⟩
    exact d_write I3 mu hsame ⟨ob, g1⟩ (ndO_ok hsy g1 g2 g3 g4 g5)
  by_cases c : k ∈ xs.map (·.1)
  · have z := nd_at (xs := xs) k
    rw [decide_eq_true c] at z
    obtain ⟨p, hp⟩ := Option.isSome_iff_exists.mp z
    refine fin xs ?_ (fun q => ⟨.inl, fun z => z.elim id fun z => by rw [z]; exact c⟩) (Nat.le_succ _) kk
    rw [storedH_old hp, nd_put_old]
  · have z := nd_at (xs := xs) k
    rw [decide_eq_false c] at z
    have hp : atKey (ndX xs) (nkey k) = none := by
      cases q : atKey (ndX xs) (nkey k) with
      | none => rfl
      | some p => rw [q] at z; cases z
    refine fin (xs ++ [(k, b)]) ?_ (fun q => ?_) (by rw [List.length_append]; exact Nat.le_refl _) fun y hy => ?_
    · rw [storedH_new hp]
      unfold ndX
      rw [List.map_append] <;> rfl
    · rw [List.map_append, List.mem_append]
      show _ ∨ q ∈ [k] ↔ _
      rw [List.mem_singleton]
    · rcases List.mem_append.mp hy with hy | hy
      · exact kk y hy
      · rw [List.mem_singleton.mp hy]
        exact nk
/-- d[k] = v as a target -/
def rSetD : TSet := fun o y v H Q => ∃ a H', o = .ref a ∧ DPut H a y v H' ∧ Q H'
theorem set_dict (hu : X.A.units + 1 < cLine) : PSet X rSetD := by
  intro pins s σ H o i v ov iv u Q I ro ri rv ⟨a, H', eo, g, q⟩
  subst eo
  cases (show ov = Value.ref a from ro)
  exact d_setItem hu I g ri rv fun s4 I4 => ⟨H', I4, q⟩
/-! ### a list of numbers from 0 on, of which no more is told -/
abbrev GoodG (xs : List Int) : Prop := (∀ x ∈ xs, 0 ≤ x) ∧ xs.length ≤ 63
def greatO (g : Addr) : HO := .ext fun h => ∃ xs : List Int, GoodG xs ∧ ∃ (its : List Value) (n : Nat), Vals (xs.map V.int) its ∧ h.get? g = some { cls := .type "list", data := .seq its.toArray n }
theorem greatO_ok {P : Program} {w : World} {H H' : Hp} {h : Heap} {g : Addr} {xs : List Int} (gx : GoodG xs) (x : ObjOk P w H h g (.lst (xs.map V.int))) : ObjOk P w H' h g (greatO g) := by
  obtain ⟨_, its, n, r, e⟩ := x
  exact ⟨⟨xs, gx, its, n, r, e⟩, ⟨_, e⟩, fun _ _ ⟨ys, gy, i2, n2, r2, e2⟩ k => ⟨ys, gy, i2, n2, r2, k _ e2⟩⟩
theorem Inv.toGreat {pins : List (Addr × Obj)} {σ : St} {H : Hp} {s : Shared} {g : Addr} {xs : List Int} (I : Inv X pins σ H s) (gx : GoodG xs) (e : H g = some (.lst (xs.map V.int))) : Inv X pins σ (upd H g (greatO g)) s := by
  have x := I.hok g _ e
  obtain ⟨_, its, n, r, e'⟩ := id x
  exact I.write (x := g) (e := g) (t' := s.toks) (h' := s.heap) (by rw [e]; exact True.intro) (.inl rfl) (fun _ _ _ q => q) ⟨_, e'⟩ (greatO_ok gx x)
theorem Inv.ofGreat {pins : List (Addr × Obj)} {σ : St} {H : Hp} {s : Shared} {g : Addr} (I : Inv X pins σ H s) (e : H g = some (greatO g)) : ∃ xs, GoodG xs ∧ Inv X pins σ (upd H g (.lst (xs.map V.int))) s := by
  obtain ⟨⟨xs, gx, its, n, r, e'⟩, _⟩ := (show ObjOk X.prog X.w H s.heap g (greatO g) from I.hok g _ e)
  refine ⟨xs, gx, I.write (x := g) (e := g) (t' := s.toks) (h' := s.heap) (by rw [e]; exact True.intro) (.inl rfl) (fun _ _ _ q => q) ⟨_, e'⟩ ⟨?_, its, n, r, e'⟩⟩
  have := gx.2
  rw [List.length_map, sizeLine_eq]
  omega
abbrev backG (g : Addr) (R : Hp → Prop) : Hp → Prop := fun H' => ∃ ys, GoodG ys ∧ H' g = some (.lst (ys.map V.int)) ∧ R (upd H' g (greatO g))
def tOpenG (t : TS) : TS := fun D σ H => ∃ g, H g = some (greatO g) ∧ ∀ xs, GoodG xs → t ⟨fun σ' => backG g (D.nx σ'), fun v => backG g (D.rt v), fun σ' => backG g (D.bk σ'), fun σ' => backG g (D.ct σ')⟩ σ (upd H g (.lst (xs.map V.int)))
theorem ps_openG {st : Stmt} {t : TS} (h : PS X st t) : PS X st (tOpenG t) := by
  refine ⟨fun pins s σ H D I hw => ?_⟩
  obtain ⟨g, e, hw⟩ := hw
  obtain ⟨xs, gx, I1⟩ := I.ofGreat e
  refine thn (h.run pins s σ _ _ I1 (hw xs gx)) fun f s1 q => ?_
  cases f with
  | next => obtain ⟨σ', H', I2, ys, gy, e2, q⟩ := q; exact ⟨σ', _, I2.toGreat gy e2, q⟩
  | brk => obtain ⟨σ', H', I2, ys, gy, e2, q⟩ := q; exact ⟨σ', _, I2.toGreat gy e2, q⟩
  | cont => obtain ⟨σ', H', I2, ys, gy, e2, q⟩ := q; exact ⟨σ', _, I2.toGreat gy e2, q⟩
  | ret v => obtain ⟨x, σ', H', I2, r, ys, gy, e2, q⟩ := q; exact ⟨x, σ', _, I2.toGreat gy e2, r, q⟩
def tCloseG (t : TS) : TS := fun D σ H => ∃ g xs, GoodG xs ∧ H g = some (.lst (xs.map V.int)) ∧ t D σ (upd H g (greatO g))
theorem ps_closeG {st : Stmt} {t : TS} (h : PS X st t) : PS X st (tCloseG t) := by
  refine ⟨fun pins s σ H D I hw => ?_⟩
  obtain ⟨g, xs, gx, e, hw⟩ := hw
  exact h.run pins s σ _ D (I.toGreat gx e) hw
end
end L2
namespace Law
open PySem L2
/-! ### the hand: great numbers, small ones, their sum, a turn -/
theorem sne {x y : Str} (h : ¬ x = y) : ¬ ((Sum.inr x : Key) = Sum.inr y) := fun z => h (Sum.inr.inj z)
theorem m01 : ¬ ((Sum.inr ("great" : Str) : Key) = Sum.inr ("small" : Str)) := sne (by decide +kernel)
theorem m02 : ¬ ((Sum.inr ("great" : Str) : Key) = Sum.inr ("sum" : Str)) := sne (by decide +kernel)
theorem m03 : ¬ ((Sum.inr ("great" : Str) : Key) = Sum.inr ("turn" : Str)) := sne (by decide +kernel)
theorem m12 : ¬ ((Sum.inr ("small" : Str) : Key) = Sum.inr ("sum" : Str)) := sne (by decide +kernel)
theorem m13 : ¬ ((Sum.inr ("small" : Str) : Key) = Sum.inr ("turn" : Str)) := sne (by decide +kernel)
theorem m23 : ¬ ((Sum.inr ("sum" : Str) : Key) = Sum.inr ("turn" : Str)) := sne (by decide +kernel)
def hdK (gr sm : Addr) (s t : Int) : List (Key × V) := [(Sum.inr ("great" : Str), .ref gr), (Sum.inr ("small" : Str), .ref sm), (Sum.inr ("sum" : Str), .int s), (Sum.inr ("turn" : Str), .int t)]
section
variable {gr sm : Addr} {s t x : Int} {H : Hp} {p : Addr}
theorem put_of {kvs : List (Key × V)} {k : Key} {v w : V} (h : valV kvs k = some w) : putK kvs k v = kvs.map (fun kv => if kv.1 = k then (kv.1, v) else kv) := by
  unfold putK
  rw [if_pos (by rw [valV_any, h]; rfl)]
theorem get_great : valV (hdK gr sm s t) (Sum.inr ("great" : Str)) = some (.ref gr) := valV_pos rfl
theorem get_small : valV (hdK gr sm s t) (Sum.inr ("small" : Str)) = some (.ref sm) := (valV_neg m01).trans (valV_pos rfl)
theorem get_sum : valV (hdK gr sm s t) (Sum.inr ("sum" : Str)) = some (.int s) := (valV_neg m02).trans ((valV_neg m12).trans (valV_pos rfl))
theorem get_turn : valV (hdK gr sm s t) (Sum.inr ("turn" : Str)) = some (.int t) := (valV_neg m03).trans ((valV_neg m13).trans ((valV_neg m23).trans (valV_pos rfl)))
theorem put_turn : putK (hdK gr sm s t) (Sum.inr ("turn" : Str)) (.int x) = hdK gr sm s x := by
  rw [put_of get_turn]
  unfold hdK
  simp only [List.map_cons, List.map_nil, if_neg m03, if_neg m13, if_neg m23, if_true]
variable (hp : H p = some (.dK (hdK gr sm s t)))
include hp
theorem gt_great : DGet H p (.str "great") (some (.ref gr)) := by
  have := DGet.k (k := Sum.inr ("great" : Str)) hp
  rw [get_great] at this
  exact this
theorem gt_small : DGet H p (.str "small") (some (.ref sm)) := by
  have := DGet.k (k := Sum.inr ("small" : Str)) hp
  rw [get_small] at this
  exact this
theorem gt_sum : DGet H p (.str "sum") (some (.int s)) := by
  have := DGet.k (k := Sum.inr ("sum" : Str)) hp
  rw [get_sum] at this
  exact this
theorem gt_turn : DGet H p (.str "turn") (some (.int t)) := by
  have := DGet.k (k := Sum.inr ("turn" : Str)) hp
  rw [get_turn] at this
  exact this
theorem pt_turn (x : Int) : DPut H p (.str "turn") (.int x) (upd H p (.dK (hdK gr sm s x))) := by
  have := DPut.k (k := Sum.inr ("turn" : Str)) (v := .int x) hp (by show 4 < sizeLine; decide)
  rw [put_turn] at this
  exact this
end
/-- a hand stands at p -/
def HandAt (H : Hp) (p : Addr) : Prop := ∃ (gr sm : Addr) (small : List Int) (s t : Int), H p = some (.dK (hdK gr sm s t)) ∧ H gr = some (greatO gr) ∧ H sm = some (.lst (small.map V.int)) ∧ 0 < small.length ∧ small.length ≤ 64 ∧ (∀ c ∈ small, 0 ≤ c) ∧ 0 ≤ s ∧ 0 ≤ t
/-- its lists stand at g and c -/
def CellOf (H : Hp) (p g c : Addr) : Prop := ∃ s t, H p = some (.dK (hdK g c s t))
/-- what a draw may do: the hand stands again, nothing else has changed -/
structure Stp (p : Addr) (H H' : Hp) : Prop where
  keep : ∀ b o, b ≠ p → H b = some o → H' b = some o
  cell : ∀ g c, CellOf H p g c → CellOf H' p g c
  hand : HandAt H' p
theorem Stp.refl {p : Addr} {H : Hp} (h : HandAt H p) : Stp p H H := ⟨fun _ _ _ e => e, fun _ _ e => e, h⟩
theorem Stp.trans {p : Addr} {H H1 H2 : Hp} (a : Stp p H H1) (b : Stp p H1 H2) : Stp p H H2 := ⟨fun c o n e => b.keep c o n (a.keep c o n e), fun g c e => b.cell g c (a.cell g c e), b.hand⟩
theorem hdK_inj {ga ca gb cb : Addr} {s t s' t' : Int} (h : hdK ga ca s t = hdK gb cb s' t') : ga = gb ∧ ca = cb := by
  unfold hdK at h
  injection h with h1 h
  injection h1 with _ h2
  injection h2 with h2
  injection h with h3 _
  injection h3 with _ h4
  injection h4 with h4
  exact ⟨h2, h4⟩
theorem cell_eq {H : Hp} {p ga ca g c : Addr} {s t : Int} (hp : H p = some (.dK (hdK ga ca s t))) (h : CellOf H p g c) : g = ga ∧ c = ca := by
  obtain ⟨s', t', h⟩ := h
  rw [hp] at h
  have h1 := Option.some.inj h
  injection h1 with h2
  obtain ⟨a, b⟩ := hdK_inj h2
  exact ⟨a.symm, b.symm⟩
theorem cell_to {H H' : Hp} {p ga ca : Addr} {s t s' t' : Int} (hp : H p = some (.dK (hdK ga ca s t))) (hp' : H' p = some (.dK (hdK ga ca s' t'))) : ∀ g c, CellOf H p g c → CellOf H' p g c := fun g c hc => by
  obtain ⟨e1, e2⟩ := cell_eq hp hc
  rw [e1, e2]
  exact ⟨s', t', hp'⟩
/-- an object that stood not there at the start may change, whatever has been drawn since -/
theorem Stp.mut {p D : Addr} {H H' : Hp} {o : HO} (h : HandAt H p) (S : Stp p H H') (hD : H D = none) : Stp p H (upd H' D o) := by
  obtain ⟨ga, ca, small, s, t, hp, hg, hc, _⟩ := h
  obtain ⟨gb, cb, small', s', t', hp', hg', hc', r⟩ := S.hand
  obtain ⟨e1, e2⟩ := cell_eq hp' (S.cell ga ca ⟨s, t, hp⟩)
  have n1 : p ≠ D := ne_of_none hp hD
  have n2 : cb ≠ D := e2 ▸ ne_of_none hc hD
  have n3 : gb ≠ D := e1 ▸ ne_of_none hg hD
  exact ⟨fun b o n e => by rw [upd_ne (ne_of_none e hD)]; exact S.keep b o n e, fun g c hc => by
    obtain ⟨x1, x2, x3⟩ := S.cell g c hc
    exact ⟨x1, x2, by rw [upd_ne n1]; exact x3⟩, gb, cb, small', s', t', by rw [upd_ne n1]; exact hp', by rw [upd_ne n3]; exact hg', by rw [upd_ne n2]; exact hc', r⟩
def spDraw : Sp := fun vs H Q _ => ∃ (p : Addr) (m : Int), vs = [.ref p, .int m] ∧ 0 < m ∧ m < 1099511627776 ∧ HandAt H p ∧ ∀ (d : Int) (H' : Hp), 0 ≤ d → d < m → Stp p H H' → Q (.int d) H'
theorem getg {ys : List Int} (h : 0 < ys.length) : ∃ z, ys[0]? = some z ∧ z ∈ ys := ⟨ys[0], List.getElem?_eq_getElem h, List.getElem_mem h⟩
theorem atI_ints {ys : List Int} {i : Nat} {z : Int} (h : ys[i]? = some z) : atI (ys.map V.int) (i : Int) = some (V.int z) := atI_nat (by rw [List.getElem?_map, h] <;> rfl)
theorem Stp.sqL {K : PySem.W.Frag} {p l : Addr} {H H' : Hp} {xs : List V} (S : Stp p H H') (hp : HandAt H p) (h : SqL K H l xs) : SqL K H' l xs := by
  obtain ⟨ga, ca, small, s, t, hp, _⟩ := hp
  rcases h with (h | ⟨o, h⟩) | h
  · exact .inl (.inl (S.keep _ _ (ne_of h hp (by intro z; cases z)) h))
  · exact .inl (.inr ⟨o, S.keep _ _ (ne_of h hp (by intro z; cases z)) h⟩)
  · exact .inr h
theorem Stp.sqT {K : PySem.W.Frag} {p l : Addr} {H H' : Hp} {xs : List V} (S : Stp p H H') (hp : HandAt H p) (h : SqT K H l xs) : SqT K H' l xs := by
  obtain ⟨ga, ca, small, s, t, hp, _⟩ := hp
  rcases h with (h | ⟨o, h⟩) | h
  · exact .inl (.inl (S.keep _ _ (ne_of h hp (by intro z; cases z)) h))
  · exact .inl (.inr ⟨o, S.keep _ _ (ne_of h hp (by intro z; cases z)) h⟩)
  · exact .inr h
theorem ne_hand {H : Hp} {p a : Addr} (h : HandAt H p) (n : H a = none) : a ≠ p := by
  obtain ⟨ga, ca, small, s, t, hp, _⟩ := h
  intro z
  rw [z, hp] at n
  cases n
end Law
namespace L2
open PySem
theorem Same.sqT {K : PySem.W.Frag} {H H' : Hp} {a : Addr} {xs : List V} (e : Same H H') (h : SqT K H a xs) : SqT K H' a xs := by
  rcases h with (h | ⟨o, h⟩) | h
  · exact .inl (.inl (e _ _ h))
  · exact .inl (.inr ⟨o, e _ _ h⟩)
  · exact .inr h
theorem Same.new {H : Hp} {p : Addr} {o : HO} (h : H p = none) : Same H (upd H p o) := fun b u e => by
  rw [upd_ne (ne_of_none e h)]
  exact e
theorem Same.mut {H H' : Hp} {p : Addr} {o : HO} (e : Same H H') (h : H p = none) : Same H (upd H' p o) := fun b u hb => by
  rw [upd_ne (ne_of_none hb h)]
  exact e b u hb
@[elab_as_elim] theorem new_step {H : Hp} {a : Addr} {o : HO} {Q : Hp → Prop} (h : H a = none) (k : ∀ G, Same H G → G a = some o → Q G) : Q (upd H a o) := k _ (Same.new h) upd_same
end L2
namespace Law
open PySem L2
theorem HandAt.same {H H' : Hp} {p : Addr} (h : HandAt H p) (s : Same H H') : HandAt H' p := by
  obtain ⟨ga, ca, small, s1, t, hp, hg, hc, r⟩ := h
  exact ⟨ga, ca, small, s1, t, s _ _ hp, s _ _ hg, s _ _ hc, r⟩
theorem Stp.of {H H' : Hp} {p : Addr} (h : HandAt H p) (s : Same H H') : Stp p H H' := ⟨fun b o _ e => s b o e, fun g c ⟨x, y, e⟩ => ⟨x, y, s _ _ e⟩, h.same s⟩
theorem Stp.pre {p : Addr} {H H1 H2 : Hp} (b : Stp p H1 H2) (s : Same H H1) (h : HandAt H p) : Stp p H H2 := (Stp.of h s).trans b
theorem Stp.post {p : Addr} {H H1 H2 : Hp} (a : Stp p H H1) (s : Same H1 H2) : Stp p H H2 := a.trans (Stp.of a.hand s)
theorem cut63 {xs : List V} (h : xs.length ≤ 63) : cutV xs none (some 63) = xs := by
  unfold cutV
  show (xs.drop 0).take (HT.sIx xs.length xs.length (some ((63 : Nat) : Int)) - 0) = xs
  rw [HT.sIx_nat, Nat.min_eq_right (by omega), Nat.sub_zero, List.drop_zero, List.take_length]
theorem merge_app : ∀ (more acc : List (Key × V)), ((acc ++ more).map (·.1)).Nodup → mergeK acc more = acc ++ more
  | [], acc, _ => (List.append_nil acc).symm
  | p :: r, acc, h => by
    have hn : valV acc p.1 = none := by
      unfold valV
      rw [List.find?_eq_none.mpr]
      · rfl
      · intro kv hkv e
        rw [List.map_append, List.nodup_append] at h
        exact h.2.2 kv.1 (List.mem_map_of_mem hkv) p.1 (List.mem_map_of_mem List.mem_cons_self) (of_decide_eq_true e)
    have e : putK acc p.1 p.2 = acc ++ [p] := putK_new _ hn
    show mergeK (putK acc p.1 p.2) r = acc ++ p :: r
    rw [e, merge_app r (acc ++ [p]) (by rw [List.append_assoc]; exact h), List.append_assoc] <;> rfl
theorem hd_keys (gr sm : Addr) (s t : Int) : ((hdK gr sm s t).map (·.1)).Nodup := by
  show ([Sum.inr ("great" : Str), Sum.inr ("small" : Str), Sum.inr ("sum" : Str), Sum.inr ("turn" : Str)] : List Key).Nodup
  decide +kernel
theorem merge_hd (gr sm : Addr) (s t : Int) : mergeK [] (hdK gr sm s t) = hdK gr sm s t := merge_app _ [] (hd_keys gr sm s t)
def absI (n : Int) : Int := if n < 0 then -n else n
theorem absI_nn (n : Int) : 0 ≤ absI n := by
  unfold absI
  split <;> omega
def spHand (K : PySem.W.Frag) : Sp := fun vs H Q _ => ∃ (a : Addr) (ns : List Int), vs = [.ref a] ∧ SqL K H a (ns.map V.int) ∧ ns.length ≤ 63 ∧ ∀ (p : Addr) (H' : Hp), H p = none → Same H H' → HandAt H' p → Q (.ref p) H'
theorem sum_nn : ∀ {l : List Int}, (∀ x ∈ l, 0 ≤ x) → 0 ≤ l.sum
  | [], _ => Int.le_refl 0
  | x :: l, h => by
    rw [List.sum_cons]
    have := h x List.mem_cons_self
    have := sum_nn fun y hy => h y (List.mem_cons_of_mem _ hy)
    omega
section
variable {P : Program} {w : World} {K : PySem.W.Frag} {mg : Str → Option Value} {base : Heap}
abbrev nLawHand : List Str := ["_law_script", "_law_given", "_law_small", "_law_great", "_law_cell"]
theorem scLawHand : FnScope nLawHand ["_law_script"] (defScope s_law_hand) := ⟨rfl, rfl, rfl, by decide +kernel, rfl, by decide +kernel, by decide +kernel⟩
theorem ok_hand {f : Addr} {fd : FuncData} (F : Fun K "_law_hand" "_law_hand" s_law_hand f fd) (T : NmA mg) : FnOk P w K mg base CX0 1 f fd ["_law_script"] (spHand K) := by
  refine F.ok scLawHand (fun vs H Q E h => ?_) (fun cdv A' outer s H vs Q E hr h => ?_)
  · obtain ⟨a, ns, rfl, _⟩ := h
    rfl
  · obtain ⟨a, ns, rfl, hS, h63, k⟩ := h
    have hu := hu_of hr
    refine ⟨_, pss_cons (ps_setLc (i := 1) (own := [("_law_cell", 4)]) (g := (gName 4)) (tt := tYes) (by rfl) scLawHand.nd rfl rfl (sw_true rfl rfl rfl (by decide +kernel)) (pi_list (pe_slice sl_list (pv 0) po_none (po_some pe_int))) (blkOk_by (own := [("_law_cell", 4)]) (N := nLawHand) (sc := defScope s_law_hand) (by decide +kernel)) (fun _ _ _ _ _ => (pg_name (i := 4) scLawHand.nd rfl (Or.inl rfl))) (fun _ _ _ _ _ => pts_nil) (fun _ _ _ _ _ => (pe_callB call_abs (by rfl) T.abs (by decide +kernel) (pa_cons (pe_callTy (r := fun xs H Q => (∃ i, xs = [.int i] ∧ Q (.int i) H) ∨ ∃ k, xs = [.bl k] ∧ Q (.int (if k then 1 else 0)) H) call_int1 (by rfl) T.int (by decide +kernel) (pa_cons (pv 4) pa_nil)) pa_nil))))
      (pss_cons (ps_set (i := 2) scLawHand.nd rfl (Or.inl rfl) (pe_op op_cat (pe_lc (own := [("_law_cell", 4)]) (g := (gName 4)) (tt := _) rfl scLawHand.nd  (pi_list (pv 1)) (blkOk_by (own := [("_law_cell", 4)]) (N := nLawHand) (sc := defScope s_law_hand) (by decide +kernel)) (fun _ _ _ _ _ => (pg_name (i := 4) scLawHand.nd rfl (Or.inl rfl))) (fun _ _ _ _ _ => (pts_one (pt_cmpR op_lt (pv 4) (pe_op op_pow pe_int pe_int) (nomark _)))) (fun _ _ _ _ _ => (pe_op op_mod (pe_callTy (r := fun xs H Q => (∃ i, xs = [.int i] ∧ Q (.int i) H) ∨ ∃ k, xs = [.bl k] ∧ Q (.int (if k then 1 else 0)) H) call_int1 (by rfl) T.int (by decide +kernel) (pa_cons (pv 4) pa_nil)) pe_int))) (pe_lst (pa_cons (pe_op op_add (pe_op op_mul pe_int (pe_callB call_len_seq (by rfl) T.len PySem.boot_len (pa_cons (pv 1) pa_nil))) pe_int) pa_nil))))
      (pss_cons (ps_setLc (i := 3) (own := [("_law_cell", 4)]) (g := (gName 4)) (tt := _) (by rfl) scLawHand.nd rfl rfl (sw_true rfl rfl rfl (by decide +kernel)) (pi_list (pv 1)) (blkOk_by (own := [("_law_cell", 4)]) (N := nLawHand) (sc := defScope s_law_hand) (by decide +kernel)) (fun _ _ _ _ _ => (pg_name (i := 4) scLawHand.nd rfl (Or.inl rfl))) (fun _ _ _ _ _ => (pts_one (pt_cmpR op_ge (pv 4) (pe_op op_pow pe_int pe_int) (nomark _)))) (fun _ _ _ _ _ => (pv 4)))
      (pss_one (ps_closeG (ps_ret (pe_disp (pps_cons pe_str (pv 3) (pps_cons pe_str (pv 2) (pps_cons pe_str (pe_op op_mod (pe_callTy call_int1 (by rfl) T.int (by decide +kernel) (pa_cons (pe_callB (cr_sum rfl) (by rfl) T.sum (by decide +kernel) (pa_cons (pv 2) pa_nil)) pa_nil)) pe_int) (pps_cons pe_str pe_int pps_nil)))) (by rfl) (by rfl) (fun z => by cases z) (by decide))))))), ?_⟩
    refine ⟨_, rfl, 63, rfl, a, _, rfl, hS, fun sp nsp => ?_⟩
    have h63' : (ns.map V.int).length ≤ 63 := by rw [List.length_map]; exact h63
    rw [cut63 h63']
    refine new_step nsp fun H1 s1 e1 => ?_
    refine ⟨sp, rfl, ⟨_, SqL.of e1⟩, fun D hD => ?_⟩
    refine lc_list (K := K) (a := sp) (xs := ns.map V.int) (fun i H' => Same H1 H' ∧ ∃ l : List Int, H' D = some (.lst (l.map V.int)) ∧ l.length = i ∧ ∀ x ∈ l, 0 ≤ x) ⟨Same.new hD, [], upd_same, rfl, fun x hx => absurd hx List.not_mem_nil⟩ (fun i H' _ h => SqL.of (h.1 _ _ e1)) ?_ ?_
    · rintro i x H' hi ⟨s2, l, h1, h2, h3⟩
      rw [List.getElem?_map] at hi
      obtain ⟨z, hz, rfl⟩ := Option.map_eq_some_iff.mp hi
      have il := (List.getElem?_eq_some_iff.mp hz).1
      refine ⟨rfl, _, rfl, .inl ⟨_, rfl, _, rfl, _, h1, ?_, s2.mut hD, l ++ [absI z], ?_, by rw [List.length_append, h2] <;> rfl, fun y hy => ?_⟩⟩
      · rw [List.length_map]
        exact small1000 (by omega)
      · rw [upd_same, List.map_append] <;> rfl
      · rcases List.mem_append.mp hy with hy | hy
        · exact h3 y hy
        · rw [List.mem_singleton.mp hy]
          exact absI_nn z
    rintro H2 ⟨s2, gv, g1, g2, g3⟩
    rw [List.length_map] at g2
    have Dn : H D = none := s1.free hD
    refine ⟨_, rfl, D, rfl, ⟨_, SqL.of g1⟩, fun D2 hD2 => ?_⟩
    refine lc_list (K := K) (a := D) (xs := gv.map V.int) (fun i H' => Same H2 H' ∧ ∃ l : List Int, H' D2 = some (.lst (l.map V.int)) ∧ l.length ≤ i ∧ ∀ x ∈ l, 0 ≤ x) ⟨Same.new hD2, [], upd_same, Nat.le_refl _, fun x hx => absurd hx List.not_mem_nil⟩ (fun i H' _ h => SqL.of (h.1 _ _ g1)) ?_ ?_
    · rintro i x H' hi ⟨s3, l, h1, h2, h3⟩
      rw [List.getElem?_map] at hi
      obtain ⟨z, hz, rfl⟩ := Option.map_eq_some_iff.mp hi
      have il := (List.getElem?_eq_some_iff.mp hz).1
      refine ⟨rfl, _, rfl, _, _, rfl, rfl, ⟨by decide, by decide, by decide⟩, _, _, rfl, rfl, _, rfl, ite2 (fun _ => ?_) (fun _ => ⟨s3, l, h1, by omega, h3⟩)⟩
      refine ⟨_, rfl, .inl ⟨_, rfl, _, _, rfl, rfl, (by show (0 : Int) < 1000000007; decide), _, h1, ?_, s3.mut hD2, l ++ [z % 1000000007], ?_, by rw [List.length_append]; exact Nat.succ_le_succ h2, fun y hy => ?_⟩⟩
      · rw [List.length_map]
        exact small1000 (by omega)
      · rw [upd_same, List.map_append] <;> rfl
      · rcases List.mem_append.mp hy with hy | hy
        · exact h3 y hy
        · rw [List.mem_singleton.mp hy]
          exact Int.emod_nonneg _ (by decide)
    rintro H3 ⟨s3, sl, l1, l2, l3⟩
    rw [List.length_map] at l2
    have g13 := s3 _ _ g1
    refine ⟨_, rfl, D, _, rfl, .inl (SqL.of g13), _, _, rfl, rfl, .inl ⟨by decide, by decide⟩, _, _, rfl, rfl, by show 1 ≤ sizeLine; decide, fun L hL => ?_⟩
    refine new_step hL fun H4 s4 e4 => ?_
    refine ⟨D2, L, _, _, rfl, rfl, s4 _ _ l1, e4, ?_, fun sm hsm => ?_⟩
    · rw [List.length_map]
      show _ + 1 ≤ _
      rw [sizeLine_eq]
      omega
    refine new_step hsm fun H5 s5 e5 => ?_
    have s35 := s4.trans s5
    have g15 := s35 _ _ g13
    have s05 := ((s1.trans s2).trans s3).trans s35
    obtain ⟨small, es, n1, n2, n3⟩ : ∃ small : List Int, sl.map V.int ++ [V.int (37 * ((gv.map V.int).length : Nat) + 11)] = small.map V.int ∧ 0 < small.length ∧ small.length ≤ 64 ∧ ∀ c ∈ small, 0 ≤ c := by
      refine ⟨sl ++ [37 * (((gv.map V.int).length : Nat) : Int) + 11], by rw [List.map_append] <;> rfl, by rw [List.length_append]; exact Nat.succ_pos _, by rw [List.length_append]; show _ + 1 ≤ _; omega, fun c hc => ?_⟩
      rcases List.mem_append.mp hc with hc | hc
      · exact l3 c hc
      · rw [List.mem_singleton.mp hc]
        omega
    rw [es] at e5
    refine ⟨_, rfl, D, rfl, ⟨_, SqL.of g15⟩, fun D3 hD3 => ?_⟩
    have D3n : H D3 = none := s05.free hD3
    refine lc_list (K := K) (a := D) (xs := gv.map V.int) (fun i H' => Same H5 H' ∧ ∃ l : List Int, H' D3 = some (.lst (l.map V.int)) ∧ l.length ≤ i ∧ ∀ x ∈ l, 0 ≤ x) ⟨Same.new hD3, [], upd_same, Nat.le_refl _, fun x hx => absurd hx List.not_mem_nil⟩ (fun i H' _ h => SqL.of (h.1 _ _ g15)) ?_ ?_
    · rintro i x H' hi ⟨s6, l, h1, h2, h3⟩
      rw [List.getElem?_map] at hi
      obtain ⟨z, hz, rfl⟩ := Option.map_eq_some_iff.mp hi
      have il := (List.getElem?_eq_some_iff.mp hz).1
      refine ⟨rfl, _, rfl, _, _, rfl, rfl, ⟨by decide, by decide, by decide⟩, _, _, rfl, rfl, _, rfl, ite2 (fun _ => ?_) (fun _ => ⟨s6, l, h1, by omega, h3⟩)⟩
      refine ⟨_, rfl, _, h1, ?_, s6.mut hD3, l ++ [z], ?_, by rw [List.length_append]; exact Nat.succ_le_succ h2, fun y hy => ?_⟩
      · rw [List.length_map]
        exact small1000 (by omega)
      · rw [upd_same, List.map_append] <;> rfl
      · rcases List.mem_append.mp hy with hy | hy
        · exact h3 y hy
        · rw [List.mem_singleton.mp hy]
          exact g3 z (List.mem_of_getElem? hz)
    rintro H6 ⟨s6, gl, q1, q2, q3⟩
    rw [List.length_map] at q2
    have s06 := s05.trans s6
    have e6 := s6 _ _ e5
    have D3sm : sm ≠ D3 := ne_of_none e5 hD3
    refine ⟨D3, gl, ⟨q3, by omega⟩, q1, ?_⟩
    have s07 : Same H (upd H6 D3 (greatO D3)) := s06.mut D3n
    obtain ⟨H7, hH7⟩ : ∃ G, G = upd H6 D3 (greatO D3) := ⟨_, rfl⟩
    have e7 : H7 sm = some (.lst (small.map V.int)) := by rw [hH7, upd_ne D3sm]; exact e6
    have q7 : H7 D3 = some (greatO D3) := by rw [hH7]; exact upd_same
    rw [← hH7] at s07 ⊢
    intro p np
    have e8 : upd H7 p (.dK []) sm = some (.lst (small.map V.int)) := (Same.new np) _ _ e7
    refine ⟨_, rfl, _, rfl, _, rfl, sm, small, rfl, SqL.of e8, .inl ⟨_, rfl, _, _, rfl, rfl, (by show (0 : Int) < 999979; decide), upd_same, hdK D3 sm (small.sum % 999979) 0, rfl, (show 4 ≤ 15 by decide), ?_⟩⟩
    rw [merge_hd, upd_upd]
    refine k p _ (s07.free np) (s07.trans (Same.new np)) ⟨D3, sm, small, _, 0, upd_same, (Same.new np) _ _ q7, (Same.new np) _ _ e7, n1, n2, n3, Int.emod_nonneg _ (by decide), by decide⟩
abbrev nLawDraw : List Str := ["_law_hand_here", "_law_many", "_law_number", "_law_turn", "_law_seed"]
theorem scLawDraw : FnScope nLawDraw ["_law_hand_here", "_law_many"] (defScope s_law_draw) := ⟨rfl, rfl, rfl, by decide +kernel, rfl, by decide +kernel, by decide +kernel⟩
theorem ok_draw {f : Addr} {fd : FuncData} (F : Fun K "_law_draw" "_law_draw" s_law_draw f fd) (T : NmA mg) : FnOk P w K mg base CX0 1 f fd ["_law_hand_here", "_law_many"] spDraw := by
  refine F.ok scLawDraw (fun vs H Q E h => ?_) (fun cdv A' outer s H vs Q E hr h => ?_)
  · obtain ⟨p, m, rfl, _⟩ := h
    rfl
  · obtain ⟨p, m, rfl, hm0, hm1, hH, k⟩ := h
    have hu := hu_of hr
    refine ⟨_, pss_cons (ps_openG (ps_if (pt_cmpR op_gt (pe_callB call_len_seq (by rfl) T.len PySem.boot_len (pa_cons (pe_dget hu (pv 0) pe_str (fun _ _ => rfl)) pa_nil)) pe_int (nomark _))
        (pss_cons (ps_set (i := 2) scLawDraw.nd rfl (Or.inl rfl) (pe_ix ix_list (pe_dget hu (pv 0) pe_str (fun _ _ => rfl)) pe_int (fun _ _ => rfl)))
        (pss_cons (ps_asg (pe_op op_fdivW (pv 2) (pv 1)) (pg_sub (pe_dget hu (pv 0) pe_str (fun _ _ => rfl)) pe_int set_list))
        (pss_cons (ps_if (pt_cmpR op_lt (pv 2) (pv 1) (nomark _))
          (pss_one (ps_expr (pe_bm PySem.F.plainAttrs_list PySem.F.slot_list_pop PySem.F.type_list_pop mt_popAt (pe_dget hu (pv 0) pe_str (fun _ _ => rfl)) (pa_cons pe_int pa_nil)))) pss_nil)
        (pss_one (ps_ret (pe_op op_mod (pe_callTy call_int1 (by rfl) T.int (by decide +kernel) (pa_cons (pv 2) pa_nil)) (pv 1))))))) pss_nil))
      (pss_cons (ps_set (i := 3) scLawDraw.nd rfl (Or.inl rfl) (pe_op op_add (pe_dget hu (pv 0) pe_str (fun _ _ => rfl)) pe_int))
      (pss_cons (ps_dput hu (pv 0) pe_str (pv 3) rfl)
      (pss_cons (ps_set (i := 4) scLawDraw.nd rfl (Or.inl rfl) (pe_op op_add (pe_ix ix_list (pe_dget hu (pv 0) pe_str (fun _ _ => rfl)) (pe_op op_mod (pe_callTy call_int1 (by rfl) T.int (by decide +kernel) (pa_cons (pv 3) pa_nil)) (pe_callB call_len_seq (by rfl) T.len PySem.boot_len (pa_cons (pe_dget hu (pv 0) pe_str (fun _ _ => rfl)) pa_nil))) (fun _ _ => rfl)) (pe_op op_mul pe_int (pe_dget hu (pv 0) pe_str (fun _ _ => rfl)))))
      (pss_cons (ps_set (i := 2) scLawDraw.nd rfl (Or.inl rfl) (pe_op op_mod (pe_callTy call_int1 (by rfl) T.int (by decide +kernel) (pa_cons (pe_op op_mul (pe_op op_add (pe_op op_add (pv 4) (pe_op op_mul pe_int (pv 3))) pe_int) pe_int) pa_nil)) pe_int))
      (pss_cons (ps_set (i := 2) scLawDraw.nd rfl (Or.inl rfl) (pe_op op_mod (pe_callTy call_int1 (by rfl) T.int (by decide +kernel) (pa_cons (pe_op op_mul (pv 2) (pe_op op_add (pe_op op_fdiv (pv 2) pe_int) pe_int)) pa_nil)) pe_int))
      (pss_cons (ps_set (i := 2) scLawDraw.nd rfl (Or.inl rfl) (pe_op op_mod (pe_callTy call_int1 (by rfl) T.int (by decide +kernel) (pa_cons (pe_op op_add (pe_op op_mul (pv 2) (pe_op op_add (pe_op op_fdiv (pv 2) pe_int) pe_int)) (pv 3)) pa_nil)) pe_int))
      (pss_one (ps_ret (pe_op op_mod (pe_callTy call_int1 (by rfl) T.int (by decide +kernel) (pa_cons (pe_op op_fdiv (pv 2) pe_int) pa_nil)) (pv 1)))))))))), ?_⟩
    obtain ⟨gr, sm, small, s0, t, hp, hg, hc, c1, c2, c3, hs, ht⟩ := id hH
    have ngp : gr ≠ p := ne_of hg hp (by intro z; cases z)
    have nsp : sm ≠ p := ne_of hc hp (by intro z; cases z)
    refine ⟨gr, hg, fun xs gx => ?_⟩
    have hp' : upd H gr (.lst (xs.map V.int)) p = some (.dK (hdK gr sm s0 t)) := by rw [upd_ne (Ne.symm ngp)]; exact hp
    have back : ∀ o, upd (upd H gr o) gr (greatO gr) = H := fun o => by
      rw [upd_upd]
      funext b
      by_cases hb : b = gr
      · rw [hb, upd_same, hg]
      · rw [upd_ne hb]
    refine ⟨_, rfl, p, _, rfl, gt_great hp', gr, _, rfl, .inl (SqL.of upd_same), _, _, rfl, rfl, _, rfl, ite2 (fun h0 => ?_) (fun _ => ?_)⟩
    · have h0 := of_decide_eq_true h0
      rw [List.length_map] at h0
      have h0 : 0 < xs.length := by omega
      obtain ⟨z, hz, zm⟩ := getg h0
      have z0 := gx.1 z zm
      refine ⟨_, rfl, p, _, rfl, gt_great hp', gr, _, _, _, rfl, rfl, SqL.of upd_same, atI_ints (i := 0) hz, ?_⟩
      refine ⟨_, rfl, _, rfl, _, _, rfl, rfl, wide_div (b := 40) hm0 (by omega) (by decide) (by decide), _, rfl, p, _, rfl, gt_great hp', gr, _, _, 0, rfl, rfl, upd_same, Evl.ixN_nat (by rw [List.length_map]; exact h0), ?_⟩
      rw [upd_upd]
      have es : (xs.map V.int).set 0 (.int (z / m)) = (xs.set 0 (z / m)).map V.int := by rw [List.map_set]
      rw [es]
      have gy : GoodG (xs.set 0 (z / m)) := ⟨fun y hy => by
        rcases List.mem_or_eq_of_mem_set hy with hy | hy
        · exact gx.1 y hy
        · rw [hy]
          exact Int.ediv_nonneg z0 (by omega), by rw [List.length_set]; exact gx.2⟩
      have hp2 : ∀ o, upd H gr o p = some (.dK (hdK gr sm s0 t)) := fun o => by rw [upd_ne (Ne.symm ngp)]; exact hp
      have fin : ∀ ys, GoodG ys → ∃ ys', GoodG ys' ∧ upd H gr (.lst (ys.map V.int)) gr = some (.lst (ys'.map V.int)) ∧ Q (.int (z % m)) (upd (upd H gr (.lst (ys.map V.int))) gr (greatO gr)) := fun ys gy => ⟨ys, gy, upd_same, by
        rw [back]
        exact k _ _ (Int.emod_nonneg _ (by omega)) (Int.emod_lt_of_pos _ hm0) (Stp.refl hH)⟩
      refine ⟨_, rfl, _, rfl, _, _, rfl, rfl, _, rfl, ite2 (fun _ => ?_) (fun _ => ?_)⟩
      · have len1 : 0 < ((xs.set 0 (z / m)).map V.int).length := by rw [List.length_map, List.length_set]; exact h0
        refine ⟨_, rfl, p, _, rfl, gt_great (hp2 _), .inl ⟨rfl, _, SqL.of upd_same⟩, gr, _, 0, 0, ((xs.set 0 (z / m)).map V.int)[0], rfl, rfl, upd_same, by decide, by decide, (ixN_seq (i := 0) (j := 0) (Evl.ixN_nat len1)).1, List.getElem?_eq_getElem len1, ?_⟩
        rw [upd_upd]
        have ee : ((xs.set 0 (z / m)).map V.int).eraseIdx 0 = ((xs.set 0 (z / m)).eraseIdx 0).map V.int := by rw [DT.map_erase]
        rw [ee]
        refine ⟨_, rfl, .inl ⟨_, rfl, _, rfl, _, _, rfl, rfl, hm0, fin _ ⟨fun y hy => gy.1 y (List.mem_of_mem_eraseIdx hy), Nat.le_trans (List.length_eraseIdx_le _ _) gy.2⟩⟩⟩
      · exact ⟨_, rfl, .inl ⟨_, rfl, _, rfl, _, _, rfl, rfl, hm0, fin _ gy⟩⟩
    · refine ⟨xs, gx, upd_same, ?_⟩
      rw [back]
      refine ⟨_, rfl, p, _, rfl, gt_turn hp, _, _, rfl, rfl, ?_⟩
      refine ⟨_, rfl, _, rfl, p, _, rfl, pt_turn hp _, ?_⟩
      have hc' : upd H p (.dK (hdK gr sm s0 (t + 1))) sm = some (.lst (small.map V.int)) := by rw [upd_ne nsp]; exact hc
      have ll : 0 < ((small.map V.int).length : Int) := by rw [List.length_map]; omega
      obtain ⟨j, hj⟩ := Int.eq_ofNat_of_zero_le (Int.emod_nonneg (t + 1) (show ((small.map V.int).length : Int) ≠ 0 by omega))
      have jl : j < small.length := by
        have := Int.emod_lt_of_pos (t + 1) ll
        rw [List.length_map] at this hj
        omega
      have at1 : atI (small.map V.int) ((t + 1) % ((small.map V.int).length : Int)) = some (V.int small[j]) := by
        rw [hj]
        exact atI_ints (List.getElem?_eq_getElem jl)
      have v0 := c3 _ (List.getElem_mem jl)
      refine ⟨_, rfl, p, _, rfl, gt_small upd_same, _, rfl, .inl ⟨_, rfl, _, rfl, p, _, rfl, gt_small upd_same, sm, _, rfl, .inl (SqL.of hc'), _, _, rfl, rfl, ll, sm, _, _, _, rfl, rfl, SqL.of hc', at1, _, rfl, p, _, rfl, gt_sum upd_same, _, _, rfl, rfl, .inl ⟨by decide, by decide⟩, _, _, rfl, rfl, ?_⟩⟩
      refine ⟨_, rfl, _, rfl, _, _, rfl, rfl, .inl ⟨by decide, by decide⟩, _, _, rfl, rfl, _, _, rfl, rfl, _, _, rfl, rfl, .inr ⟨by decide, by decide⟩, .inl ⟨_, rfl, _, _, rfl, rfl, (by show (0 : Int) < 2147483647; decide), ?_⟩⟩
      generalize hx : ((small[j] + 31 * s0 + 104729 * (t + 1) + 3) * 48271) % 2147483647 = x
      have x0 : 0 ≤ x := by rw [← hx]; exact Int.emod_nonneg _ (by decide)
      have x1 : x < 2147483647 := by rw [← hx]; exact Int.emod_lt_of_pos _ (by decide)
      refine ⟨_, rfl, _, rfl, _, _, rfl, rfl, ⟨by decide, by decide⟩, _, _, rfl, rfl, _, _, rfl, rfl, .inl ⟨by omega, by omega⟩, .inl ⟨_, rfl, _, _, rfl, rfl, (by show (0 : Int) < 2147483629; decide), ?_⟩⟩
      generalize hy : (x * (x / 1009 + 69621)) % 2147483629 = y
      have y0 : 0 ≤ y := by rw [← hy]; exact Int.emod_nonneg _ (by decide)
      have y1 : y < 2147483629 := by rw [← hy]; exact Int.emod_lt_of_pos _ (by decide)
      refine ⟨_, rfl, _, rfl, _, _, rfl, rfl, ⟨by decide, by decide⟩, _, _, rfl, rfl, _, _, rfl, rfl, .inl ⟨by omega, by omega⟩, _, rfl, _, _, rfl, rfl, .inl ⟨_, rfl, _, _, rfl, rfl, (by show (0 : Int) < 2147483399; decide), ?_⟩⟩
      refine ⟨_, rfl, _, _, rfl, rfl, ⟨by decide, by decide⟩, .inl ⟨_, rfl, _, rfl, _, _, rfl, rfl, hm0, ?_⟩⟩
      exact k _ _ (Int.emod_nonneg _ (by omega)) (Int.emod_lt_of_pos _ hm0) ⟨fun b o n e => by rw [upd_ne n]; exact e, cell_to hp upd_same, gr, sm, small, s0, t + 1, upd_same, by rw [upd_ne ngp]; exact hg, hc', c1, c2, c3, hs, by omega⟩
end
end Law

namespace Law
open PySem L2
section
variable {P : Program} {w : World} {K : PySem.W.Frag} {mg : Str → Option Value} {base : Heap}
/-- a def of the module that may be called by its name -/
structure Cl (P : Program) (w : World) (K : PySem.W.Frag) (mg : Str → Option Value) (base : Heap) (CX : CXT) (k : Nat) (x : Str) (f : Addr) (fd : FuncData) (ps : List Str) (sp : Sp) : Prop where
  ok : FnOk P w K mg base CX k f fd ps sp
  b : Binds K fd ps []
  m : mg x = some (.ref f)
  kp : PySem.W.keepIn K (.ref f) = true
theorem Cl.call {X : Cx} {k : Nat} {x : Str} {f : Addr} {fd : FuncData} {ps : List Str} {sp : Sp} {p pos : Pos} {e : Expr} {es : List Expr} {t : TA} (c : Cl X.prog X.w X.K X.mg X.base CX0 k x f fd ps sp) (hr : Room k X.A) (ha : PA X (e :: es) t) (hg : Gl X x := by rfl) (hdb : (x == ("__debug__" : Str)) = false := by decide)
    (he : starEach (e :: es) X.env = (false, eval e X.env) :: starEach es X.env := by rfl) (hpl : (backTo pos (starEach es X.env)).any (·.1) = false := by rfl) :
    PE X (.Call (.Name x p) (e :: es) [] pos) (tCall sp [] E0 t) := pe_call c.ok hr hg c.m c.kp c.b .nil pass0 ha hdb he hpl
def spAny (K : PySem.W.Frag) : Sp := fun vs H Q _ => ∃ (p l : Addr) (xs : List V), vs = [.ref p, .ref l] ∧ (SqL K H l xs ∨ SqT K H l xs) ∧ 0 < xs.length ∧ xs.length < 1073741824 ∧ HandAt H p ∧ ∀ (i : Nat) (x : V) (H' : Hp), xs[i]? = some x → Stp p H H' → Q x H'
theorem scAny : FnScope ["_law_hand_here", "_law_things"] ["_law_hand_here", "_law_things"] (defScope s_law_any) := ⟨rfl, rfl, rfl, by decide +kernel, rfl, by decide +kernel, by decide +kernel⟩
theorem ok_any {f fD : Addr} {fd fdD : FuncData} (F : Fun K "_law_any" "_law_any" s_law_any f fd) (T : NmA mg) (D : Cl P w K mg base CX0 1 "_law_draw" fD fdD ["_law_hand_here", "_law_many"] spDraw) : FnOk P w K mg base CX0 2 f fd ["_law_hand_here", "_law_things"] (spAny K) := by
  refine F.ok scAny (fun vs H Q E h => ?_) (fun cdv A outer s H vs Q E hr h => ?_)
  · obtain ⟨p, l, xs, rfl, _⟩ := h
    rfl
  · obtain ⟨p, l, xs, rfl, hS, h0, h1, hH, k⟩ := h
    refine ⟨_, pss_one (ps_ret (pe_ix ix_seq (pv 1) (D.call hr (pa_cons (pv 0) (pa_cons (pe_callB call_len_seq (by rfl) T.len PySem.boot_len (pa_cons (pv 1) pa_nil)) pa_nil))) (fun _ _ => rfl))), ?_⟩
    refine ⟨_, rfl, _, rfl, _, rfl, l, xs, rfl, hS, p, _, rfl, by omega, by omega, hH, fun d H' d0 d1 S => ?_⟩
    obtain ⟨j, rfl⟩ := Int.eq_ofNat_of_zero_le d0
    have hj : j < xs.length := by omega
    have ha : atI xs ((j : Nat) : Int) = some xs[j] := by
      unfold atI
      rw [Evl.ixN_nat hj]
      exact List.getElem?_eq_getElem hj
    rcases hS with hS | hS
    · exact .inl ⟨l, xs, _, _, rfl, rfl, S.sqL hH hS, ha, k j _ H' (List.getElem?_eq_getElem hj) S⟩
    · exact .inr (.inl ⟨l, xs, _, _, rfl, rfl, S.sqT hH hS, ha, k j _ H' (List.getElem?_eq_getElem hj) S⟩)
end
end Law

namespace Law
open PySem L2
/-! ### the program's own: integers, fractions -/
def Ty3 (K : PySem.W.Frag) (H : Hp) (x : V) (bi bb : Bool) : Prop := ∃ t, TyX K H x t ∧ PySem.W.kitOne K t (.type "int") = some bi ∧ PySem.W.kitOne K t (.type "bool") = some bb
theorem ty3_int {K : PySem.W.Frag} {H : Hp} (i : Int) : Ty3 K H (.int i) true false := ⟨_, .base (.int i), kit_ty (by decide +kernel), kit_ty (by decide +kernel)⟩
theorem tyx_tup {K : PySem.W.Frag} {H : Hp} {a : Addr} {xs : List V} (h : SqT K H a xs) : TyX K H (.ref a) (.type "tuple") := by
  rcases h with (h | ⟨o, h⟩) | ⟨o, its, n, hk, hc, _⟩
  · exact .base (.tup h)
  · exact .fTuple h
  · exact .kTuple hk hc
theorem kit_tt {K : PySem.W.Frag} : PySem.W.kitOne K (.type "tuple") (.type "tuple") = some true := kit_ty (by decide +kernel)
end Law
namespace Law
open PySem L2
section
variable {P : Program} {w : World} {K : PySem.W.Frag} {mg : Str → Option Value} {base : Heap}
def spIsInt (K : PySem.W.Frag) : Sp := fun vs H Q _ => ∃ x bi bb, vs = [x] ∧ Ty3 K H x bi bb ∧ Q (.bl (bi && !bb)) H
theorem scIsInt : FnScope ["thing"] ["thing"] (defScope s_is_integer) := ⟨rfl, rfl, rfl, by decide +kernel, rfl, by decide +kernel, by decide +kernel⟩
theorem ok_isint {f : Addr} {fd : FuncData} (F : Fun K "is_integer" "is_integer" s_is_integer f fd) (T : NmA mg) : FnOk P w K mg base CX0 1 f fd ["thing"] (spIsInt K) := by
  refine F.ok scIsInt (fun vs H Q E h => ?_) (fun cdv A outer s H vs Q E hr h => ?_)
  · obtain ⟨x, bi, bb, rfl, _⟩ := h
    rfl
  · obtain ⟨x, bi, bb, rfl, ⟨t, ty, h1, h2⟩, k⟩ := h
    refine ⟨_, pss_one (ps_ret (pe_and (pe_callB call_isi (by rfl) T.isi (by decide +kernel) (pa_cons (pv 0) (pa_cons (pe_bltn (v := .ty "int") (u := .type "int") (by rfl) T.int (by decide +kernel) rfl) pa_nil)))
      (pe_one (pe_not (pe_callB call_isi (by rfl) T.isi (by decide +kernel) (pa_cons (pv 0) (pa_cons (pe_bltn (v := .ty "bool") (u := .type "bool") (by rfl) T.bool (by decide +kernel) rfl) pa_nil))))))), ?_⟩
    refine ⟨_, rfl, _, _, _, _, _, rfl, .ty "int", ty, h1, _, rfl, ?_⟩
    cases bi with
    | true => exact iteT ⟨_, rfl, _, _, _, _, _, rfl, .ty "bool", ty, h2, _, rfl, k⟩
    | false => exact iteF k
def spWithin (K : PySem.W.Frag) : Sp := fun vs H Q _ => ∃ (lo hi : Int) (x : V), vs = [.int lo, .int hi, x] ∧ ((∃ i, x = .int i ∧ Q (.bl (decide (lo ≤ i) && decide (i ≤ hi))) H) ∨ ∃ bi bb, Ty3 K H x bi bb ∧ (bi && !bb) = false ∧ Q (.bl false) H)
theorem scWithin : FnScope ["low", "high", "thing"] ["low", "high", "thing"] (defScope s_is_within) := ⟨rfl, rfl, rfl, by decide +kernel, rfl, by decide +kernel, by decide +kernel⟩
theorem ok_within {f fI : Addr} {fd fdI : FuncData} (F : Fun K "is_within" "is_within" s_is_within f fd) (I : Cl P w K mg base CX0 1 "is_integer" fI fdI ["thing"] (spIsInt K)) : FnOk P w K mg base CX0 2 f fd ["low", "high", "thing"] (spWithin K) := by
  refine F.ok scWithin (fun vs H Q E h => ?_) (fun cdv A outer s H vs Q E hr h => ?_)
  · obtain ⟨lo, hi, x, rfl, _⟩ := h
    rfl
  · obtain ⟨lo, hi, x, rfl, h⟩ := h
    refine ⟨_, pss_one (ps_ret (pe_and (I.call hr (pa_cons (pv 2) pa_nil)) (pe_one (pe_chain op_le op_le (pv 0) (pv 2) (pv 1))))), ?_⟩
    rcases h with ⟨i, rfl, k⟩ | ⟨bi, bb, ty, hb, k⟩
    · refine ⟨_, rfl, _, true, false, rfl, ty3_int i, true, rfl, iteT ?_⟩
      refine ⟨_, rfl, _, rfl, _, _, rfl, rfl, _, rfl, ?_⟩
      refine ite2 (fun h1 => ?_) (fun h1 => ?_)
      · refine ⟨_, rfl, _, _, rfl, rfl, ?_⟩
        rw [h1, Bool.true_and] at k
        exact k
      · rw [Bool.not_eq_true] at h1
        rw [h1, Bool.false_and] at k
        exact k
    · refine ⟨_, rfl, x, bi, bb, rfl, ty, _, rfl, ?_⟩
      rw [hb]
      exact iteF k
def isW (lo hi : Int) : V → Bool
  | .int i => decide (lo ≤ i) && decide (i ≤ hi)
  | _ => false
def Known (K : PySem.W.Frag) (H : Hp) (x : V) : Prop := (∃ i, x = .int i) ∨ ∃ bi bb, Ty3 K H x bi bb ∧ (bi && !bb) = false ∧ ∀ lo hi, isW lo hi x = false
def spRowB (K : PySem.W.Frag) : Sp := fun vs H Q _ => ∃ (b : Int) (a : Addr) (xs : List V), vs = [.int b, .ref a] ∧ SqT K H a xs ∧ xs.length ≤ 1000 ∧ (∀ x ∈ xs, ∃ i, x = .int i) ∧ ∀ H', Same H H' → Q (.bl (xs.all (isW 0 (b - 1)))) H'
theorem scRowB : FnScope ["bound", "thing", "part"] ["bound", "thing"] (defScope s_is_row_below) := ⟨rfl, rfl, rfl, by decide +kernel, rfl, by decide +kernel, by decide +kernel⟩
theorem all_take {α : Type} (f : α → Bool) : ∀ xs : List α, (xs.map f).all id = xs.all f
  | [] => rfl
  | x :: xs => by rw [List.map_cons, List.all_cons, List.all_cons, all_take f xs] <;> rfl
theorem ok_rowb {f fW : Addr} {fd fdW : FuncData} (F : Fun K "is_row_below" "is_row_below" s_is_row_below f fd) (T : NmA mg) (W : Cl P w K mg base CX0 2 "is_within" fW fdW ["low", "high", "thing"] (spWithin K)) : FnOk P w K mg base CX0 3 f fd ["bound", "thing"] (spRowB K) := by
  refine F.ok scRowB (fun vs H Q E h => ?_) (fun cdv A outer s H vs Q E hr h => ?_)
  · obtain ⟨b, a, xs, rfl, _⟩ := h
    rfl
  · obtain ⟨b, a, xs, rfl, hS, hz, hx, k⟩ := h
    refine ⟨_, pss_one (ps_ret (pe_and (pe_callB call_isi (by rfl) T.isi (by decide +kernel) (pa_cons (pv 1) (pa_cons (pe_bltn (v := .ty "tuple") (u := .type "tuple") (by rfl) T.tuple (by decide +kernel) rfl) pa_nil)))
      (pe_one (pe_callB (cr_all rfl) (by rfl) T.all (by decide +kernel) (pa_cons (pe_lc (own := [("part", 2)]) (g := gName 2) (tt := tYes) rfl scRowB.nd (pi_tup (pv 1))
        (blkOk_by (own := [("part", 2)]) (N := ["bound", "thing", "part"]) (sc := defScope s_is_row_below) (by decide +kernel)) (fun _ _ _ _ _ => pg_name (i := 2) scRowB.nd rfl (Or.inl rfl)) (fun _ _ _ _ _ => pts_nil)
        (fun _ _ _ _ _ => W.call hr (pa_cons pe_int (pa_cons (pe_op op_sub (pv 0) pe_int) (pa_cons (pv 2) pa_nil))))) pa_nil))))), ?_⟩
    refine ⟨_, rfl, _, _, _, _, _, rfl, .ty "tuple", tyx_tup hS, kit_tt, _, rfl, iteT ?_⟩
    refine ⟨_, rfl, a, rfl, ⟨_, hS⟩, fun D hD => ?_⟩
    refine lc_tup (K := K) (a := a) (xs := xs) (fun i H' => Same H H' ∧ H' D = some (.lst (((xs.take i).map (isW 0 (b - 1))).map V.bl))) ⟨Same.new hD, upd_same⟩ (fun i H' _ h => h.1.sqT hS) ?_ ?_
    · rintro i x H' hi ⟨s1, h1⟩
      obtain ⟨z, rfl⟩ := hx x (List.mem_of_getElem? hi)
      refine ⟨rfl, _, rfl, _, _, rfl, rfl, _, rfl, _, _, _, rfl, .inl ⟨z, rfl, _, h1, ?_, s1.mut hD, ?_⟩⟩
      · rw [List.length_map, List.length_map, List.length_take]
        exact small1000 (by omega)
      · rw [upd_same, List.take_add_one, hi, List.map_append, List.map_append] <;> rfl
    · rintro H' ⟨s1, h1⟩
      rw [List.take_length] at h1
      refine ⟨D, _, rfl, SqL.of h1, ?_⟩
      rw [all_take]
      exact k H' s1
theorem dec_one (n : Nat) : decide (V.int (n : Int) = V.int 1) = (n == 1) := by
  rw [dec_int]
  by_cases e : n = 1
  · subst e
    rfl
  · rw [beq_eq_false_iff_ne.mpr e, beq_eq_false_iff_ne.mpr (by omega)]
def spFrac (K : PySem.W.Frag) : Sp := fun vs H Q _ => ∃ (a : Addr) (t b : Int), vs = [.ref a] ∧ SqT K H a [.int t, .int b] ∧ Q (.bl (decide (0 < b) && (Nat.gcd t.natAbs b.natAbs == 1))) H
theorem scFrac : FnScope ["thing", "top", "bottom"] ["thing"] (defScope s_is_fraction) := ⟨rfl, rfl, rfl, by decide +kernel, rfl, by decide +kernel, by decide +kernel⟩
theorem ok_frac {f fI : Addr} {fd fdI : FuncData} (F : Fun K "is_fraction" "is_fraction" s_is_fraction f fd) (T : NmA mg) (I : Cl P w K mg base CX0 1 "is_integer" fI fdI ["thing"] (spIsInt K)) : FnOk P w K mg base CX0 2 f fd ["thing"] (spFrac K) := by
  refine F.ok scFrac (fun vs H Q E h => ?_) (fun cdv A outer s H vs Q E hr h => ?_)
  · obtain ⟨a, t, b, rfl, _⟩ := h
    rfl
  · obtain ⟨a, t, b, rfl, hS, k⟩ := h
    refine ⟨_, pss_cons (ps_if (PW.pt (pw_or (pt_not (pt_val (pe_callB call_isi (by rfl) T.isi (by decide +kernel) (pa_cons (pv 0) (pa_cons (pe_bltn (v := .ty "tuple") (u := .type "tuple") (by rfl) T.tuple (by decide +kernel) rfl) pa_nil)))))
        (pw_or1 (pt_cmpR op_ne (pe_callB call_len_seq (by rfl) T.len PySem.boot_len (pa_cons (pv 0) pa_nil)) pe_int (nomark _))))) (pss_one (ps_ret pe_bl)) pss_nil)
      (pss_cons (ps_asg (pv 0) (pg_tup (by rfl) (pgs_cons (pg_name (i := 1) scFrac.nd rfl (Or.inl rfl)) (pgs_cons (pg_name (i := 2) scFrac.nd rfl (Or.inl rfl)) pgs_nil))))
      (pss_one (ps_ret (pe_and (I.call hr (pa_cons (pv 1) pa_nil)) (pe_and (I.call hr (pa_cons (pv 2) pa_nil)) (pe_and (pe_cmpR op_gt (pv 2) pe_int (nomark _)) (pe_one (pe_cmpR op_eq (pe_callBfun cr_gcd (by rfl) T.gcd (pa_cons (pv 1) (pa_cons (pv 2) pa_nil))) pe_int (nomark _))))))))), ?_⟩
    refine ⟨_, rfl, _, _, _, _, _, rfl, .ty "tuple", tyx_tup hS, kit_tt, _, rfl, ?_⟩
    refine iteF ⟨_, rfl, a, _, rfl, .inr hS, rfl, _, rfl, iteF ?_⟩
    refine ⟨_, rfl, a, _, rfl, hS, rfl, _, _, rfl, _, _, rfl, rfl, ?_⟩
    refine ⟨_, rfl, _, true, false, rfl, ty3_int t, _, rfl, iteT ⟨_, rfl, _, true, false, rfl, ty3_int b, _, rfl, iteT ⟨_, rfl, _, _, rfl, rfl, _, rfl, ?_⟩⟩⟩
    refine ite2 (fun h1 => ?_) (fun h1 => ?_)
    · refine ⟨_, rfl, _, rfl, t, b, rfl, rfl, ?_⟩
      rw [dec_one]
      rw [h1, Bool.true_and] at k
      exact k
    · rw [Bool.not_eq_true] at h1
      rw [h1, Bool.false_and] at k
      exact k
end
end Law

namespace L2
open PySem PySem.Spec PyProof.Rows
/-! ### math.lcm of great ints -/
theorem lcm_le (a b : Nat) (hb : 0 < b) (ha : 0 < a) : Nat.lcm a b ≤ a * b := Nat.le_of_dvd (Nat.mul_pos ha hb) (Nat.lcm_dvd_mul a b)
theorem lcm_lt {a b : Nat} (ha : a < 2 ^ 9000) (hb : b < 2 ^ 9000) : Nat.lcm a b < 2 ^ 18000 := by
  by_cases h0 : a = 0
  · subst h0
    rw [Nat.lcm_zero_left]
    exact Nat.two_pow_pos _
  by_cases h1 : b = 0
  · subst h1
    rw [Nat.lcm_zero_right]
    exact Nat.two_pow_pos _
  have h := lcm_le a b (Nat.pos_of_ne_zero h1) (Nat.pos_of_ne_zero h0)
  have h2 : a * b < 2 ^ 9000 * 2 ^ 9000 := Nat.mul_lt_mul_of_lt_of_lt ha hb
  rw [← Nat.pow_add] at h2
  exact Nat.lt_of_le_of_lt h h2
def rLcm : List V → Hp → VK → Prop := fun vs H Q => ∃ a b : Int, vs = [.int a, .int b] ∧ a.natAbs < 2 ^ 9000 ∧ b.natAbs < 2 ^ 9000 ∧ Q (.int ((Nat.lcm a.natAbs b.natAbs : Nat) : Int)) H
theorem cr_lcm {X : Cx} : CallR X (.builtin "math.lcm") rLcm := by
  intro pins s σ H vs us Q I r h
  obtain ⟨a, b, rfl, ha, hb, q⟩ := h
  obtain ⟨t, u, rfl⟩ := Vals.int2 r
  have l1 : ∀ {n : Nat}, n < 2 ^ 9000 → n.log2 < 9000 := fun h => PySem.Flt.log2_lt_of (by decide) h
  have m1 : max 1 a.natAbs < 2 ^ 9000 := by
    rw [Nat.max_def]
    split
    · exact ha
    · exact Nat.one_lt_two_pow (by decide)
  have m2 : max a.natAbs b.natAbs < 2 ^ 9000 := by
    rw [Nat.max_def]
    split
    · exact hb
    · exact ha
  have e : ((Nat.lcm 1 a.natAbs).lcm b.natAbs : Nat) = Nat.lcm a.natAbs b.natAbs := by rw [Nat.lcm_one_left]
  have hz : ((((Nat.lcm 1 a.natAbs).lcm b.natAbs : Nat) : Int)).natAbs.log2 < bitsLine := by
    rw [e, Int.natAbs_natCast]
    exact Nat.lt_of_lt_of_le (PySem.Flt.log2_lt_of (by decide) (lcm_lt ha hb)) (by decide)
  have c1 := l1 m1
  have c2 := l1 m2
  refine PySem.call_function_meets PySem.W.MGF.kind_lcm PySem.W.MGF.plain_lcm PySem.W.MGF.entry_lcm (PySem.W.MGF.args_lcm _ _) (PySem.W.mg_run_lcm a t b u (by omega) (by omega) hz).meets ?_
  exact ⟨.int _, H, I.tok _, ⟨_, rfl⟩, by rw [e]; exact q⟩
end L2

namespace Law
open PySem L2
/-! ### lists of fractions -/
abbrev Fr := Int × Int
def FrAt (K : PySem.W.Frag) (H : Hp) (v : V) (f : Fr) : Prop := ∃ s, v = .ref s ∧ SqT K H s [.int f.1, .int f.2]
def FrsIn (K : PySem.W.Frag) (H : Hp) (vs : List V) (fs : List Fr) : Prop := vs.length = fs.length ∧ ∀ (i : Nat) (v : V), vs[i]? = some v → ∃ f, fs[i]? = some f ∧ FrAt K H v f
def FrsAt (K : PySem.W.Frag) (H : Hp) (a : Addr) (fs : List Fr) : Prop := ∃ vs, SqL K H a vs ∧ FrsIn K H vs fs
/-- of moderate size -/
def FrOk (f : Fr) : Prop := 0 < f.2 ∧ f.2.natAbs < 2 ^ 62 ∧ f.1.natAbs < 2 ^ 62
theorem FrAt.same {K : PySem.W.Frag} {H H' : Hp} {v : V} {f : Fr} (e : Same H H') (h : FrAt K H v f) : FrAt K H' v f := by
  obtain ⟨s, h1, h2⟩ := h
  exact ⟨s, h1, e.sqT h2⟩
theorem FrsIn.same {K : PySem.W.Frag} {H H' : Hp} {vs : List V} {fs : List Fr} (e : Same H H') (h : FrsIn K H vs fs) : FrsIn K H' vs fs := ⟨h.1, fun i v hv => by
  obtain ⟨f, h1, h2⟩ := h.2 i v hv
  exact ⟨f, h1, h2.same e⟩⟩
theorem FrsAt.same {K : PySem.W.Frag} {H H' : Hp} {a : Addr} {fs : List Fr} (e : Same H H') (h : FrsAt K H a fs) : FrsAt K H' a fs := by
  obtain ⟨vs, h1, h2⟩ := h
  exact ⟨vs, e.seq h1, h2.same e⟩
def lcmAll (fs : List Fr) : Nat := fs.foldl (fun m f => Nat.lcm m f.2.natAbs) 1
theorem lcmAll_snoc (fs : List Fr) (f : Fr) : lcmAll (fs ++ [f]) = Nat.lcm (lcmAll fs) f.2.natAbs := by
  unfold lcmAll
  rw [List.foldl_append] <;> rfl
theorem lcm_fold : ∀ (fs : List Fr) (m : Nat), 0 < m → (∀ f ∈ fs, FrOk f) → 0 < fs.foldl (fun m f => Nat.lcm m f.2.natAbs) m ∧ fs.foldl (fun m f => Nat.lcm m f.2.natAbs) m ≤ m * 2 ^ (62 * fs.length)
  | [], m, hm, _ => ⟨hm, by simp⟩
  | f :: fs, m, hm, h => by
    obtain ⟨h1, h2, _⟩ := h f List.mem_cons_self
    have p : 0 < f.2.natAbs := by omega
    have q : 0 < Nat.lcm m f.2.natAbs := Nat.lcm_pos hm p
    obtain ⟨i1, i2⟩ := lcm_fold fs (Nat.lcm m f.2.natAbs) q fun g hg => h g (List.mem_cons_of_mem _ hg)
    refine ⟨i1, Nat.le_trans i2 ?_⟩
    have e1 : Nat.lcm m f.2.natAbs ≤ m * 2 ^ 62 := Nat.le_trans (lcm_le _ _ p hm) (Nat.mul_le_mul_left _ (Nat.le_of_lt h2))
    have e2 : m * 2 ^ (62 * (f :: fs).length) = m * 2 ^ 62 * 2 ^ (62 * fs.length) := by
      rw [List.length_cons, Nat.mul_add, Nat.mul_one, Nat.add_comm, Nat.pow_add, Nat.mul_assoc]
    rw [e2]
    exact Nat.mul_le_mul_right _ e1
theorem lcmAll_pos {fs : List Fr} (h : ∀ f ∈ fs, FrOk f) : 0 < lcmAll fs := (lcm_fold fs 1 (by decide) h).1
theorem lcmAll_lt {fs : List Fr} (h : ∀ f ∈ fs, FrOk f) (hl : fs.length ≤ 24) : lcmAll fs < 2 ^ 1489 := by
  have z := (lcm_fold fs 1 (by decide) h).2
  rw [Nat.one_mul] at z
  refine Nat.lt_of_le_of_lt z (Nat.pow_lt_pow_right (by decide) (by omega))
theorem pow_mono {n a b : Nat} (h : n < 2 ^ a) (hab : a ≤ b) : n < 2 ^ b := Nat.lt_of_lt_of_le h (Nat.pow_le_pow_right (by decide) hab)
section
variable {P : Program} {w : World} {K : PySem.W.Frag} {mg : Str → Option Value} {base : Heap}
def spComB (K : PySem.W.Frag) : Sp := fun vs H Q _ => ∃ (a : Addr) (fs : List Fr), vs = [.ref a] ∧ FrsAt K H a fs ∧ fs.length ≤ 24 ∧ (∀ f ∈ fs, FrOk f) ∧ Q (.int (lcmAll fs : Nat)) H
theorem scComB : FnScope ["fractions", "found", "_", "bottom"] ["fractions"] (defScope s_common_bottom) := ⟨rfl, rfl, rfl, by decide +kernel, rfl, by decide +kernel, by decide +kernel⟩
theorem ok_comb {f : Addr} {fd : FuncData} (F : Fun K "common_bottom" "common_bottom" s_common_bottom f fd) (T : NmA mg) : FnOk P w K mg base CX0 1 f fd ["fractions"] (spComB K) := by
  refine F.ok scComB (fun vs H Q E h => ?_) (fun cdv A outer s H vs Q E hr h => ?_)
  · obtain ⟨a, fs, rfl, _⟩ := h
    rfl
  · obtain ⟨a, fs, rfl, ⟨vs, hS, hF⟩, hl, ho, k⟩ := h
    refine ⟨_, pss_cons (ps_set (i := 1) scComB.nd rfl (Or.inl rfl) pe_int)
      (pss_cons (ps_for PassesOwn.never rfl (pi_list (pv 0)) (pg_tup (by rfl) (pgs_cons (pg_name (i := 2) scComB.nd rfl (Or.inl rfl)) (pgs_cons (pg_name (i := 3) scComB.nd rfl (Or.inl rfl)) pgs_nil)))
        (pss_one (ps_set (i := 1) scComB.nd rfl (Or.inl rfl) (pe_callBfun cr_lcm (by rfl) T.lcm (pa_cons (pv 1) (pa_cons (pv 3) pa_nil))))))
      (pss_one (ps_ret (pv 1)))), ?_⟩
    refine ⟨_, rfl, a, rfl, ⟨_, hS⟩, for_list (K := K) (a := a) (xs := vs) (fun i σ H' => H' = H ∧ ∃ u v : Option V, σ = [some (.ref a), some (.int (lcmAll (fs.take i) : Nat)), u, v]) ⟨rfl, none, none, rfl⟩ (fun i σ H' _ h => by rw [h.1]; exact hS) ?_ ?_⟩
    · rintro i x σ H' hi ⟨rfl, u, v, rfl⟩
      obtain ⟨g, hg, t, rfl, hT⟩ := hF.2 i x hi
      have gm : g ∈ fs := List.mem_of_getElem? hg
      obtain ⟨g1, g2, g3⟩ := ho g gm
      have hsub : ∀ f ∈ fs.take i, FrOk f := fun f hf => ho f (List.mem_of_mem_take hf)
      have hlt := lcmAll_lt hsub (by rw [List.length_take]; omega)
      refine ⟨t, _, rfl, hT, rfl, _, _, rfl, _, _, rfl, rfl, ?_⟩
      refine ⟨_, rfl, _, rfl, _, _, rfl, pow_mono (a := 1489) (by rw [Int.natAbs_natCast]; exact hlt) (by decide), pow_mono g2 (by decide), ?_⟩
      refine ⟨rfl, some (.int g.1), some (.int g.2), ?_⟩
      rw [List.take_add_one, hg]
      show _ = [some (V.ref a), some (V.int ((lcmAll (fs.take i ++ [g]) : Nat) : Int)), some (V.int g.1), some (V.int g.2)]
      rw [lcmAll_snoc]
      rfl
    · rintro σ H' ⟨rfl, u, v, rfl⟩
      refine ⟨_, rfl, ?_⟩
      rw [hF.1, List.take_length]
      exact k
def topsOf (fs : List Fr) (b : Int) : List Int := fs.map fun f => f.1 * (b / f.2)
def spTops (K : PySem.W.Frag) : Sp := fun vs H Q _ => ∃ (a : Addr) (fs : List Fr) (b : Int), vs = [.ref a, .int b] ∧ FrsAt K H a fs ∧ fs.length ≤ 24 ∧ (∀ f ∈ fs, FrOk f) ∧ ∀ p H', H p = none → Same H H' → H' p = some (.lst ((topsOf fs b).map V.int)) → Q (.ref p) H'
theorem scTops : FnScope ["fractions", "bottom", "top", "part"] ["fractions", "bottom"] (defScope s_tops_over) := ⟨rfl, rfl, rfl, by decide +kernel, rfl, by decide +kernel, by decide +kernel⟩
theorem ok_tops {f : Addr} {fd : FuncData} (F : Fun K "tops_over" "tops_over" s_tops_over f fd) : FnOk P w K mg base CX0 1 f fd ["fractions", "bottom"] (spTops K) := by
  refine F.ok scTops (fun vs H Q E h => ?_) (fun cdv A outer s H vs Q E hr h => ?_)
  · obtain ⟨a, fs, b, rfl, _⟩ := h
    rfl
  · obtain ⟨a, fs, b, rfl, ⟨vs, hS, hF⟩, hl, ho, k⟩ := h
    refine ⟨_, pss_one (ps_ret (pe_lc (own := [("top", 2), ("part", 3)]) (g := gTup K 2 (gCons (gName 2) (gCons (gName 3) gNil))) (tt := tYes) rfl scTops.nd (pi_list (pv 0))
        (blkOk_by (own := [("top", 2), ("part", 3)]) (N := ["fractions", "bottom", "top", "part"]) (sc := defScope s_tops_over) (by decide +kernel))
        (fun _ _ _ _ _ => pg_tup (by rfl) (pgs_cons (pg_name (i := 2) scTops.nd rfl (Or.inl rfl)) (pgs_cons (pg_name (i := 3) scTops.nd rfl (Or.inl rfl)) pgs_nil))) (fun _ _ _ _ _ => pts_nil)
        (fun _ _ _ _ _ => pe_op op_mul (pv 2) (pe_op op_fdivW (pv 1) (pv 3))))), ?_⟩
    refine ⟨_, rfl, a, rfl, ⟨_, hS⟩, fun D hD => ?_⟩
    refine lc_list (K := K) (a := a) (xs := vs) (fun i H' => Same H H' ∧ H' D = some (.lst ((topsOf (fs.take i) b).map V.int))) ⟨Same.new hD, upd_same⟩ (fun i H' _ h => h.1.seq hS) ?_ ?_
    · rintro i x H' hi ⟨s1, h1⟩
      obtain ⟨g, hg, t, rfl, hT⟩ := hF.2 i x hi
      obtain ⟨g1, g2, g3⟩ := ho g (List.mem_of_getElem? hg)
      have hil : i < fs.length := (List.getElem?_eq_some_iff.mp hg).1
      refine ⟨t, _, rfl, s1.sqT hT, rfl, _, _, rfl, _, _, rfl, rfl, ?_⟩
      refine ⟨rfl, _, rfl, _, rfl, _, rfl, _, _, rfl, rfl, wide_div g1 g2 (by decide) (by decide), _, _, rfl, rfl, .inl ⟨by omega, by omega⟩, _, h1, ?_, s1.mut hD, ?_⟩
      · unfold topsOf
        rw [List.length_map, List.length_map, List.length_take]
        exact small1000 (by omega)
      · unfold topsOf
        rw [upd_same, List.take_add_one, hg, List.map_append, List.map_append] <;> rfl
    · rintro H' ⟨s1, h1⟩
      rw [hF.1, List.take_length] at h1
      exact k D H' hD s1 h1
def spOne (K : PySem.W.Frag) : Sp := fun vs H Q _ => ∃ (a : Addr) (fs : List Fr), vs = [.ref a] ∧ FrsAt K H a fs ∧ fs.length ≤ 24 ∧ (∀ f ∈ fs, FrOk f) ∧ ∀ H', Same H H' → Q (.bl (decide ((topsOf fs (lcmAll fs : Nat)).sum = ((lcmAll fs : Nat) : Int)))) H'
theorem scOne : FnScope ["fractions", "bottom"] ["fractions"] (defScope s_are_one_together) := ⟨rfl, rfl, rfl, by decide +kernel, rfl, by decide +kernel, by decide +kernel⟩
theorem ok_one {f fC fT : Addr} {fd fdC fdT : FuncData} (F : Fun K "are_one_together" "are_one_together" s_are_one_together f fd) (T : NmA mg) (C : Cl P w K mg base CX0 1 "common_bottom" fC fdC ["fractions"] (spComB K))
    (U : Cl P w K mg base CX0 1 "tops_over" fT fdT ["fractions", "bottom"] (spTops K)) : FnOk P w K mg base CX0 2 f fd ["fractions"] (spOne K) := by
  refine F.ok scOne (fun vs H Q E h => ?_) (fun cdv A outer s H vs Q E hr h => ?_)
  · obtain ⟨a, fs, rfl, _⟩ := h
    rfl
  · obtain ⟨a, fs, rfl, hA, hl, ho, k⟩ := h
    refine ⟨_, pss_cons (ps_set (i := 1) scOne.nd rfl (Or.inl rfl) (C.call hr (pa_cons (pv 0) pa_nil)))
      (pss_one (ps_ret (pe_cmpR op_eq (pe_callB (cr_sum rfl) (by rfl) T.sum (by decide +kernel) (pa_cons (U.call hr (pa_cons (pv 0) (pa_cons (pv 1) pa_nil))) pa_nil)) (pv 1) (nomark _)))), ?_⟩
    refine ⟨_, rfl, a, fs, rfl, hA, hl, ho, ?_⟩
    refine ⟨_, rfl, _, rfl, a, fs, _, rfl, hA, hl, ho, fun p H' hp s1 h1 => ⟨p, _, rfl, SqL.of h1, _, rfl, rfl, ?_⟩⟩
    rw [dec_int]
    have z := k H' s1
    rw [show (((topsOf fs (lcmAll fs : Nat)).sum == ((lcmAll fs : Nat) : Int)) = decide ((topsOf fs (lcmAll fs : Nat)).sum = ((lcmAll fs : Nat) : Int))) from rfl]
    exact z
end
end Law



namespace PySem
namespace LawEnum
open AutoSeq1 (wpAny_loadPart')
theorem meets_enumerate_newT (l : Addr) (items : Array Value) (n : Nat) (dct : Option Addr) (sl : Array (Option Value)) :
    Meets (Builtin.«enumerate.__new__» ⟨[.type "enumerate", .ref l], []⟩) (fun _ R s => s.heap.get? l = some { cls := .type "tuple", dict := dct, data := .seq items n, slots := sl } ∧
      R (.ok (.ret (.ref (s.heap.push { cls := .type "tuple_iterator", data := .fields #[.ref l, .int 0 0] }).objs.size)))
        { s with heap := (s.heap.push { cls := .type "tuple_iterator", data := .fields #[.ref l, .int 0 0] }).push { cls := .type "enumerate", data := .fields #[.none, .bool false, .ref s.heap.objs.size, rawInt 0, .none, .none] } }) :=
  .of_wp fun prog w A R s h => by
    obtain ⟨hp, g, d, tk, os⟩ := s; obtain ⟨hl, h⟩ := h
    have hsub := sub_enumerate
    have hL : Heap.IsTuple (Shared.heap ⟨hp, g, d, tk, os⟩) l items := ⟨_, hl, rfl, n, rfl⟩
    wp_walk using wpAny_loadPart' hl
    refine wpAny_stack_any fun st => wpAny_pure ?_
    split
    · rename_i c _ _ _ _ _
      cases (c == Value.type "enumerate")
      · wp_walk using wpAny_loadPart' hl, wpAny_pyIter_tuple hL
        exact ⟨_, rfl, h⟩
      · wp_walk using wpAny_loadPart' hl, wpAny_pyIter_tuple hL
        exact ⟨_, rfl, h⟩
    · wp_walk using wpAny_loadPart' hl, wpAny_pyIter_tuple hL
      exact ⟨_, rfl, h⟩
section
variable {prog : Program} {w : World} {A : Around} {E : Value → Shared → Prop} {s : Shared}
theorem call_enumerate_tuple {l : Addr} {items : Array Value} {Q : Value → Shared → Prop} (hL : s.heap.IsTuple l items)
    (h : ∀ h', IsEnum h' (s.heap.objs.size + 1) s.heap.objs.size 0 .none → h'.IsTupleIter s.heap.objs.size l 0 → h'.objs.size = s.heap.objs.size + 2 →
      (∀ b o, s.heap.get? b = some o → h'.get? b = some o) → Q (.ref (s.heap.objs.size + 1)) { s with heap := h' }) :
    wpAny (model prog w) A (call (.type "enumerate") [.ref l]) Q E s := by
  obtain ⟨⟨c, dct, dt, sl⟩, hl, hc, n, hd⟩ := hL
  replace hc : c = .type "tuple" := hc
  replace hd : dt = .seq items n := hd
  subst hc hd
  refine callType_new F.called_enumerate (by decide) (F.typeCall_enumerate_1 _) (F.newCall_enumerate_1 _) (fun obj => F.args_object_init_2 obj _) F.entry_enumerate_new
    (meets_enumerate_newT l items n dct sl) ⟨hl, ?_⟩
  have hz : (s.heap.push { cls := .type "tuple_iterator", data := .fields #[.ref l, .int 0 0] }).objs.size = s.heap.objs.size + 1 := Heap.size_push ..
  show _ ∧ _
  rw [hz]
  have he : IsEnum ((s.heap.push { cls := .type "tuple_iterator", data := .fields #[.ref l, .int 0 0] }).push
      { cls := .type "enumerate", data := .fields #[.none, .bool false, .ref s.heap.objs.size, rawInt 0, .none, .none] }) (s.heap.objs.size + 1) s.heap.objs.size 0 .none := by
    have := Heap.get?_push_size (s.heap.push { cls := .type "tuple_iterator", data := .fields #[.ref l, .int 0 0] })
      (o := { cls := .type "enumerate", data := .fields #[.none, .bool false, .ref s.heap.objs.size, rawInt 0, .none, .none] }) rfl
    rw [hz] at this; exact this
  refine ⟨⟨_, he, rfl⟩, h _ he ⟨_, Heap.get?_push_of_some _ (Heap.get?_push_size _ rfl), rfl, rfl⟩ (by rw [Heap.size_push, hz]) fun b o x => Heap.get?_push_of_some _ (Heap.get?_push_of_some _ x)⟩
end
theorem draws_end {prog : Program} {w : World} {A : Around} (hh : A.handled = none) (it t : Addr) (items : Array Value) (i : Nat) (hx : items[i]? = none) :
    Draws prog w A it [it, t] 0 (fun _ _ => True) (fun _ h => h.IsTupleIter it t i ∧ h.IsTuple t items) where
  live := fun _ _ st => let ⟨o, ho, _⟩ := st.1; ⟨o, ho⟩
  frame := fun _ _ _ st hk => ⟨st.1.at fun o e => hk it (by simp) o e, st.2.at fun o e => hk t (by simp) o e⟩
  item := fun i s Q E hi st hQ => absurd hi (Nat.not_lt_zero i)
  done := fun s Q E st hE => wpAny_nextOf_tuple_end hh st.1 st.2 hx hE
end LawEnum
end PySem
namespace L2
open PySem PySem.Spec PyProof.Rows
/-- the tuple at a, item by item, each in a new pair with its number -/
def IteT (K : PySem.W.Frag) (a : Addr) : It :=
  ⟨fun i H => ∃ (xs : List V) (x : V), SqT K H a xs ∧ xs[i]? = some x, fun i H v H' => ∃ T x, v = .ref T ∧ H T = none ∧ H' = upd H T (.tup [.int (i : Nat), x]) ∧ ∀ xs, SqT K H a xs → xs[i]? = some x, fun i H => ∃ xs : List V, SqT K H a xs ∧ xs.length ≤ i⟩
theorem turn_enumT {P : Program} {w : World} {K : PySem.W.Frag} {elts : List Expr} {kk : Nat} {tpos : Pos} (a e it : Addr) :
    Turn P w K (.Tuple elts kk tpos) (IteT K a) [e, it] e (fun i h => (∃ old, IsEnum h e it ((i : Nat) : Int) old) ∧ h.IsTupleIter it a i ∧ e ≠ it ∧ a ≠ it ∧ e ≠ a) where
  mem := by simp
  obj := fun i h st b hb => by
    obtain ⟨⟨old, he⟩, ⟨o, ho, hc, hd⟩, _⟩ := st
    have e' : b = e ∨ b = it := by simpa using hb
    rcases e' with z | z
    · rw [z]; exact ⟨_, he, fun v q => nomatch q⟩
    · rw [z]; exact ⟨o, ho, fun v q => by rw [hd] at q; cases q⟩
  keep := fun i h h' st k => let ⟨⟨old, he⟩, hi, hne, h1, h2⟩ := st; ⟨⟨old, k e (by simp) _ he⟩, hi.at fun o q => k it (by simp) o q, hne, h1, h2⟩
  item := by
    intro X hP hw hK hc i pins s σ H E I hf st hg
    subst hP hw hK
    obtain ⟨⟨old, he⟩, hit, hne, hai, hea⟩ := st
    obtain ⟨xs, x, hq, hx⟩ := hg
    obtain ⟨its, rv, p, hz⟩ := I.tuple hq
    obtain ⟨u, hu, ru⟩ := rv.get hx
    have hel : e < s.heap.objs.size := Heap.lt_size he
    have hil : it < s.heap.objs.size := by obtain ⟨_, q, _⟩ := hit; exact Heap.lt_size q
    have hlt : i < its.toArray.size := by
      have z := (List.getElem?_eq_some_iff.mp hu).1
      simpa using z
    have D := Draws.tuple (prog := X.prog) (w := X.w) (A := X.A.in1) (I.ok.hd hc) it a hai its.toArray
    refine wpAny_pyNext_enum_itemD D he ⟨hit, p⟩ hlt hne (by simp [hne, hea]) fun x' h' tk hPx ho hit' hT hsz hk => ?_
    have ex : x' = u := by
      have z : its.toArray[i]? = some x' := hPx
      have z2 : its.toArray[i]? = some u := by simpa using hu
      rw [z2] at z
      exact (Option.some.inj z).symm
    subst ex
    refine ⟨_, rfl, wpAny_letOwnedTupleGo_enum (s := { s with heap := h', toks := tk + 1 }) ho fun h'' he' sb => ?_⟩
    have hT2 : h''.get? s.heap.objs.size = some { cls := .type "tuple", data := .seq #[.int i tk, x'] } := (sb.2 _ (Nat.ne_of_gt hel)).trans hT
    have new : ObjOk X.prog X.w (upd H s.heap.objs.size (.tup [.int (i : Nat), x])) h'' s.heap.objs.size (.tup [.int (i : Nat), x]) :=
      ⟨by show 2 ≤ sizeLine; decide, [.int i tk, x'], .cons ⟨_, rfl⟩ (.cons ru .nil), ⟨_, hT2, rfl, _, rfl⟩⟩
    have I1 : Inv X pins σ (upd H s.heap.objs.size (.tup [.int (i : Nat), x])) { s with heap := h'', toks := tk + 1 } :=
      I.turnedNew (ch := [e, it]) (fun b ob hb q => (sb.2 b (fun z => hb (by simp [z]))).trans (hk b ob (fun z => hb (by simp [z])) (fun z => hb (by simp [z])) q)) hf (Nat.le_refl _) new
    refine ⟨.ref s.heap.objs.size, _, I1, rfl, ⟨_, x, rfl, I.hok.fresh (Nat.le_refl _), rfl, fun ys hy => by rw [I.tuple_inj hy hq]; exact hx⟩, ⟨⟨x', ?_⟩, hit'.1.at fun o q => (sb.2 it (Ne.symm hne)).trans q, hne, hai, hea⟩, fun b hb => ?_⟩
    · have e1 : ((i + 1 : Nat) : Int) = (i : Int) + 1 := by omega
      rw [e1]; exact he'
    · have hb' : b < s.heap.objs.size := by
        have e' : b = e ∨ b = it := by simpa using hb
        rcases e' with z | z
        · rw [z]; exact hel
        · rw [z]; exact hil
      rw [upd_ne (Nat.ne_of_lt hb')]
      exact (hf b hb).1
  done := by
    intro X hP hw hK hc i pins s σ H E I hf st hg
    subst hP hw hK
    obtain ⟨⟨old, he⟩, hit, hne, hai, hea⟩ := st
    obtain ⟨xs, hq, hx⟩ := hg
    obtain ⟨its, rv, p, hz⟩ := I.tuple hq
    obtain ⟨f0, f1, f2, f3, f4, f5⟩ := hf it (by simp)
    have hl := rv.length
    have D := LawEnum.draws_end (prog := X.prog) (w := X.w) (A := X.A.in1) (I.ok.hd hc) it a its.toArray i (by simp; omega)
    exact wpAny_pyNext_enum_endD D he ⟨hit, p⟩ fun h' eb => ⟨rfl, I.turned (t' := s.toks) (fun b o hb q => eb b o hb q) f0 f1 f3 f4 f5⟩
  self := fun A i s Q E st h => let ⟨⟨_, he⟩, _⟩ := st; wpAny_pyIter_enum he h
def iEnumT (K : PySem.W.Frag) (ta : TA) : TI := fun σ H R => ta σ H fun vs H1 => ∃ a xs, vs = [.ref a] ∧ SqT K H1 a xs ∧ R (IteT K a) H1
theorem pi_enumT {X : Cx} {e : Expr} {ta : TA} {p pos tpos : Pos} {elts : List Expr} {kk : Nat} (hg : Gl X "enumerate") (hm : X.mg "enumerate" = none) (ha : PA X [e] ta) (hs : starEach [e] X.env = [(false, eval e X.env)] := by rfl) :
    PI X (.Tuple elts kk tpos) (.Call (.Name "enumerate" p) [e] [] pos) (iEnumT X.K ta) := by
  refine ⟨fun pins s σ H R I h => ?_⟩
  refine Call_ (ld_blt I hg hm boot_enumerate (PyProof.Rows.callWith_type1 (thn (ha.run pos pins s σ H _ I h) fun us s1 ⟨vs, H1, I1, r1, q1⟩ => ?_) hs rfl))
  obtain ⟨a, xs, ex, hq, q⟩ := q1
  subst ex
  cases r1 with
  | cons r rr =>
    cases rr
    cases r
    obtain ⟨its, rv, p', hz⟩ := I1.tuple hq
    have hal : a < s1.heap.objs.size := by obtain ⟨o, ho, _⟩ := p'; exact Heap.lt_size ho
    refine LawEnum.call_enumerate_tuple p' fun h' he hit hsz hk => wpAny_pyIter_enum he ?_
    have I2 : Inv X pins σ H1 { s1 with heap := h' } := I1.kept (t' := s1.toks) hk
    refine ⟨s1.heap.objs.size + 1, [s1.heap.objs.size + 1, s1.heap.objs.size], _, _, H1, rfl, I2, turn_enumT a (s1.heap.objs.size + 1) s1.heap.objs.size, ⟨⟨.none, he⟩, hit, Nat.succ_ne_self _, Nat.ne_of_lt hal, Nat.ne_of_gt (Nat.lt_succ_of_lt hal)⟩, fun b hb => ?_, q⟩
    have e' : b = s1.heap.objs.size + 1 ∨ b = s1.heap.objs.size := by simpa using hb
    have hle : s1.heap.objs.size ≤ b := by
      rcases e' with z | z
      · rw [z]; exact Nat.le_add_right _ _
      · rw [z]; exact Nat.le_refl _
    exact I1.fpOk hle (I1.hok.fresh hle)
theorem walk_enumT {K : PySem.W.Frag} {a : Addr} {xs : List V} : Walk (IteT K a) xs.length (fun H => SqT K H a xs) (fun i H v H' => ∃ T x, v = .ref T ∧ H T = none ∧ H' = upd H T (.tup [.int (i : Nat), x]) ∧ xs[i]? = some x) where
  goes := fun i H hi h => ⟨xs, xs[i], h, List.getElem?_eq_getElem hi⟩
  stops := fun H h => ⟨xs, h, Nat.le_refl _⟩
  yields := fun i H x H' hi h ⟨T, y, h1, h2, h3, h4⟩ => ⟨T, y, h1, h2, h3, h4 xs h⟩
end L2

namespace Law
open PySem L2
/-! ### data: ints, tuples of ints, moves -/
def tupD (l : List Int) : PyData := .tuple (l.map .int)
def frD (f : Fr) : PyData := .tuple [.int f.1, .int f.2]
abbrev Mv := Fr × List Int
def mvD (m : Mv) : PyData := .tuple [frD m.1, tupD m.2]
def mvsD (ms : List Mv) : PyData := .tuple (ms.map mvD)
theorem eqvAll_map {α : Type} [DecidableEq α] (g : α → PyData) (hg : ∀ a b, PyData.eqv (g a) (g b) = decide (a = b)) : ∀ xs ys : List α, PyData.eqvAll (xs.map g) (ys.map g) = decide (xs = ys)
  | [], [] => by simp [PyData.eqvAll]
  | [], _ :: _ => by simp [PyData.eqvAll]
  | _ :: _, [] => by simp [PyData.eqvAll]
  | x :: xs, y :: ys => by
    rw [List.map_cons, List.map_cons, PyData.eqvAll, hg, eqvAll_map g hg xs ys]
    by_cases h1 : x = y <;> by_cases h2 : xs = ys <;> simp [h1, h2]
theorem eqv_int (a b : Int) : PyData.eqv (.int a) (.int b) = decide (a = b) := by
  rw [PyData.eqv]
  rfl
theorem eqv_tupD (a b : List Int) : PyData.eqv (tupD a) (tupD b) = decide (a = b) := by
  unfold tupD
  rw [PyData.eqv]
  exact eqvAll_map PyData.int eqv_int a b
theorem eqv_frD (a b : Fr) : PyData.eqv (frD a) (frD b) = decide (a = b) := by
  obtain ⟨a1, a2⟩ := a
  obtain ⟨b1, b2⟩ := b
  unfold frD
  rw [PyData.eqv, PyData.eqvAll, PyData.eqvAll, PyData.eqvAll, eqv_int, eqv_int]
  by_cases h1 : a1 = b1 <;> by_cases h2 : a2 = b2 <;> simp [h1, h2]
theorem eqv_mvD (a b : Mv) : PyData.eqv (mvD a) (mvD b) = decide (a = b) := by
  obtain ⟨a1, a2⟩ := a
  obtain ⟨b1, b2⟩ := b
  unfold mvD
  rw [PyData.eqv, PyData.eqvAll, PyData.eqvAll, PyData.eqvAll, eqv_frD, eqv_tupD]
  by_cases h1 : a1 = b1 <;> by_cases h2 : a2 = b2 <;> simp [h1, h2]
theorem eqv_mvsD (a b : List Mv) : PyData.eqv (mvsD a) (mvsD b) = decide (a = b) := by
  unfold mvsD
  rw [PyData.eqv]
  exact eqvAll_map mvD eqv_mvD a b
theorem lay_all {α : Type} (g : α → PyData) (n : Nat) (hg : ∀ a, (g a).canLay0 = true ∧ (g a).depth ≤ n) : ∀ xs : List α, PyData.canLayAll0 (xs.map g) = true ∧ PyData.depthAll (xs.map g) ≤ n
  | [] => by simp [PyData.canLayAll0, PyData.depthAll]
  | x :: xs => by
    obtain ⟨h1, h2⟩ := hg x
    obtain ⟨h3, h4⟩ := lay_all g n hg xs
    rw [List.map_cons, PyData.canLayAll0, PyData.depthAll, h1, h3]
    exact ⟨rfl, Nat.max_le.mpr ⟨h2, h4⟩⟩
theorem lay_int (a : Int) : (PyData.int a).canLay0 = true ∧ (PyData.int a).depth ≤ 0 := by simp [PyData.canLay0, PyData.depth]
theorem lay_tupD (a : List Int) : (tupD a).canLay0 = true ∧ (tupD a).depth ≤ 1 := by
  have h := lay_all PyData.int 0 lay_int a
  unfold tupD
  rw [PyData.canLay0, PyData.depth]
  exact ⟨h.1, by omega⟩
theorem lay_frD (a : Fr) : (frD a).canLay0 = true ∧ (frD a).depth ≤ 1 := by simp [frD, PyData.canLay0, PyData.canLayAll0, PyData.depth, PyData.depthAll]
theorem lay_mvD (a : Mv) : (mvD a).canLay0 = true ∧ (mvD a).depth ≤ 2 := by
  have h1 := lay_frD a.1
  have h2 := lay_tupD a.2
  unfold mvD
  rw [PyData.canLay0, PyData.canLayAll0, PyData.canLayAll0, PyData.canLayAll0, PyData.depth, PyData.depthAll, PyData.depthAll, PyData.depthAll, h1.1, h2.1]
  exact ⟨rfl, by omega⟩
theorem lay_mvsD (a : List Mv) : (mvsD a).canLay0 = true ∧ (mvsD a).depth ≤ 3 := by
  have h := lay_all mvD 2 lay_mvD a
  unfold mvsD
  rw [PyData.canLay0, PyData.depth]
  exact ⟨h.1, by omega⟩
theorem shaped_of {d : PyData} {n : Nat} (h : d.canLay0 = true ∧ d.depth ≤ n) (hn : n ≤ 64) : SeqAt.shaped d = true := by
  unfold SeqAt.shaped
  rw [h.1, Bool.true_and, decide_eq_true (Nat.le_trans h.2 hn)]
theorem dp_ints {K : PySem.W.Frag} {H : Hp} : ∀ l : List Int, DpAll K H (l.map V.int) (l.map PyData.int)
  | [] => .nil
  | x :: l => .cons (.int x) (dp_ints l)
/-! ### moves and systems -/
def MvAt (K : PySem.W.Frag) (H : Hp) (v : V) (m : Mv) : Prop := ∃ a s l, v = .ref a ∧ SqT K H a [.ref s, .ref l] ∧ SqT K H s [.int m.1.1, .int m.1.2] ∧ SqT K H l (m.2.map V.int)
def MvsIn (K : PySem.W.Frag) (H : Hp) (vs : List V) (ms : List Mv) : Prop := vs.length = ms.length ∧ ∀ (i : Nat) (v : V), vs[i]? = some v → ∃ m, ms[i]? = some m ∧ MvAt K H v m
def MvsAt (K : PySem.W.Frag) (H : Hp) (a : Addr) (ms : List Mv) : Prop := ∃ vs, SqT K H a vs ∧ MvsIn K H vs ms
theorem MvAt.same {K : PySem.W.Frag} {H H' : Hp} {v : V} {m : Mv} (e : Same H H') (h : MvAt K H v m) : MvAt K H' v m := by
  obtain ⟨a, s, l, h1, h2, h3, h4⟩ := h
  exact ⟨a, s, l, h1, e.sqT h2, e.sqT h3, e.sqT h4⟩
theorem MvsIn.same {K : PySem.W.Frag} {H H' : Hp} {vs : List V} {ms : List Mv} (e : Same H H') (h : MvsIn K H vs ms) : MvsIn K H' vs ms := ⟨h.1, fun i v hv => by
  obtain ⟨m, h1, h2⟩ := h.2 i v hv
  exact ⟨m, h1, h2.same e⟩⟩
theorem MvsAt.same {K : PySem.W.Frag} {H H' : Hp} {a : Addr} {ms : List Mv} (e : Same H H') (h : MvsAt K H a ms) : MvsAt K H' a ms := by
  obtain ⟨vs, h1, h2⟩ := h
  exact ⟨vs, e.sqT h1, h2.same e⟩
theorem dp_mv {K : PySem.W.Frag} {H : Hp} {v : V} {m : Mv} (h : MvAt K H v m) : Dp K H v (mvD m) := by
  obtain ⟨a, s, l, rfl, h2, h3, h4⟩ := h
  exact .tup h2 (.cons (.tup h3 (.cons (.int _) (.cons (.int _) .nil))) (.cons (.tup h4 (dp_ints _)) .nil))
theorem dp_mvs {K : PySem.W.Frag} {H : Hp} : ∀ {vs : List V} {ms : List Mv}, MvsIn K H vs ms → DpAll K H vs (ms.map mvD)
  | [], [], _ => .nil
  | [], _ :: _, h => absurd h.1 (by simp)
  | _ :: _, [], h => absurd h.1 (by simp)
  | v :: vs, m :: ms, h => by
    obtain ⟨m', e, hm⟩ := h.2 0 v rfl
    cases e
    exact .cons (dp_mv hm) (dp_mvs ⟨by simpa using h.1, fun i x hx => h.2 (i + 1) x (by simpa using hx)⟩)
theorem dp_mvsAt {K : PySem.W.Frag} {H : Hp} {a : Addr} {ms : List Mv} (h : MvsAt K H a ms) : Dp K H (.ref a) (mvsD ms) := by
  obtain ⟨vs, h1, h2⟩ := h
  exact .tup h1 (dp_mvs h2)
def MvOk (many : Nat) (m : Mv) : Prop := FrOk m.1 ∧ 0 < m.1.1 ∧ Nat.gcd m.1.1.natAbs m.1.2.natAbs = 1 ∧ m.2.length = many ∧ ∀ x ∈ m.2, 0 ≤ x ∧ x < (many : Int)
abbrev OneOk (fs : List Fr) : Prop := (topsOf fs (lcmAll fs : Nat)).sum = ((lcmAll fs : Nat) : Int)
structure SysOk (many : Nat) (ms : List Mv) : Prop where
  m1 : 1 ≤ many
  m2 : many ≤ 12
  l1 : 1 ≤ ms.length
  l2 : ms.length ≤ 24
  mv : ∀ m ∈ ms, MvOk many m
  one : OneOk (ms.map (·.1))
theorem nMM : ¬ (("many" : Str) = "moves") := by decide +kernel
def sysF (many : Nat) (mv : Addr) : List (Str × V) := putF "moves" (.ref mv) (putF "many" (.int (many : Int)) [])
theorem sysF_eq (many : Nat) (mv : Addr) : sysF many mv = ([("many", V.int (many : Int)), ("moves", V.ref mv)] : List (Str × V)) := by
  show (if ("many" : Str) = "moves" then [(("many" : Str), V.ref mv)] else (("many" : Str), V.int (many : Int)) :: putF "moves" (V.ref mv) []) = _
  rw [if_neg nMM] <;> rfl
theorem sysF_many (many : Nat) (mv : Addr) : (sysF many mv).lookup ("many" : Str) = some (.int (many : Int)) := by
  unfold sysF
  rw [lookup_putF, if_neg nMM, lookup_putF, if_pos rfl]
theorem sysF_moves (many : Nat) (mv : Addr) : (sysF many mv).lookup ("moves" : Str) = some (.ref mv) := by
  unfold sysF
  rw [lookup_putF, if_pos rfl]
/-- a System stands at p -/
def SysAt (K : PySem.W.Frag) (C : Addr) (H : Hp) (p : Addr) (many : Nat) (ms : List Mv) : Prop := ∃ dx mv, H p = some (.ins C dx (sysF many mv)) ∧ MvsAt K H mv ms
theorem SysAt.same {K : PySem.W.Frag} {C : Addr} {H H' : Hp} {p : Addr} {many : Nat} {ms : List Mv} (e : Same H H') (h : SysAt K C H p many ms) : SysAt K C H' p many ms := by
  obtain ⟨dx, mv, h1, h2⟩ := h
  exact ⟨dx, mv, e _ _ h1, h2.same e⟩
/-- the class System, as the top has made it -/
structure SysT (K : PySem.W.Frag) (mg : Str → Option Value) (C : Addr) : Prop where
  cl : Cls K C
  nK : NoAttr K C "many"
  nM : NoAttr K C "moves"
  mgC : mg "System" = some (.ref C)
  ha : PySem.W.findIn K (.ref C) "__class__" = some (some (.builtin "object.__class__"))
  hn : PySem.W.specialIn K (.builtin "object.__class__") "__get__" = some (some (.builtin "getset_descriptor.__get__"))
  ht : PySem.W.takesIn K (.builtin "object.__class__") = some true
  hm : PySem.W.mroIn K C (.type "object") = some true
theorem SysAt.ty {K : PySem.W.Frag} {mg : Str → Option Value} {C : Addr} {H : Hp} {p : Addr} {many : Nat} {ms : List Mv} (T : SysT K mg C) (h : SysAt K C H p many ms) : TyX K H (.ref p) (.ref C) := by
  obtain ⟨dx, mv, h1, _⟩ := h
  exact .base (.ins h1 T.cl T.ha T.hn T.ht T.hm)
theorem kit_self {K : PySem.W.Frag} {v : Value} (h : (v == v) = true) : PySem.W.kitOne K v v = some true := by
  unfold PySem.W.kitOne
  rw [if_pos h]
theorem at0 (x y : V) : atI [x, y] (0 : Int) = some x := by
  unfold atI
  rw [show ixN [x, y].length (0 : Int) = some 0 from Evl.ixN_nat (n := 2) (j := 0) (by decide)]
  rfl
section
variable {P : Program} {w : World} {K : PySem.W.Frag} {mg : Str → Option Value} {base : Heap}
def spMove (K : PySem.W.Frag) : Sp := fun vs H Q _ => ∃ (many : Nat) (v : V) (m : Mv), vs = [.int (many : Int), v] ∧ many ≤ 12 ∧ MvAt K H v m ∧ MvOk many m ∧ ∀ H', Same H H' → Q (.bl true) H'
theorem scMove : FnScope ["many", "thing", "share", "leads"] ["many", "thing"] (defScope s_is_move) := ⟨rfl, rfl, rfl, by decide +kernel, rfl, by decide +kernel, by decide +kernel⟩
theorem ok_move {f fF fR : Addr} {fd fdF fdR : FuncData} (F : Fun K "is_move" "is_move" s_is_move f fd) (T : NmA mg) (G : Cl P w K mg base CX0 2 "is_fraction" fF fdF ["thing"] (spFrac K))
    (R : Cl P w K mg base CX0 3 "is_row_below" fR fdR ["bound", "thing"] (spRowB K)) : FnOk P w K mg base CX0 4 f fd ["many", "thing"] (spMove K) := by
  refine F.ok scMove (fun vs H Q E h => ?_) (fun cdv A outer s H vs Q E hr h => ?_)
  · obtain ⟨many, v, m, rfl, _⟩ := h
    rfl
  · obtain ⟨many, v, m, rfl, h12, ⟨a, t, l, rfl, hA, hT, hL⟩, ⟨⟨f1, f2, f3⟩, f4, f5, f6, f7⟩, k⟩ := h
    refine ⟨_, pss_cons (ps_if (PW.pt (pw_or (pt_not (pt_val (pe_callB call_isi (by rfl) T.isi (by decide +kernel) (pa_cons (pv 1) (pa_cons (pe_bltn (v := .ty "tuple") (u := .type "tuple") (by rfl) T.tuple (by decide +kernel) rfl) pa_nil)))))
        (pw_or1 (pt_cmpR op_ne (pe_callB call_len_seq (by rfl) T.len PySem.boot_len (pa_cons (pv 1) pa_nil)) pe_int (nomark _))))) (pss_one (ps_ret pe_bl)) pss_nil)
      (pss_cons (ps_asg (pv 1) (pg_tup (by rfl) (pgs_cons (pg_name (i := 2) scMove.nd rfl (Or.inl rfl)) (pgs_cons (pg_name (i := 3) scMove.nd rfl (Or.inl rfl)) pgs_nil))))
      (pss_one (ps_ret (pe_and (G.call (hr.mono (by decide)) (pa_cons (pv 2) pa_nil)) (pe_and (pe_cmpR op_gt (pe_ix ix_tup (pv 2) pe_int (fun _ _ => rfl)) pe_int (nomark _)) (pe_and (R.call hr (pa_cons (pv 0) (pa_cons (pv 3) pa_nil)))
        (pe_one (pe_cmpR op_eq (pe_callB call_len_seq (by rfl) T.len PySem.boot_len (pa_cons (pv 3) pa_nil)) (pv 0) (nomark _))))))))), ?_⟩
    refine ⟨_, rfl, _, _, _, _, _, rfl, .ty "tuple", tyx_tup hA, kit_tt, _, rfl, ?_⟩
    refine iteF ⟨_, rfl, a, _, rfl, .inr hA, rfl, _, rfl, iteF ?_⟩
    refine ⟨_, rfl, a, _, rfl, hA, rfl, _, _, rfl, _, _, rfl, rfl, ?_⟩
    refine ⟨_, rfl, t, _, _, rfl, hT, _, rfl, ?_⟩
    rw [decide_eq_true f1, f5]
    refine iteT ⟨_, rfl, t, _, _, _, rfl, rfl, hT, at0 _ _, _, _, rfl, rfl, _, rfl, ?_⟩
    rw [decide_eq_true f4]
    refine iteT ⟨_, rfl, _, rfl, _, l, _, rfl, hL, ?_, ?_, fun H' s1 => ⟨_, rfl, ?_⟩⟩
    · rw [List.length_map]
      omega
    · intro x hx
      obtain ⟨i, _, rfl⟩ := List.mem_map.mp hx
      exact ⟨i, rfl⟩
    · have hall : (m.2.map V.int).all (isW 0 ((many : Int) - 1)) = true := by
        rw [List.all_eq_true]
        intro x hx
        obtain ⟨i, hi, rfl⟩ := List.mem_map.mp hx
        obtain ⟨g1, g2⟩ := f7 i hi
        show (decide (0 ≤ i) && decide (i ≤ (many : Int) - 1)) = true
        rw [decide_eq_true g1, decide_eq_true (show i ≤ (many : Int) - 1 by omega)] <;> rfl
      rw [hall]
      refine iteT ⟨_, rfl, l, _, rfl, .inr (s1.sqT hL), _, rfl, rfl, ?_⟩
      rw [List.length_map, f6, decide_eq_true rfl]
      exact k H' s1
def spSInit (K : PySem.W.Frag) (C : Addr) : Sp := fun vs H Q _ => ∃ (p dx : Addr) (many : Nat) (mv : Addr) (ms : List Mv), vs = [.ref p, .int (many : Int), .ref mv] ∧ H p = some (.ins C dx []) ∧ MvsAt K H mv ms ∧ SysOk many ms ∧
  ∀ H', (∀ b o, b ≠ p → H b = some o → H' b = some o) → H' p = some (.ins C dx (sysF many mv)) → Q .non H'
theorem scSInit : FnScope ["self", "many", "moves", "number", "move", "share", "_"] ["self", "many", "moves"] (defScope s_System_init) := ⟨rfl, rfl, rfl, by decide +kernel, rfl, by decide +kernel, by decide +kernel⟩
theorem ok_sinit {f C fW fM fO : Addr} {fd fdW fdM fdO : FuncData} (F : Fun K "__init__" "System.__init__" s_System_init f fd) (T : NmA mg) (S : SysT K mg C) (W : Cl P w K mg base CX0 2 "is_within" fW fdW ["low", "high", "thing"] (spWithin K))
    (M : Cl P w K mg base CX0 4 "is_move" fM fdM ["many", "thing"] (spMove K)) (O : Cl P w K mg base CX0 2 "are_one_together" fO fdO ["fractions"] (spOne K)) : FnOk P w K mg base CX0 5 f fd ["self", "many", "moves"] (spSInit K C) := by
  refine F.ok scSInit (fun vs H Q E h => ?_) (fun cdv A outer s H vs Q E hr h => ?_)
  · obtain ⟨p, dx, many, mv, ms, rfl, _⟩ := h
    rfl
  · obtain ⟨p, dx, many, mv, ms, rfl, hp, ⟨vs, hV, hM⟩, ok, k⟩ := h
    have hvl : vs.length = ms.length := hM.1
    refine ⟨_, pss_cons (ps_if (pt_not (pt_val (W.call (hr.mono (by decide)) (pa_cons pe_int (pa_cons pe_int (pa_cons (pv 1) pa_nil)))))) pss_never pss_nil)
      (pss_cons (ps_if (PW.pt (pw_or (pt_not (pt_val (pe_callB call_isi (by rfl) T.isi (by decide +kernel) (pa_cons (pv 2) (pa_cons (pe_bltn (v := .ty "tuple") (u := .type "tuple") (by rfl) T.tuple (by decide +kernel) rfl) pa_nil)))))
        (pw_or1 (pt_not (pt_chain op_le op_le pe_int (pe_callB call_len_seq (by rfl) T.len PySem.boot_len (pa_cons (pv 2) pa_nil)) pe_int))))) pss_never pss_nil)
      (pss_cons (ps_for PassesOwn.never rfl (pi_enumT (by rfl) T.enum (pa_cons (pv 2) pa_nil)) (pg_tup (by rfl) (pgs_cons (pg_name (i := 3) scSInit.nd rfl (Or.inl rfl)) (pgs_cons (pg_name (i := 4) scSInit.nd rfl (Or.inl rfl)) pgs_nil)))
        (pss_one (ps_if (pt_not (pt_val (M.call hr (pa_cons (pv 1) (pa_cons (pv 4) pa_nil))))) pss_never pss_nil)))
      (pss_cons (ps_if (pt_not (pt_val (O.call (hr.mono (by decide)) (pa_cons (pe_lc (own := [("share", 5), ("_", 6)]) (g := gTup K 2 (gCons (gName 5) (gCons (gName 6) gNil))) (tt := tYes) rfl scSInit.nd (pi_tup (pv 2))
          (blkOk_by (own := [("share", 5), ("_", 6)]) (N := ["self", "many", "moves", "number", "move", "share", "_"]) (sc := defScope s_System_init) (by decide +kernel))
          (fun _ _ _ _ _ => pg_tup (by rfl) (pgs_cons (pg_name (i := 5) scSInit.nd rfl (Or.inl rfl)) (pgs_cons (pg_name (i := 6) scSInit.nd rfl (Or.inl rfl)) pgs_nil))) (fun _ _ _ _ _ => pts_nil) (fun _ _ _ _ _ => pv 5)) pa_nil)))) pss_never pss_nil)
      (pss_cons (ps_fld (pv 0) (pv 1) rfl) (pss_one (ps_fld (pv 0) (pv 2) rfl)))))), ?_⟩
    -- is_within(1, 12, many)
    refine ⟨_, rfl, 1, 12, _, rfl, .inl ⟨(many : Int), rfl, _, rfl, ?_⟩⟩
    rw [decide_eq_true (show (1 : Int) ≤ (many : Int) by have := ok.m1; omega), decide_eq_true (show (many : Int) ≤ 12 by have := ok.m2; omega)]
    -- isinstance(moves, tuple), 1 <= len(moves) <= 24
    refine iteF ⟨_, rfl, _, _, _, _, _, rfl, .ty "tuple", tyx_tup hV, kit_tt, _, rfl, iteF ⟨_, rfl, mv, _, rfl, .inr hV, _, _, rfl, rfl, _, rfl, ?_⟩⟩
    rw [decide_eq_true (show (1 : Int) ≤ ((vs.length : Nat) : Int) by have := ok.l1; omega)]
    refine iteT ⟨_, _, rfl, rfl, _, rfl, ?_⟩
    rw [decide_eq_true (show ((vs.length : Nat) : Int) ≤ 24 by have := ok.l2; omega)]
    refine iteF ?_
    -- for number, move in enumerate(moves)
    refine ⟨_, rfl, mv, vs, rfl, hV, for_it walk_enumT (fun i σ H' => Same H H' ∧ ∃ u v : Option V, σ = [some (.ref p), some (.int (many : Int)), some (.ref mv), u, v, none, none]) ⟨Same.refl H, none, none, rfl⟩ (fun i σ H' _ h => h.1.sqT hV) ?_ ?_⟩
    · rintro i x σ H1 H2 hi ⟨s1, u, v, rfl⟩ ⟨t, y, rfl, ht, rfl, hy⟩
      obtain ⟨m, hm, hA⟩ := hM.2 i y hy
      have s2 : Same H (upd H1 t (.tup [.int (i : Nat), y])) := fun b o e => Same.new ht b o (s1 b o e)
      refine ⟨t, _, rfl, SqT.of upd_same, rfl, _, _, rfl, _, _, rfl, rfl, ?_⟩
      refine ⟨_, rfl, _, rfl, many, _, m, rfl, ok.m2, hA.same s2, ok.mv m (List.mem_of_getElem? hm), fun H3 s3 => ⟨_, rfl, iteF ⟨s2.trans s3, _, _, rfl⟩⟩⟩
    · rintro σ H1 ⟨s1, u, v, rfl⟩
      -- the shares
      refine ⟨_, rfl, mv, rfl, ⟨_, s1.sqT hV⟩, fun D hD => ?_⟩
      refine lc_tup (K := K) (a := mv) (xs := vs) (fun i H' => Same H1 H' ∧ ∃ acc, H' D = some (.lst acc) ∧ FrsIn K H' acc ((ms.take i).map (·.1))) ⟨Same.new hD, [], upd_same, rfl, fun i v hv => by simp at hv⟩ (fun i H' _ h => (s1.trans h.1).sqT hV) ?_ ?_
      · rintro i x H2 hi ⟨s2, acc, h1, h2⟩
        obtain ⟨m, hm, a, t, l, rfl, hA, hT, hL⟩ := hM.2 i x hi
        have hil : i < ms.length := (List.getElem?_eq_some_iff.mp hm).1
        have s3 := s1.trans s2
        have hz : acc.length = i := by
          have z := h2.1
          rw [List.length_map, List.length_take] at z
          omega
        refine ⟨a, _, rfl, s3.sqT hA, rfl, _, _, rfl, _, _, rfl, rfl, ?_⟩
        have s4 : Same H1 (upd H2 D (.lst (acc ++ [.ref t]))) := s2.mut hD
        refine ⟨rfl, _, rfl, acc, h1, small1000 (by have := ok.l2; omega), s4, _, upd_same, ?_, fun j v hj => ?_⟩
        · rw [List.length_append, List.length_map, List.length_take]
          simp
          omega
        · by_cases hji : j < acc.length
          · rw [List.getElem?_append_left hji] at hj
            obtain ⟨f, g1, g2⟩ := h2.2 j v hj
            obtain ⟨q, g3, g4⟩ := g2
            refine ⟨f, ?_, q, g3, ?_⟩
            · rw [List.take_add_one, hm]
              simp only [Option.toList, List.map_append]
              rw [List.getElem?_append_left (by rw [List.length_map, List.length_take]; omega)]
              exact g1
            · rcases g4 with (z | ⟨o, z⟩) | z
              · refine .inl (.inl ?_)
                rw [upd_ne (ne_of z h1 (by intro y; cases y))]
                exact z
              · refine .inl (.inr ⟨o, ?_⟩)
                rw [upd_ne (ne_of z h1 (by intro y; cases y))]
                exact z
              · exact .inr z
          · have e : j = acc.length := by
              have z := (List.getElem?_eq_some_iff.mp hj).1
              rw [List.length_append] at z
              simp at z
              omega
            subst e
            rw [List.getElem?_append_right (Nat.le_refl _), Nat.sub_self] at hj
            have ev : V.ref t = v := Option.some.inj hj
            refine ⟨m.1, ?_, t, ev.symm, s4.sqT (s1.sqT hT)⟩
            rw [List.take_add_one, hm, hz]
            simp only [Option.toList, List.map_append]
            rw [List.getElem?_append_right (by rw [List.length_map, List.length_take]; omega), List.length_map, List.length_take, show i - min i ms.length = 0 by omega]
            rfl
      · rintro H2 ⟨s2, acc, h1, h2⟩
        rw [hvl, List.take_length] at h2
        refine ⟨D, ms.map (·.1), rfl, ⟨acc, SqL.of h1, h2⟩, by rw [List.length_map]; exact ok.l2, ?_, fun H3 s3 => ⟨_, rfl, ?_⟩⟩
        · intro f hf
          obtain ⟨m, hm, rfl⟩ := List.mem_map.mp hf
          exact (ok.mv m hm).1
        rw [decide_eq_true ok.one]
        have s4 := (s1.trans s2).trans s3
        refine iteF ⟨_, rfl, _, rfl, p, C, dx, [], rfl, s4 _ _ hp, S.cl, S.nK, (by show 0 < 1000; decide), _, rfl, _, rfl, p, C, dx, _, rfl, upd_same, S.cl, S.nM, (by show 1 < 1000; decide), ?_⟩
        rw [upd_upd]
        exact k _ (fun b o n e => by rw [upd_ne n]; exact s4 b o e) upd_same
def spSEq (K : PySem.W.Frag) (C : Addr) : Sp := fun vs H Q _ => ∃ (p q : Addr) (m1 m2 : Nat) (ms1 ms2 : List Mv), vs = [.ref p, .ref q] ∧ SysAt K C H p m1 ms1 ∧ SysAt K C H q m2 ms2 ∧ Q (.bl (decide (m1 = m2) && decide (ms1 = ms2))) H
theorem scSEq : FnScope ["self", "other"] ["self", "other"] (defScope s_System_eq) := ⟨rfl, rfl, rfl, by decide +kernel, rfl, by decide +kernel, by decide +kernel⟩
theorem ok_seq {f C : Addr} {fd : FuncData} (F : Fun K "__eq__" "System.__eq__" s_System_eq f fd) (T : NmA mg) (S : SysT K mg C) : FnOk P w K mg base CX0 1 f fd ["self", "other"] (spSEq K C) := by
  refine F.ok scSEq (fun vs H Q E h => ?_) (fun cdv A outer s H vs Q E hr h => ?_)
  · obtain ⟨p, q, m1, m2, ms1, ms2, rfl, _⟩ := h
    rfl
  · obtain ⟨p, q, m1, m2, ms1, ms2, rfl, h1, h2, k⟩ := h
    obtain ⟨d1, v1, a1, b1⟩ := id h1
    obtain ⟨d2, v2, a2, b2⟩ := id h2
    refine ⟨_, pss_one (ps_ret (pe_and (pe_callB call_isi (by rfl) T.isi (by decide +kernel) (pa_cons (pv 1) (pa_cons (pe_glob (v := .ref C) (u := .ref C) rfl S.mgC rfl) pa_nil)))
      (pe_and (pe_cmpR op_eq (pe_fld (pv 0) rfl) (pe_fld (pv 1) rfl) (nomark _)) (pe_one (pe_cmpR (op_eqD hr.units) (pe_fld (pv 0) rfl) (pe_fld (pv 1) rfl) (nomark _)))))), ?_⟩
    refine ⟨_, rfl, _, _, _, _, _, rfl, .own C, h2.ty S, kit_self (by simp), _, rfl, iteT ?_⟩
    refine ⟨_, rfl, p, C, d1, _, _, rfl, a1, S.cl, S.nK, sysF_many _ _, _, rfl, q, C, d2, _, _, rfl, a2, S.cl, S.nK, sysF_many _ _, rfl, _, rfl, ?_⟩
    have e1 : decide (V.int (m1 : Int) = V.int (m2 : Int)) = decide (m1 = m2) := by
      by_cases e : m1 = m2
      · subst e
        rw [decide_eq_true rfl, decide_eq_true rfl]
      · rw [decide_eq_false e, decide_eq_false (fun z => e (by have := V.int.inj z; omega))]
    rw [e1]
    refine ite2 (fun h => ?_) (fun h => ?_)
    · refine ⟨_, rfl, p, C, d1, _, _, rfl, a1, S.cl, S.nM, sysF_moves _ _, _, rfl, q, C, d2, _, _, rfl, a2, S.cl, S.nM, sysF_moves _ _, mvsD ms1, mvsD ms2, dp_mvsAt b1, dp_mvsAt b2, shaped_of (lay_mvsD _) (by decide), shaped_of (lay_mvsD _) (by decide), ?_⟩
      rw [eqv_mvsD]
      rw [h, Bool.true_and] at k
      exact k
    · rw [Bool.not_eq_true] at h
      rw [h, Bool.false_and] at k
      exact k
end
end Law

namespace L2
open PySem PySem.Spec PyProof.Rows HT
/-! ### t[::-1] of a tuple; set(xs) and len(set(xs)) of a list of ints -/
theorem places_rev (n : Nat) : Builtin.Slice.slicePlaces ((n : Int) - 1) (-1) (-1) = n := by
  unfold Builtin.Slice.slicePlaces
  have h1 : ¬ ((-1 : Int) > 0) := by decide
  simp only [h1, if_false]
  by_cases h : (n : Int) - 1 > -1
  · simp only [h, if_true]
    rw [show (- -1 : Int) = 1 by decide, Int.ediv_one]
    omega
  · simp only [h, if_false]
    omega
theorem adjust_rev (n : Nat) : Builtin.Slice.sliceAdjust none none (-1) (n : Int) = ((n : Int) - 1, -1) := by
  first
  | rfl
  | simp [Builtin.Slice.sliceAdjust]
theorem fmap_congr {α β : Type} {f g : α → Option β} : ∀ l : List α, (∀ a ∈ l, f a = g a) → l.filterMap f = l.filterMap g
  | [], _ => rfl
  | a :: l, h => by rw [List.filterMap_cons, List.filterMap_cons, h a List.mem_cons_self, fmap_congr l fun b hb => h b (List.mem_cons_of_mem _ hb)]
theorem pick_rev (xs : Array Value) : ((List.range xs.size).filterMap fun (m : Nat) => xs[(((xs.size : Nat) : Int) - 1 + (m : Int) * (-1)).toNat]?).toArray = xs.toList.reverse.toArray := by
  congr 1
  have e : (List.range xs.size).filterMap (fun (m : Nat) => xs[(((xs.size : Nat) : Int) - 1 + (m : Int) * (-1)).toNat]?) = ((List.range xs.size).map fun k => xs.size - 1 - k).filterMap (xs[·]?) := by
    rw [List.filterMap_map]
    refine fmap_congr _ fun m hm => ?_
    have := List.mem_range.mp hm
    show xs[(((xs.size : Nat) : Int) - 1 + (m : Int) * (-1)).toNat]? = xs[xs.size - 1 - m]?
    rw [show (((xs.size : Nat) : Int) - 1 + (m : Int) * (-1)).toNat = xs.size - 1 - m by omega]
  rw [e, PySem.W.krv_range, List.filterMap_reverse, PySem.W.krv_all]
section
variable {prog : Program} {w : World} {A : Around} {E : Value → Shared → Prop} {s : Shared}
theorem applied_rev {sl : Addr} {vs : Value} {n : Nat} {Q : Int × Int × Nat → Shared → Prop} (hs : s.heap.IsSliceOf sl .none .none vs) (ps : IsPart vs (some (-1))) (h : Q ((n : Int) - 1, -1, n) s) :
    wpAny (model prog w) A (Builtin.Slice.sliceApplied (.ref sl) (pure (n : Int))) Q E s := by
  obtain ⟨os, hos, hcs, hds⟩ := id hs
  unfold Builtin.Slice.sliceApplied; unfold Builtin.Slice.sliceFields
  refine wpAny_bind (wpAny_bind (wpAny_field hos hds (x := .none) rfl (wpAny_bind (wpAny_field hos hds (x := .none) rfl (wpAny_bind (wpAny_field hos hds (x := vs) rfl (wpAny_pure ?_)))))))
  refine wpAny_bind (slicePart_ ps ?_)
  show wpAny _ _ (if ((-1 : Int) == 0) = true then _ else _) _ _ s
  rw [if_neg (show ¬ ((-1 : Int) == 0) = true by decide)]
  refine wpAny_bind (slicePart_ .none (wpAny_bind (slicePart_ .none (wpAny_bind (wpAny_pure ?_)))))
  show wpAny _ _ (match Builtin.Slice.sliceAdjust none none (-1) (n : Int) with | (lo, hi) => pure (lo, (-1 : Int), Builtin.Slice.slicePlaces lo hi (-1))) _ _ s
  rw [adjust_rev n]
  show wpAny _ _ (pure ((n : Int) - 1, (-1 : Int), Builtin.Slice.slicePlaces ((n : Int) - 1) (-1) (-1))) _ _ s
  rw [places_rev]
  exact wpAny_pure h
theorem getItem_tuple_rev {t sl : Addr} {items : Array Value} {vs : Value} {Q : Value → Shared → Prop} (ht : IsTup s.heap t items) (hs : s.heap.IsSliceOf sl .none .none vs) (ps : IsPart vs (some (-1)))
    (h : Q (.ref s.heap.objs.size) { s with heap := s.heap.push { cls := .type "tuple", data := .seq items.toList.reverse.toArray } }) (hsz : items.size ≤ sizeLine) : wpAny (model prog w) A (getItem (.ref t) (.ref sl)) Q E s := by
  have hr : sizeOk (.seq items.toList.reverse.toArray) := by
    show items.toList.reverse.toArray.size ≤ sizeLine
    rw [List.size_toArray, List.length_reverse, Array.length_toList]
    exact hsz
  obtain ⟨os, hos, hcs, hds⟩ := id hs
  have hTs : s.TypeIs (.ref sl) "slice" := ⟨os, hos, hcs⟩; unfold getItem
  try with_reducible refine wpAny_holding ?_
  first | (refine wpAny_bind (wpAny_pure ?_)) | (skip)
  refine wpAny_bind (wpAny_sequenceKey ht.typeIs (show _ by decide) ?_)
  refine wpAny_bind (wpAny_callSpecial?_slot (name := Str.ofString "__getitem__") ht.typeIs PyProof.Rows.slot_tuple_getitem (wpAny_call_entry PyProof.Rows.slot_tuple_getitem ht.typeIs entry_tuple_getitem ?_ (args_tuple_getitem _ _)))
  show wpAny _ _ (Builtin.Tuple.tupleItemsOf (Value.ref t) >>= _) _ _ s
  refine wpAny_bind (tupleItemsOf_ ht ?_); refine wpAny_bind (wpAny_typeOf hTs ?_)
  rw [if_pos (show _ by decide)]
  refine wpAny_bind (applied_rev (n := items.size) hs ps ?_)
  have hno : ¬ (((((items.size : Nat) : Int) - 1) == 0 && (-1 : Int) == 1 && items.size == items.size) = true) := by
    rw [show ((-1 : Int) == 1) = false by decide, Bool.and_false, Bool.false_and]
    exact Bool.false_ne_true
  show wpAny _ _ (if ((((items.size : Nat) : Int) - 1) == 0 && (-1 : Int) == 1 && items.size == items.size) = true then _ else _) _ _ s
  rw [if_neg hno, pick_rev]
  first
    | exact wpAny_bind (m := Builtin.Tuple.tupleExact _) (wpAny_newObj_type (wpAny_pure ⟨_, rfl, wpAny_pure h⟩) hr)
    | exact wpAny_bind (m := Builtin.Tuple.tupleExact _) (wpAny_newObj_type (wpAny_bind (wpAny_pure (wpAny_pure ⟨_, rfl, wpAny_pure h⟩))) hr)
    | exact wpAny_bind (wpAny_bind (m := Builtin.Tuple.tupleExact _) (wpAny_newObj_type (wpAny_pure (wpAny_pure ⟨_, rfl, wpAny_pure h⟩)) hr))
    | exact wpAny_bind (wpAny_bind (m := Builtin.Tuple.tupleExact _) (wpAny_newObj_type (wpAny_pure ⟨_, rfl, wpAny_pure h⟩) hr))
end
def tRevT (K : PySem.W.Frag) (te : TE) : TE := fun σ H Q => te σ H fun x H1 => ∃ a xs, x = .ref a ∧ SqT K H1 a xs ∧ ∀ p, H1 p = none → Q (.ref p) (upd H1 p (.tup xs.reverse))
theorem pe_revT {X : Cx} {e : Expr} {te : TE} {k : Nat} {p1 p2 p3 pos : Pos} (he : PE X e te) : PE X (.Subscript e (.Slice none none (some (.UnaryOp .USub (.Constant (.int 1) k p1) p2)) p3) pos) (tRevT X.K te) := by
  refine ⟨fun pins s σ H Q I h => Subscript_ (thn (he.run pins s σ H _ I h) fun v s1 ⟨x, H1, I1, r1, q1⟩ => ?_)⟩
  obtain ⟨a, xs, rfl, hx, q⟩ := q1
  cases r1
  have hst : PO X (some (.UnaryOp .USub (.Constant (.int 1) k p1) p2)) (tPart (tUn (rU fun i => .int (-i)) (tC (.int 1)))) := po_some (pe_un un_neg pe_int)
  refine wpAny_Slice (thn (po_none.run pins s1 σ H1 (fun o H2 => o = none ∧ H2 = H1) I1 ⟨rfl, rfl⟩) fun vl s2 ⟨l, H2, I2, pl, el, e2⟩ => ?_)
  subst el; subst e2
  refine thn (po_none.run pins s2 σ H2 (fun o H3 => o = none ∧ H3 = H2) I2 ⟨rfl, rfl⟩) fun vu s3 ⟨u, H3, I3, pu, eu, e3⟩ => ?_
  subst eu; subst e3
  refine thn (hst.run pins s3 σ H3 (fun o H4 => o = some (-1) ∧ H4 = H3) I3 ⟨1, rfl, -1, rfl, rfl, rfl⟩) fun vs s4 ⟨o, H4, I4, ps, eo, e4⟩ => ?_
  subst eo; subst e4
  cases pl
  cases pu
  have I5 : Inv X pins σ H4 { s4 with heap := s4.heap.push { cls := .type "slice", data := .fields #[.none, .none, vs] } } := I4.kept (t' := s4.toks) fun b ob q => Heap.get?_push_of_some _ q
  obtain ⟨its, r, ht, hz⟩ := I5.tuple hx
  have hlen := r.length
  show wpAny (model X.prog X.w) X.A (subscriptTail e (.Slice none none (some (.UnaryOp .USub (.Constant (.int 1) k p1) p2)) p3) (.ref a) (.ref s4.heap.objs.size)) (EP X pins σ Q) X.xe { s4 with heap := s4.heap.push { cls := .type "slice", data := .fields #[.none, .none, vs] } }
  refine tail_any (ops := [.ref a, .ref s4.heap.objs.size]) ht.typeIs (PyProof.Rows.slot_tuple_getitem.lookup) ?_ (by with_unfolding_all rfl)
  refine getItem_tuple_rev ht (Heap.IsSliceOf.new _ .none .none vs) ps ?_ (by rw [List.size_toArray]; omega)
  refine ⟨.ref _, _, I5.laid (t' := s4.toks) (o := .tup xs.reverse) (fun b ob q => Heap.get?_push_of_some _ q) (Nat.le_refl _) ?_, rfl, q _ (I5.hok.fresh (Nat.le_refl _))⟩
  refine ⟨by rw [List.length_reverse]; exact hz, its.reverse, ?_, IsTup.new _ _⟩
  exact r.reverse
end L2
namespace L2
open PySem PySem.Spec PyProof.Rows
def freshSet (w : World) : Obj := { cls := .type "set", dict := none, data := .set #[] 0 (.fresh 0 0 (!w.params.followText "set-order")) }
section
variable {P : Program} {w : World} {A : Around} {E : Value → Shared → Prop} {s : Shared}
set_option maxRecDepth 100000 in
set_option maxHeartbeats 3200000 in
/-- set(xs), xs a list of ints -/
theorem call_setLst {l : Addr} {items : Array Value} (ns : List Int) {Q : Value → Shared → Prop} (hh : A.handled = none) (hl : s.heap.IsList l items) (hit : IntsAre items.toList ns) (hb : ns.length + 1 < scanBound)
    (h : ∀ (h' : Heap) (tk c : Nat), SetR w h' s.heap.objs.size (fun j => decide (j ∈ ns)) c → c ≤ ns.length → (∀ b o, s.heap.get? b = some o → h'.get? b = some o) → Q (.ref s.heap.objs.size) { s with heap := h', toks := tk }) :
    wpAny (model P w) A (call (.type "set") [Value.ref l]) Q E s := by
  have hisz : items.size = ns.length := by
    have q := IntsAre.length hit; rw [Array.length_toList] at q; exact q
  obtain ⟨c, tl, hmro⟩ := F.called_set.mro; have hmade := F.called_set.made; have hsub := F.called_set.sub
  refine wpAny_call (codeAny_of_tree ?_)
  show wpAny _ _ (callAny (.type "set") _) _ _ _
  refine wpAny_pure ⟨Code.quiet_builtin _ (show _ by decide +kernel), codeAny_builtin F.entry_type_call ?_⟩
  rw [Around.under_plain (weight_type_call_type "set" [Value.ref l] []) rfl]
  have h1 := F.called_set.notType; have h2 := F.called_set.canCreate; have hct := F.typeCall_set_1 (.ref l)
  repeat (any_goals (first | (assumption) | (wp_step)))
  refine codeAny_mono (code_set_led1 (.ref l) (E := E) (Q₁ := fun obj s₁ => obj = .ref s.heap.objs.size ∧ s₁ = { s with heap := s.heap.push (freshSet w) }) ⟨rfl, rfl⟩) fun r s₁ hr => ?_
  rcases r with e | fl
  · exact hr
  · cases fl with
    | ret obj =>
      obtain ⟨rfl, rfl⟩ := hr
      have hS : (s.heap.push (freshSet w)).get? s.heap.objs.size = some (freshSet w) := Heap.get?_push_size _ rfl
      have hT : Shared.TypeIs { s with heap := s.heap.push (freshSet w) } (.ref s.heap.objs.size) "set" := ⟨_, hS, rfl⟩
      have hli := F.called_set.init.lookup; have hbi := F.called_set.init.bind (.ref s.heap.objs.size)
      repeat (any_goals (first | (assumption) | (wp_step)))
      refine codeAny_mono (codeAny_call_builtin (R := wants (fun r s₂ => r = .none ∧ ∃ h' tk c, s₂ = { s with heap := h', toks := tk } ∧ SetR w h' s.heap.objs.size (fun j => decide (j ∈ ns)) c ∧ c ≤ ns.length ∧ (∀ b o, s.heap.get? b = some o → h'.get? b = some o)) E)
        F.called_set.init.plain F.entry_set_init (check_set_init_1 hT ?_)) fun r₂ s₂ hr₂ => ?_
      · obtain ⟨⟨ocls, odict, odata, oslots⟩, hol, hcl, nl, hdl⟩ := hl
        simp only at hcl hdl
        subst hcl hdl
        have hol' : (s.heap.push (freshSet w)).get? l = some { cls := .type "list", dict := odict, data := .seq items nl, slots := oslots } := Heap.get?_push_of_some _ hol
        have hsls := F.sub_list_set; have hslf := F.sub_list_frozenset
        have hne : (Value.type "list" == Value.type "dict") = false := show _ by decide
        have hl1 : (s.heap.push (freshSet w)).IsList l items := ⟨_, hol', rfl, nl, rfl⟩
        unfold Builtin.«set.__init__»; unfold noKeywords; unfold Builtin.Frozenset.updateFrom
        generalize hPI : pyIter = PI
        wp_walk; subst hPI
        refine wpAny_pyIter_list hl1 ?_; refine wpAny_bind (wpAny_runValue ?_)
        have hlS : l < s.heap.objs.size := Heap.lt_size hol
        have hh3 : A.in1.in1.in1.handled = none := by simp [hh]
        have hneI : l ≠ (s.heap.push (freshSet w)).objs.size := by
          rw [Heap.size_push]; exact (Nat.ne_of_lt (Nat.lt_succ_of_lt hlS))
        have hSf : s.heap.objs.size ∉ [(s.heap.push (freshSet w)).objs.size, l] := by
          rw [Heap.size_push]; simp only [List.mem_cons, List.mem_singleton, List.not_mem_nil, or_false, not_or]; exact ⟨Nat.ne_of_lt (Nat.lt_succ_self _), Nat.ne_of_gt hlS⟩
        have hval : ∀ (i : Nat) (v : Value), items[i]? = some v → ∃ k t, ns[i]? = some k ∧ v = .int k t := fun i v hv => by
          have hi : i < ns.length := hisz ▸ (Array.getElem?_eq_some_iff.mp hv).1
          obtain ⟨t, e⟩ := PyProof.Rows.IntsAre.int_at hit i v (by rw [Array.getElem?_toList] <;> exact hv)
          exact ⟨ns[i], t, List.getElem?_eq_getElem hi, by rw [e, List.getD_eq_getElem?_getD, List.getElem?_eq_getElem hi] <;> rfl⟩
        refine set_update_ints ((Walks.list hh3 _ l hneI items).toS) s.heap.objs.size hSf ns hisz hb hval (items.size - 0) 0 _ (by omega) (Nat.zero_le _) ⟨⟨_, Heap.get?_push_size _ rfl, rfl, rfl⟩, (hl1.push _)⟩ ?hS0 ?hR
        case hS0 =>
          have hget : ((s.heap.push (freshSet w)).push { cls := .type "list_iterator", data := .fields #[.ref l, .int 0 0] }).get? s.heap.objs.size = some (freshSet w) := Heap.get?_push_of_some _ hS
          exact ⟨0, (Nat.le_refl 0), setR_new_at hget⟩
        case hR =>
          intro s' c' hm hc' hS'
          obtain ⟨h', g2, d', tk', os'⟩ := s'
          have eg : g2 = s.gens := hm.gens; have ed : d' = s.drawn := hm.drawn; have eo : os' = s.os := hm.os
          subst eg ed eo
          show wpAny _ _ _ _ _ _; refine wpAny_pure ?_
          show wpAny _ _ (ret Value.none) _ _ _; rw [hisz] at hc'
          refine wpAny_pure ⟨rfl, h', tk', c', rfl, hS', hc', fun b o e => hm.heap b o ?_ (Heap.get?_push_of_some _ (Heap.get?_push_of_some _ e))⟩
          have hb0 : b < s.heap.objs.size := Heap.lt_size e
          simp only [List.mem_cons, List.mem_singleton, List.not_mem_nil, or_false, not_or, Heap.size_push]
          exact ⟨Nat.ne_of_lt hb0, Nat.ne_of_lt (Nat.lt_succ_of_lt hb0)⟩
      · rcases r₂ with e | fl₂
        · exact hr₂
        · cases fl₂ with
          | ret r =>
            obtain ⟨rfl, h', tk, c', rfl, hS', hc', hk'⟩ := hr₂
            repeat (any_goals (first | (assumption) | (wp_step)))
            exact (h _ _ _ hS' hc' hk')
          | _ => exact (hr₂.elim)
    | _ => exact (hr.elim)
end
def rSetLst (K : PySem.W.Frag) (w : World) : List V → Hp → VK → Prop := fun vs H Q => ∃ (a : Addr) (ns : List Int), vs = [V.ref a] ∧ SqL K H a (ns.map V.int) ∧ ns.length ≤ 1000 ∧
  ∀ (p : Addr) (c : Nat), H p = none → c ≤ ns.length → Q (.ref p) (upd H p (SetO w p (fun j => decide (j ∈ ns)) c))
theorem cr_setL {X : Cx} (hc : X.calm = true) : CallR X (.type "set") (rSetLst X.K X.w) := by
  intro pins s σ H xs us Q I r h
  obtain ⟨a, ns, rfl, hq, hl, q⟩ := h
  rw [Vals.ref1 r]
  obtain ⟨its, rv, pt, hz⟩ := I.list hq
  have hi : IntsAre its.toArray.toList ns := ints_of_vals rv
  refine call_setLst ns (I.ok.hd hc) pt.isList hi (by unfold scanBound; omega) fun h' tk c R1 hcn k => ?_
  exact ⟨.ref _, upd H s.heap.objs.size (SetO X.w s.heap.objs.size (fun j => decide (j ∈ ns)) c), I.laid (t' := tk) k (Nat.le_refl _) (setO_new R1), rfl, q _ c (I.hok.fresh (Nat.le_refl _)) hcn⟩
/-- len(s) of a set of ints: so many unlike members -/
def rLenSet (w : World) : List V → Hp → VK → Prop := fun vs H Q => ∃ (a : Addr) (S : Int → Bool) (n : Nat), vs = [V.ref a] ∧ H a = some (SetO w a S n) ∧ ((∃ ms : List Int, ms.Nodup ∧ ms.length = n ∧ ∀ k, S k = true ↔ k ∈ ms) → Q (.int (n : Nat)) H)
theorem cr_lenSet {X : Cx} : CallR X (.builtin "len") (rLenSet X.w) := by
  intro pins s σ H vs us Q I r h
  obtain ⟨a, S, n, rfl, ha, q⟩ := h
  obtain ⟨o, es, ep, t, ho, hx, hd, g, nd, hm, hb, hf, hn, _⟩ := setO_get I ha
  rw [Vals.ref1 r]
  refine call_len_set ho hx hd hf (by unfold scanBound at hb; omega) ⟨.int (n : Nat), H, I.tok _, ⟨_, by rw [hn]⟩, q ⟨es.toList.map keyOf, nd, by rw [List.length_map, Array.length_toList]; exact hn, hm⟩⟩
end L2


namespace L2
open PySem PySem.Spec PyProof.Rows
/-! ### (x,) * n for every n; t.count(k); set(t) of a tuple of ints -/
theorem tuple_mul0 (l : Addr) (items : Array Value) (n : Nat) (dd : Option Addr) (sl : Array (Option Value)) (u : Tok) (hi : items.isEmpty = false) :
    Meets (Builtin.«tuple.__mul__» ⟨[.ref l, .int 0 u], []⟩) (fun _ R s => s.heap.get? l = some { cls := .type "tuple", dict := dd, data := .seq items n, slots := sl } ∧
      R (.ok (.ret (Value.ref s.heap.objs.size))) { s with heap := s.heap.push { cls := Value.type "tuple", data := Data.seq #[] }, toks := s.toks }) :=
  .of_wp fun prog w A R s h => by
    obtain ⟨hp, g, d, tk, os⟩ := s
    obtain ⟨hl, h⟩ := h
    have f1 := AutoSeq1.idx_int
    have c1 : (items.isEmpty || (0 : Int) == 1) = false := by rw [hi] <;> rfl
    wp_walk using wpAny_loadPart' hl
    repeat (first
      | (refine wpAny_ite_false (decide_eq_false (by decide)) ?_; wp_walk using wpAny_loadPart' hl)
      | (refine wpAny_ite_false (decide_eq_false (by rw [c1]; exact Bool.false_ne_true)) ?_; wp_walk using wpAny_loadPart' hl)
      | (refine wpAny_ite_true (decide_eq_true (by simp)) ?_; wp_walk using wpAny_loadPart' hl))
    exact ⟨_, rfl, h⟩
theorem tuple_mul1 (l : Addr) (items : Array Value) (n : Nat) (dd : Option Addr) (sl : Array (Option Value)) (u : Tok) :
    Meets (Builtin.«tuple.__mul__» ⟨[.ref l, .int 1 u], []⟩) (fun _ R s => s.heap.get? l = some { cls := .type "tuple", dict := dd, data := .seq items n, slots := sl } ∧ R (.ok (.ret (Value.ref l))) s) :=
  .of_wp fun prog w A R s h => by
    obtain ⟨hp, g, d, tk, os⟩ := s
    obtain ⟨hl, h⟩ := h
    have f1 := AutoSeq1.idx_int
    have c1 : (items.isEmpty || (1 : Int) == 1) = true := by simp
    wp_walk using wpAny_loadPart' hl
    repeat (first
      | (refine wpAny_ite_false (decide_eq_false (by decide)) ?_; wp_walk using wpAny_loadPart' hl)
      | (refine wpAny_ite_true (decide_eq_true (by rw [c1])) ?_; wp_walk using wpAny_loadPart' hl, wpAny_typeOf' ⟨_, hl, rfl⟩))
    exact ⟨_, rfl, h⟩
def rCntT (K : PySem.W.Frag) : V → List V → Hp → VK → Prop := fun x xs H Q => ∃ (p : Addr) (ns : List Int) (k : Int), x = .ref p ∧ xs = [.int k] ∧ SqT K H p (ns.map V.int) ∧ Q (.int (ns.count k : Nat)) H
def rSetI (K : PySem.W.Frag) (w : World) : List V → Hp → VK → Prop := fun vs H Q => ∃ (a : Addr) (ns : List Int), vs = [V.ref a] ∧ SqT K H a (ns.map V.int) ∧ ns.length ≤ 1000 ∧
  ∀ (p : Addr) (c : Nat), H p = none → c ≤ ns.length → Q (.ref p) (upd H p (SetO w p (fun j => decide (j ∈ ns)) c))
section
variable {X : Cx}
theorem mt_tcount : MtR X "tuple.count" (rCntT X.K) := by
  intro pins s σ H x xs v us Q I rx rxs h
  obtain ⟨p, ns, k, rfl, rfl, hs, q⟩ := h
  cases rx
  obtain ⟨u, rfl, ru⟩ := rxs.one
  obtain ⟨t, rfl⟩ := ru
  obtain ⟨its, rv, ⟨⟨cls, dd, data, sl⟩, ho, hc, n, hd⟩, hlen⟩ := I.tuple hs
  simp only at hc hd
  subst hc hd
  have hi := ints_of_vals rv
  refine call_meets PySem.F.slot_tuple_count ⟨_, ho, rfl⟩ PySem.F.entry_tuple_count (PySem.F.args_tuple_count_2 _ _)
    (SeqAt.tuple_countAt p its.toArray n dd sl (.int k t) (eqk k)) ⟨ho, fun y hy => (eqk_gives hi y (by simpa using hy)).at _ _, ?_⟩
  have ec : its.toArray.toList.countP (eqk k) = ns.count k := eqk_count hi
  refine ⟨.int (ns.count k : Nat), H, I.tok _, ⟨s.toks, ?_⟩, q⟩
  show Value.int ((its.toArray.toList.countP (eqk k) : Nat) : Int) s.toks = Value.int ((ns.count k : Nat) : Int) s.toks
  rw [ec]
theorem cr_setI (hc : X.calm = true) : CallR X (.type "set") (rSetI X.K X.w) := by
  intro pins s σ H xs us Q I r h
  obtain ⟨a, ns, rfl, hq, hl, q⟩ := h
  rw [Vals.ref1 r]
  obtain ⟨its, rv, pt, hz⟩ := I.tuple hq
  have hi : IntsAre its.toArray.toList ns := ints_of_vals rv
  refine call_set_tupI ns (I.ok.hd hc) (show s.heap.IsTuple a its.toArray from pt) hi (by unfold scanBound; omega) fun h' tk c R1 hcn k => ?_
  exact ⟨.ref _, upd H s.heap.objs.size (SetO X.w s.heap.objs.size (fun j => decide (j ∈ ns)) c), I.laid (t' := tk) k (Nat.le_refl _) (setO_new R1), rfl, q _ c (I.hok.fresh (Nat.le_refl _)) hcn⟩
def rRepI (K : PySem.W.Frag) : R2 := fun x y H Q => ∃ l k xs, x = .ref l ∧ y = .int k ∧ SqT K H l xs ∧ xs ≠ [] ∧ 0 ≤ k ∧ k ≤ 1000 ∧ xs.length ≤ 1000 ∧
  (k = 0 → ∀ p, H p = none → Q (.ref p) (upd H p (.tup []))) ∧ (k = 1 → Q (.ref l) H) ∧ (2 ≤ k → ∀ p, H p = none → Q (.ref p) (upd H p (.tup (List.replicate k.toNat xs).flatten)))
theorem op_repI : OpR X (binaryOp .Mult) (rRepI X.K) := by
  intro pins s σ H x y v u Q I rx ry h
  obtain ⟨l, k, xs, rfl, rfl, hT, hne, h1, h2, hz, q0, q1, q2⟩ := h
  by_cases k2 : 2 ≤ k
  · exact op_repT pins s σ H _ _ v u Q I rx ry ⟨l, k, xs, rfl, rfl, hT, hne, k2, h2, hz, q2 k2⟩
  cases rx
  obtain ⟨t, rfl⟩ := ry
  obtain ⟨its, r, ⟨⟨cls, dd, data, sl⟩, ho, hc, n, hd⟩, hs⟩ := I.tuple hT
  simp only at hc hd
  subst hc hd
  have hle : its.length = xs.length := r.length.symm
  have hn : its ≠ [] := fun e => hne (by
    rw [e] at hle
    exact List.eq_nil_of_length_eq_zero hle.symm)
  have hi : its.toArray.isEmpty = false := by
    cases its with
    | nil => exact absurd rfl hn
    | cons a b => rfl
  by_cases k0 : k = 0
  · subst k0
    refine wpAny_binaryOp_repeat_ref (T := "tuple") (U := "int") (by decide) ⟨_, ho, rfl⟩ (fun s' => typeIs_int s' 0 t) noFill_tuple_mul F.fills_int_mul F.slot_int_rmul repeat_tuple F.slot_int_index.lookup
      (call_meets F.slot_int_rmul (typeIs_int s 0 t) F.entry_int_rmul (F.args_int_rmul_2 _ _) (int_rmul_tuple 0 t l its.toArray n dd sl)
        ⟨ho, rfl, ⟨_, ho, rfl⟩, call_meets F.slot_tuple_mul ⟨_, ho, rfl⟩ F.entry_tuple_mul (F.args_tuple_mul_2 _ _) (tuple_mul0 l its.toArray n dd sl t hi) ⟨ho, ?_⟩⟩)
    refine ⟨.ref s.heap.objs.size, _, I.laid (t' := s.toks) (o := .tup []) (fun b ob q => Heap.get?_push_of_some _ q) (Nat.le_refl _) ?_, rfl, q0 rfl _ (I.hok.fresh (Nat.le_refl _))⟩
    exact ⟨Nat.zero_le _, [], .nil, IsTup.new _ _⟩
  · have k1 : k = 1 := by omega
    subst k1
    exact wpAny_binaryOp_repeat_ref (T := "tuple") (U := "int") (by decide) ⟨_, ho, rfl⟩ (fun s' => typeIs_int s' 1 t) noFill_tuple_mul F.fills_int_mul F.slot_int_rmul repeat_tuple F.slot_int_index.lookup
      (call_meets F.slot_int_rmul (typeIs_int s 1 t) F.entry_int_rmul (F.args_int_rmul_2 _ _) (int_rmul_tuple 1 t l its.toArray n dd sl)
        ⟨ho, rfl, ⟨_, ho, rfl⟩, call_meets F.slot_tuple_mul ⟨_, ho, rfl⟩ F.entry_tuple_mul (F.args_tuple_mul_2 _ _) (tuple_mul1 l its.toArray n dd sl t) ⟨ho, ⟨.ref l, H, I, rfl, q1 rfl⟩⟩⟩)
end
end L2
namespace Law
open PySem L2
def gI (t b : Int) : Int := ((Nat.gcd t.natAbs b.natAbs : Nat) : Int)
theorem gI_pos {t b : Int} (h : 0 < b) : 0 < gI t b := by
  have z : 0 < Nat.gcd t.natAbs b.natAbs := Nat.gcd_pos_of_pos_right _ (by omega)
  unfold gI
  omega
def lowP (t b : Int) : Fr := (t / gI t b, b / gI t b)
theorem gI_le {t b : Int} (hb : 0 < b) : gI t b ≤ b := by
  have z : Nat.gcd t.natAbs b.natAbs ≤ b.natAbs := Nat.gcd_le_right _ (by omega)
  unfold gI
  omega
theorem gI_step {x y : Int} (hx : 0 ≤ x) (hy : 0 < y) : gI y (x % y) = gI x y := by
  obtain ⟨a, rfl⟩ := Int.eq_ofNat_of_zero_le hx
  obtain ⟨c, rfl⟩ := Int.eq_ofNat_of_zero_le (Int.le_of_lt hy)
  unfold gI
  rw [← Int.natCast_emod, Int.natAbs_natCast, Int.natAbs_natCast, Int.natAbs_natCast, Nat.gcd_comm c, ← Nat.gcd_rec, Nat.gcd_comm]
theorem gI_zero {x : Int} (hx : 0 ≤ x) : gI x 0 = x := by
  unfold gI
  rw [show (0 : Int).natAbs = 0 from rfl, Nat.gcd_zero_right]
  omega
section
variable {P : Program} {w : World} {K : PySem.W.Frag} {mg : Str → Option Value} {base : Heap}
def spLowS : Sp := fun vs H Q _ => ∃ (t b : Int), vs = [.int t, .int b] ∧ 0 ≤ t ∧ 0 < b ∧ b < 2 ^ 41 ∧ ∀ p, H p = none → Q (.ref p) (upd H p (.tup [.int (lowP t b).1, .int (lowP t b).2]))
abbrev nLawLow : List Str := ["_law_top", "_law_bottom", "_law_one", "_law_other"]
theorem scLawLow : FnScope nLawLow ["_law_top", "_law_bottom"] (defScope s_law_low) := ⟨rfl, rfl, rfl, by decide +kernel, rfl, by decide +kernel, by decide +kernel⟩
theorem ok_low {f : Addr} {fd : FuncData} (F : Fun K "_law_low" "_law_low" s_law_low f fd) (T : NmA mg) : FnOk P w K mg base CX0 1 f fd ["_law_top", "_law_bottom"] spLowS := by
  refine F.ok scLawLow (fun vs H Q E h => ?_) (fun cdv A' outer s H vs Q E hr h => ?_)
  · obtain ⟨t, b, rfl, _⟩ := h
    rfl
  · obtain ⟨t, b, rfl, ht, hb, hb2, k⟩ := h
    have hu := hu_of hr
    refine ⟨_, pss_cons (ps_par (i := 2) (j := 3) (by rfl) scLawLow.nd rfl rfl (by decide) rfl rfl (pa_cons (pe_callB call_abs (by rfl) T.abs (by decide +kernel) (pa_cons (pv 0) pa_nil)) (pa_cons (pv 1) pa_nil)) (by rfl))
      (pss_cons (ps_while PassesOwn.never (pt_cmpR op_gt (pv 3) pe_int (nomark _))
        (pss_one (ps_par (i := 2) (j := 3) (by rfl) scLawLow.nd rfl rfl (by decide) rfl rfl (pa_cons (pv 3) (pa_cons (pe_op op_mod (pe_callTy call_int1 (by rfl) T.int (by decide +kernel) (pa_cons (pv 2) pa_nil)) (pv 3)) pa_nil)) (by rfl))))
      (pss_one (ps_ret (pe_tup (pa_cons (pe_op op_fdivW (pv 0) (pv 2)) (pa_cons (pe_op op_fdivW (pv 1) (pv 2)) pa_nil)))))), ?_⟩
    have gp : (0 : Int) < gI t b := gI_pos hb
    have gl : gI t b ≤ b := gI_le hb
    refine ⟨_, rfl, t, rfl, _, rfl, _, _, rfl, ?_⟩
    rw [if_neg (show ¬ t < 0 by omega)]
    refine ⟨fun m σ H' => H' = H ∧ ∃ x y : Int, σ = [some (.int t), some (.int b), some (.int x), some (.int y)] ∧ 0 ≤ x ∧ 0 ≤ y ∧ gI x y = gI t b ∧ m = y.toNat, ⟨_, rfl, t, b, rfl, ht, by omega, rfl, rfl⟩, ?_⟩
    rintro m σ H' ⟨rfl, x, y, rfl, hx, hy, e, rfl⟩
    refine ⟨_, rfl, _, _, rfl, rfl, _, rfl, ite2 (fun h1 => ?_) (fun h1 => ?_)⟩
    · have y0 : 0 < y := of_decide_eq_true h1
      refine ⟨fun σ' H1 => H1 = H' ∧ ∃ x' y' : Int, σ' = [some (.int t), some (.int b), some (.int x'), some (.int y')] ∧ 0 ≤ x' ∧ 0 ≤ y' ∧ gI x' y' = gI t b ∧ y'.toNat < y.toNat, ?_, ?_⟩
      · rintro σ' H1 ⟨rfl, x', y', rfl, a1, a2, a3, a4⟩
        exact ⟨_, a4, rfl, x', y', rfl, a1, a2, a3, rfl⟩
      · refine ⟨_, rfl, _, rfl, .inl ⟨_, rfl, _, rfl, _, _, rfl, rfl, y0, _, _, rfl, ?_⟩⟩
        have r0 := Int.emod_nonneg x (show y ≠ 0 by omega)
        have r1 := Int.emod_lt_of_pos x y0
        exact ⟨rfl, y, x % y, rfl, by omega, r0, by rw [gI_step hx y0]; exact e, by omega⟩
    · have y0 : y = 0 := by
        have z : ¬ 0 < y := fun q => h1 (decide_eq_true q)
        omega
      subst y0
      rw [gI_zero hx] at e
      subst e
      refine ⟨_, rfl, _, rfl, _, _, rfl, rfl, wide_div (b := 41) gp (by omega) (by decide) (by decide), _, rfl, _, rfl, _, _, rfl, rfl, wide_div (b := 41) gp (by omega) (by decide) (by decide), ?_⟩
      exact ⟨(by show 2 ≤ sizeLine; decide), fun p hp => k p hp⟩
end
end Law
namespace L2
open PySem PySem.Spec PyProof.Rows
/-- set(xs), xs a list or tuple of ints -/
def rSetA (K : PySem.W.Frag) (w : World) : List V → Hp → VK → Prop := fun vs H Q => ∃ (a : Addr) (ns : List Int), vs = [V.ref a] ∧ (SqL K H a (ns.map V.int) ∨ SqT K H a (ns.map V.int)) ∧ ns.length ≤ 1000 ∧
  ∀ (p : Addr) (c : Nat), H p = none → c ≤ ns.length → Q (.ref p) (upd H p (SetO w p (fun j => decide (j ∈ ns)) c))
theorem cr_setA {X : Cx} (hc : X.calm = true) : CallR X (.type "set") (rSetA X.K X.w) := by
  intro pins s σ H xs us Q I r h
  obtain ⟨a, ns, e, hq | hq, hl, q⟩ := h
  · exact cr_setL hc pins s σ H xs us Q I r ⟨a, ns, e, hq, hl, q⟩
  · exact cr_setI hc pins s σ H xs us Q I r ⟨a, ns, e, hq, hl, q⟩
end L2


namespace Law
open PySem L2
/-! ### lots -/
def upto (n : Nat) : List Int := (List.range n).map fun i : Nat => (i : Int)
theorem mem_upto {n : Nat} {x : Int} : x ∈ upto n ↔ 0 ≤ x ∧ x < (n : Int) := by
  unfold upto
  rw [List.mem_map]
  constructor
  · rintro ⟨i, hi, rfl⟩
    have := List.mem_range.mp hi
    omega
  · rintro ⟨h1, h2⟩
    exact ⟨x.toNat, List.mem_range.mpr (by omega), by omega⟩
theorem upto_len (n : Nat) : (upto n).length = n := by unfold upto; rw [List.length_map, List.length_range]
theorem upto_asc (n : Nat) : (upto n).Pairwise (· < ·) := by
  unfold upto
  rw [List.pairwise_map]
  exact List.Pairwise.imp (fun h => by omega) List.pairwise_lt_range
theorem upto_get {n i : Nat} (h : i < n) : (upto n)[i]? = some (i : Int) := by
  unfold upto
  rw [List.getElem?_map, List.getElem?_range h] <;> rfl
theorem upto_snoc (n : Nat) : upto (n + 1) = upto n ++ [(n : Int)] := by
  unfold upto
  rw [List.range_succ, List.map_append] <;> rfl
def lotF (e : List Int) : List Int := (upto 12).filter fun x => decide (x ∈ e)
def In12 (e : List Int) : Prop := ∀ x ∈ e, 0 ≤ x ∧ x < 12
theorem lot_asc (e : List Int) : (lotF e).Pairwise (· < ·) := List.Pairwise.filter _ (upto_asc 12)
theorem lot_mem {e : List Int} (h : In12 e) (x : Int) : x ∈ lotF e ↔ x ∈ e := by
  unfold lotF
  rw [List.mem_filter, mem_upto, decide_eq_true_iff]
  exact ⟨fun z => z.2, fun z => ⟨h x z, z⟩⟩
theorem asc_ext : ∀ {a b : List Int}, a.Pairwise (· < ·) → b.Pairwise (· < ·) → (∀ k, k ∈ a ↔ k ∈ b) → a = b
  | [], [], _, _, _ => rfl
  | [], y :: b, _, _, h => absurd ((h y).mpr List.mem_cons_self) List.not_mem_nil
  | x :: a, [], _, _, h => absurd ((h x).mp List.mem_cons_self) List.not_mem_nil
  | x :: a, y :: b, ha, hb, h => by
    rw [List.pairwise_cons] at ha hb
    have exy : x = y := by
      rcases List.mem_cons.mp ((h x).mp List.mem_cons_self) with e | e
      · exact e
      rcases List.mem_cons.mp ((h y).mpr List.mem_cons_self) with e2 | e2
      · exact e2.symm
      have := hb.1 x e
      have := ha.1 y e2
      omega
    subst exy
    rw [asc_ext ha.2 hb.2 fun k => ⟨fun hk => ?_, fun hk => ?_⟩]
    · rcases List.mem_cons.mp ((h k).mp (List.mem_cons_of_mem _ hk)) with e | e
      · have := ha.1 k hk
        omega
      · exact e
    · rcases List.mem_cons.mp ((h k).mpr (List.mem_cons_of_mem _ hk)) with e | e
      · have := hb.1 k hk
        omega
      · exact e
theorem lot_eq {e ns : List Int} (h : In12 e) (p : ns.Pairwise (· < ·)) (q : ∀ k, k ∈ ns ↔ k ∈ e) : ns = lotF e := asc_ext p (lot_asc e) fun k => by rw [q k, lot_mem h]
theorem lot_len {e ms : List Int} (h : In12 e) (n : ms.Nodup) (q : ∀ k, k ∈ e ↔ k ∈ ms) : ms.length = (lotF e).length := by
  have nl : (lotF e).Nodup := List.Pairwise.imp (fun h => Int.ne_of_lt h) (lot_asc e)
  exact ((List.perm_ext_iff_of_nodup n nl).mpr fun k => by rw [lot_mem h, q k]).length_eq
theorem lot_congr {a b : List Int} (ha : In12 a) (hb : In12 b) (h : ∀ k, k ∈ a ↔ k ∈ b) : lotF a = lotF b := lot_eq hb (lot_asc a) fun k => by rw [lot_mem ha, h k]
theorem lot_one {e : List Int} (h : In12 e) (h1 : (lotF e).length = 1) : ∃ z, lotF e = [z] ∧ (∀ x ∈ e, x = z) ∧ z ∈ e := by
  match hl : lotF e, h1 with
  | [z], _ =>
    refine ⟨z, rfl, fun x hx => ?_, ?_⟩
    · have := (lot_mem h x).mpr hx
      rw [hl] at this
      exact List.mem_singleton.mp this
    · exact (lot_mem h z).mp (by rw [hl]; exact List.mem_singleton_self z)
end Law
namespace L2
open PySem PySem.Spec PyProof.Rows Law
def lexL : List Int → List Int → Prop
  | x :: xs, y :: ys => x < y ∨ (x = y ∧ lexL xs ys)
  | _, _ => False
theorem lexL_irr : ∀ a : List Int, ¬ lexL a a
  | [], h => h
  | x :: xs, h => by
    rcases h with h | ⟨_, h⟩
    · omega
    · exact lexL_irr xs h
theorem lexL_trans : ∀ {a b c : List Int}, lexL a b → lexL b c → lexL a c
  | _ :: _, _ :: _, _ :: _, .inl h, .inl g => .inl (by omega)
  | _ :: _, _ :: _, _ :: _, .inl h, .inr ⟨e, _⟩ => .inl (by omega)
  | _ :: _, _ :: _, _ :: _, .inr ⟨e, _⟩, .inl g => .inl (by omega)
  | _ :: _, _ :: _, _ :: _, .inr ⟨e, h⟩, .inr ⟨f, g⟩ => .inr ⟨by omega, lexL_trans h g⟩
def InN (n : Nat) (e : List Int) : Prop := ∀ x ∈ e, 0 ≤ x ∧ x < (n : Int)
end L2
namespace Law
open PySem L2
theorem units65 {k : Nat} {A : Around} (r : Room k A) : A.units + 65 < cLine := by have := r.un; omega
end Law
namespace L2
open PySem PySem.Spec PyProof.Rows Law
def AllIn {α : Type} (R : V → α → Prop) (vs : List V) (l : List α) : Prop := vs.length = l.length ∧ ∀ (i : Nat) (v : V), vs[i]? = some v → ∃ x, l[i]? = some x ∧ R v x
theorem AllIn.mono {α : Type} {R R' : V → α → Prop} {vs : List V} {l : List α} (h : AllIn R vs l) (f : ∀ v x, R v x → R' v x) : AllIn R' vs l := ⟨h.1, fun i v hv => by
  obtain ⟨x, h1, h2⟩ := h.2 i v hv
  exact ⟨x, h1, f _ _ h2⟩⟩
theorem snoc_getA {α : Type} {xs : List α} {y v : α} {i : Nat} (h : (xs ++ [y])[i]? = some v) : (i < xs.length ∧ xs[i]? = some v) ∨ (i = xs.length ∧ y = v) := by
  by_cases hi : i < xs.length
  · rw [List.getElem?_append_left hi] at h
    exact .inl ⟨hi, h⟩
  · rw [List.getElem?_append_right (by omega)] at h
    have : i - xs.length = 0 := by
      cases e : i - xs.length with
      | zero => rfl
      | succ n => rw [e] at h; simp at h
    rw [this] at h
    exact .inr ⟨by omega, Option.some.inj h⟩
theorem AllIn.snoc {α : Type} {R : V → α → Prop} {vs : List V} {l : List α} {v : V} {x : α} (h : AllIn R vs l) (hv : R v x) : AllIn R (vs ++ [v]) (l ++ [x]) := by
  refine ⟨by rw [List.length_append, List.length_append, h.1] <;> rfl, fun i u hu => ?_⟩
  rcases snoc_getA hu with ⟨hi, e⟩ | ⟨hi, e⟩
  · obtain ⟨y, h1, h2⟩ := h.2 i u e
    exact ⟨y, by rw [List.getElem?_append_left (by rw [← h.1]; exact hi)]; exact h1, h2⟩
  · subst e
    refine ⟨x, ?_, hv⟩
    rw [List.getElem?_append_right (by rw [hi, h.1]; exact Nat.le_refl _), hi, h.1, Nat.sub_self]
    rfl
theorem AllIn.nil {α : Type} {R : V → α → Prop} : AllIn R [] [] := ⟨rfl, fun i v hv => by simp at hv⟩
theorem AllIn.drop {α : Type} {R : V → α → Prop} {vs : List V} {l : List α} (n : Nat) (h : AllIn R vs l) : AllIn R (vs.drop n) (l.drop n) := ⟨by rw [List.length_drop, List.length_drop, h.1], fun i v hv => by
  rw [List.getElem?_drop] at hv
  obtain ⟨x, h1, h2⟩ := h.2 _ v hv
  exact ⟨x, by rw [List.getElem?_drop]; exact h1, h2⟩⟩
theorem AllIn.take {α : Type} {R : V → α → Prop} {vs : List V} {l : List α} (n : Nat) (h : AllIn R vs l) : AllIn R (vs.take n) (l.take n) := ⟨by rw [List.length_take, List.length_take, h.1], fun i v hv => by
  rw [List.getElem?_take] at hv
  split at hv
  · rename_i c
    obtain ⟨x, h1, h2⟩ := h.2 _ v hv
    exact ⟨x, by rw [List.getElem?_take, if_pos c]; exact h1, h2⟩
  · cases hv⟩
theorem sqT_updL {K : PySem.W.Frag} {H : Hp} {a D : Addr} {acc xs : List V} {o : HO} (hD : H D = some (.lst acc)) (h : SqT K H a xs) : SqT K (upd H D o) a xs := by
  rcases h with (z | ⟨q, z⟩) | z
  · refine .inl (.inl ?_)
    rw [upd_ne (ne_of z hD (by intro y; cases y))]
    exact z
  · refine .inl (.inr ⟨q, ?_⟩)
    rw [upd_ne (ne_of z hD (by intro y; cases y))]
    exact z
  · exact .inr z
def RowAt (K : PySem.W.Frag) (H : Hp) (v : V) (l : List Int) : Prop := ∃ a, v = .ref a ∧ SqT K H a (l.map V.int)
theorem RowAt.same {K : PySem.W.Frag} {H H' : Hp} {v : V} {l : List Int} (s : Same H H') (h : RowAt K H v l) : RowAt K H' v l := by
  obtain ⟨a, h1, h2⟩ := h
  exact ⟨a, h1, s.sqT h2⟩
theorem RowAt.upd {K : PySem.W.Frag} {H : Hp} {D : Addr} {acc : List V} {o : HO} {v : V} {l : List Int} (hD : H D = some (.lst acc)) (h : RowAt K H v l) : RowAt K (upd H D o) v l := by
  obtain ⟨a, h1, h2⟩ := h
  exact ⟨a, h1, sqT_updL hD h2⟩
def RowsAt (K : PySem.W.Frag) (H : Hp) (a : Addr) (t : List (List Int)) : Prop := ∃ vs, SqT K H a vs ∧ AllIn (RowAt K H) vs t
theorem RowsAt.same {K : PySem.W.Frag} {H H' : Hp} {a : Addr} {t : List (List Int)} (s : Same H H') (h : RowsAt K H a t) : RowsAt K H' a t := by
  obtain ⟨vs, h1, h2⟩ := h
  exact ⟨vs, s.sqT h1, h2.mono fun _ _ => RowAt.same s⟩
theorem RowsAt.upd {K : PySem.W.Frag} {H : Hp} {D : Addr} {acc : List V} {o : HO} {a : Addr} {t : List (List Int)} (hD : H D = some (.lst acc)) (h : RowsAt K H a t) : RowsAt K (upd H D o) a t := by
  obtain ⟨vs, h1, h2⟩ := h
  exact ⟨vs, sqT_updL hD h1, h2.mono fun _ _ => RowAt.upd hD⟩
def rInDT (K : PySem.W.Frag) : R2 := fun x y H Q => ∃ d ds, Dp K H x d ∧ Dp K H y (.tuple ds) ∧ SeqAt.shaped d = true ∧ SeqAt.shaped (.tuple ds) = true ∧ Q (.bl (ds.any fun z => PyData.eqv z d)) H
theorem lay_tup {ds : List PyData} (h : PyData.canLayAll0 ds = true ∧ PyData.depthAll ds ≤ 10) : (PyData.tuple ds).canLay0 = true ∧ (PyData.tuple ds).depth ≤ 11 := by
  rw [PyData.canLay0, PyData.depth]
  exact ⟨h.1, by omega⟩
theorem op_inDT {X : Cx} (hu : X.A.units + 65 < cLine) : OpR X (compareOp .In) (rInDT X.K) := by
  intro pins s σ H x y v u Q I rx ry h
  obtain ⟨d, ds, hd, he, sd, se, q⟩ := h
  obtain ⟨as, r1⟩ := Dp.reads I d x v hd rx
  obtain ⟨bs, r2⟩ := Dp.reads I (.tuple ds) y u he ry
  exact SeqAt.in_tuple_reads r2 r1 (SeqAt.canLay_of_shaped se) (SeqAt.canLay_of_shaped sd) (room_in_shaped sd hu) ⟨.bl _, H, I, rfl, q⟩
theorem dp_all {α : Type} {K : PySem.W.Frag} {H : Hp} {R : V → α → Prop} {g : α → PyData} (hg : ∀ v x, R v x → Dp K H v (g x)) : ∀ {vs : List V} {l : List α}, AllIn R vs l → DpAll K H vs (l.map g)
  | [], [], _ => .nil
  | [], _ :: _, h => absurd h.1 (by simp)
  | _ :: _, [], h => absurd h.1 (by simp)
  | v :: vs, m :: ms, h => by
    obtain ⟨m', e, hm⟩ := h.2 0 v rfl
    cases e
    exact .cons (hg _ _ hm) (dp_all hg ⟨by simpa using h.1, fun i x hx => h.2 (i + 1) x (by simpa using hx)⟩)
theorem dp_row {K : PySem.W.Frag} {H : Hp} {v : V} {l : List Int} (h : RowAt K H v l) : Dp K H v (tupD l) := by
  obtain ⟨a, rfl, h2⟩ := h
  exact .tup h2 (dp_ints _)
theorem any_tup (cs : List (List Int)) (c : List Int) : ((cs.map tupD).any fun z => PyData.eqv z (tupD c)) = decide (c ∈ cs) := by
  induction cs with
  | nil => rfl
  | cons d cs ih =>
    rw [List.map_cons, List.any_cons, ih, eqv_tupD]
    by_cases h : d = c
    · subst h
      rw [decide_eq_true rfl, decide_eq_true List.mem_cons_self] <;> rfl
    · rw [decide_eq_false h, Bool.false_or]
      refine decide_eq_decide.mpr ⟨List.mem_cons_of_mem _, fun z => ?_⟩
      rcases List.mem_cons.mp z with z | z
      · exact absurd z.symm h
      · exact z
theorem sh_tup (c : List Int) : SeqAt.shaped (tupD c) = true := shaped_of (lay_tupD c) (by decide)
theorem sh_lst (cs : List (List Int)) : SeqAt.shaped (.list (cs.map tupD)) = true := by
  refine shaped_of (n := 2) ?_ (by decide)
  obtain ⟨h1, h2⟩ := lay_all tupD 1 lay_tupD cs
  rw [PyData.canLay0, PyData.depth]
  exact ⟨h1, by omega⟩
theorem sh_ttt (cs : List (List Int)) : SeqAt.shaped (.tuple (cs.map tupD)) = true := by
  refine shaped_of (n := 2) ?_ (by decide)
  obtain ⟨h1, h2⟩ := lay_all tupD 1 lay_tupD cs
  rw [PyData.canLay0, PyData.depth]
  exact ⟨h1, by omega⟩
/-- any loop: the body by what comes behind it -/
theorem lpG {J : It} {n : Nat} {G : Hp → Prop} {Y : Nat → Hp → V → Hp → Prop} (w : Walk J n G Y) {B : (Hp → Prop) → V → Hp → Prop} {H0 : Hp} {Qd : Hp → Prop} (Pv : Nat → Hp → Prop) (h0 : Pv 0 H0) (hG : ∀ i H, i ≤ n → Pv i H → G H)
    (hs : ∀ i x H H', i < n → Pv i H → Y i H x H' → B (Pv (i + 1)) x H') (hd : ∀ H, Pv n H → Qd H) :
    ∃ W : Nat → Nat → Hp → Prop, (∃ m, W 0 m H0) ∧ ∀ i m H, W i m H → (J.stop i H ∧ Qd H) ∨ (J.go i H ∧ ∃ Nx : Hp → Prop, (∀ H', Nx H' → ∃ m', m' < m ∧ W (i + 1) m' H') ∧ ∀ x H', J.yld i H x H' → B Nx x H') := by
  refine ⟨fun i m H => m = n - i ∧ i ≤ n ∧ Pv i H, ⟨n, rfl, Nat.zero_le _, h0⟩, ?_⟩
  rintro i m H ⟨rfl, hi, p⟩
  have q := hG i H hi p
  by_cases c : i < n
  · exact .inr ⟨w.goes i H c q, Pv (i + 1), fun H' p' => ⟨n - (i + 1), by omega, rfl, c, p'⟩, fun x H' y => hs i x H H' c p (w.yields i H x H' c q y)⟩
  · obtain rfl : i = n := by omega
    exact .inl ⟨w.stops H q, hd H p⟩
end L2
namespace L2
open PySem PySem.Spec PyProof.Rows
theorem TyOf.same {K : PySem.W.Frag} {H H' : Hp} {x : V} {t : Value} (s : Same H H') (h : TyOf K H x t) : TyOf K H' x t := by
  cases h with
  | non => exact .non
  | bl x => exact .bl x
  | int i => exact .int i
  | str x => exact .str x
  | flt x => exact .flt x
  | lst e => exact .lst (s _ _ e)
  | frz e => exact .frz (s _ _ e)
  | tup e => exact .tup (s _ _ e)
  | dK e => exact .dK (s _ _ e)
  | dT e => exact .dT (s _ _ e)
  | ins e c1 c2 c3 c4 c5 => exact .ins (s _ _ e) c1 c2 c3 c4 c5
theorem TyX.same {K : PySem.W.Frag} {H H' : Hp} {x : V} {t : Value} (s : Same H H') (h : TyX K H x t) : TyX K H' x t := by
  cases h with
  | base h => exact .base (h.same s)
  | byt b => exact .byt b
  | set e => exact .set (s _ _ e)
  | kList e c => exact .kList e c
  | kTuple e c => exact .kTuple e c
  | kDict e c => exact .kDict e c
  | fTuple e => exact .fTuple (s _ _ e)
  | fDict e => exact .fDict (s _ _ e)
end L2
namespace L2
open PySem PySem.Spec PyProof.Rows
section
variable {X : Cx} {tg : Expr}
/-- range(n), as a value -/
theorem cr_range1 : CallR X (.type "range") (fun vs H Q => ∃ j, vs = [V.int j] ∧ ∀ p, H p = none → Q (.ref p) (upd H p (.rng 0 j))) := by
  intro pins s σ H vs us Q I r h
  obtain ⟨j, rfl, q⟩ := h
  obtain ⟨u1, rfl, rj⟩ := vals1 r
  obtain ⟨u, rfl⟩ := rj
  refine call_range_1 ⟨.ref s.heap.objs.size, upd H s.heap.objs.size (.rng 0 j), I.laid (t' := s.toks + 1 + 1) (fun b o e => Heap.get?_push_of_some _ e) (Nat.le_refl _) ?_, rfl, q _ (I.hok.fresh (Nat.le_refl _))⟩
  exact ⟨s.toks, u, s.toks + 1, Heap.get?_push_size _ rfl⟩
/-- over a range that stands -/
def iRngV (te : TE) : TI := fun σ H R => te σ H fun x H1 => ∃ (a : Addr) (lo hi : Int), x = .ref a ∧ H1 a = some (.rng lo hi) ∧ (-(2 ^ 62) ≤ lo ∧ lo < 2 ^ 62 ∧ -(2 ^ 62) ≤ hi ∧ hi < 2 ^ 62) ∧ R (Itr lo (hi - lo).toNat) H1
theorem pi_rngV {l : Expr} {tl : TE} (hl : PE X l tl) : PI X tg l (iRngV tl) := by
  refine ⟨fun pins s σ H R I h => ?_⟩
  refine thn (hl.run pins s σ H _ I h) fun v s1 ⟨x, H1, I1, r1, q1⟩ => ?_
  obtain ⟨a, lo, hi, e, ha, ⟨h1, h2, h3, h4⟩, q⟩ := q1
  subst e
  cases r1
  obtain ⟨t, u, w, ho⟩ := I1.hok a _ ha
  refine wpAny_pyIter_range ho (small_one h1 h2 h3 h4) ?_
  refine ⟨s1.heap.objs.size, [s1.heap.objs.size], _, _, H1, rfl, I1.kept (t' := s1.toks) fun b o e => Heap.get?_push_of_some _ e, turn_range _ lo (hi - lo).toNat, ?_, fun b hb => ?_, q⟩
  · have e1 : lo + ((0 : Nat) : Int) * 1 = lo := by simp
    have e2 : (((hi - lo).toNat : Nat) : Int) - ((0 : Nat) : Int) = Builtin.Range.rangeSize lo hi 1 := by rw [rangeSize_one]; split <;> omega
    show IsRangeIter _ _ (lo + ((0 : Nat) : Int) * 1) ((((hi - lo).toNat : Nat) : Int) - ((0 : Nat) : Int)) 1
    rw [e1, e2]
    exact Heap.get?_push_size _ rfl
  · have e : b = s1.heap.objs.size := by simpa using hb
    subst e
    exact I1.fpOk (Nat.le_refl _) (I1.hok.fresh (Nat.le_refl _))
end
end L2
namespace L2
open PySem PySem.Spec PyProof.Rows Law RZ
theorem walk_zipT {K : PySem.W.Frag} {a b : Addr} {xs ys : List V} {n : Nat} (hn : n = min xs.length ys.length) : Walk (ItzT K a b) n (fun H => SqT K H a xs ∧ SqT K H b ys) (YPair (fun i => xs[i]?) (fun i => ys[i]?)) := by
  subst hn
  refine ⟨fun i _ hi q => ?_, fun _ q => ⟨xs, ys, q.1, q.2, by omega⟩, fun i H v H' _ q y => ?_⟩
  · have h1 : i < xs.length := by omega
    have h2 : i < ys.length := by omega
    exact ⟨xs, ys, xs[i], ys[i], q.1, q.2, by simp [h1], by simp [h2]⟩
  · obtain ⟨T, x, z, h1, h2, h3, h4, h5⟩ := y
    exact ⟨T, x, z, h1, h2, h3, h4 xs q.1, h5 ys q.2⟩
end L2
namespace Law
open PySem L2
theorem Known.same {K : PySem.W.Frag} {H H' : Hp} {x : V} (s : Same H H') (h : Known K H x) : Known K H' x := by
  rcases h with h | ⟨bi, bb, ⟨t, h1, h2, h3⟩, h4, h5⟩
  · exact .inl h
  · exact .inr ⟨bi, bb, ⟨t, h1.same s, h2, h3⟩, h4, h5⟩
/-- a part of a thing: a tuple of values, or none -/
inductive P1
  | tup (xs : List V)
  | odd
inductive P2
  | tup (l : List P1)
  | odd
def NoTup (K : PySem.W.Frag) (H : Hp) (x : V) : Prop := ∃ t, TyX K H x t ∧ PySem.W.kitOne K t (.type "tuple") = some false
def At1 (K : PySem.W.Frag) (H : Hp) (x : V) : P1 → Prop
  | .tup xs => ∃ s, x = .ref s ∧ SqT K H s xs ∧ xs.length ≤ 1000 ∧ ∀ y ∈ xs, Known K H y
  | .odd => NoTup K H x
def At2 (K : PySem.W.Frag) (H : Hp) (x : V) : P2 → Prop
  | .tup l => ∃ s ws, x = .ref s ∧ SqT K H s ws ∧ AllIn (At1 K H) ws l ∧ l.length ≤ 200
  | .odd => NoTup K H x
theorem NoTup.same {K : PySem.W.Frag} {H H' : Hp} {x : V} (s : Same H H') (h : NoTup K H x) : NoTup K H' x := by
  obtain ⟨t, h1, h2⟩ := h
  exact ⟨t, h1.same s, h2⟩
theorem At1.same {K : PySem.W.Frag} {H H' : Hp} {x : V} {p : P1} (s : Same H H') (h : At1 K H x p) : At1 K H' x p := by
  cases p with
  | tup xs =>
    obtain ⟨a, h1, h2, h3, h4⟩ := h
    exact ⟨a, h1, s.sqT h2, h3, fun y hy => (h4 y hy).same s⟩
  | odd => exact NoTup.same s h
theorem At2.same {K : PySem.W.Frag} {H H' : Hp} {x : V} {p : P2} (s : Same H H') (h : At2 K H x p) : At2 K H' x p := by
  cases p with
  | tup l =>
    obtain ⟨a, ws, h1, h2, h3, h4⟩ := h
    exact ⟨a, ws, h1, s.sqT h2, h3.mono fun _ _ => At1.same s, h4⟩
  | odd => exact NoTup.same s h
def pairW (n : Nat) : P1 → Bool
  | .tup xs => xs.length == 2 && xs.all (isW 0 ((n : Int) - 1))
  | .odd => false
def cOf : P1 → List Int
  | .tup xs => xs.map fun | .int i => i | _ => 0
  | .odd => []
theorem catAny {K : PySem.W.Frag} {H : Hp} {a b : Addr} {xs ys : List V} {Q : VK} (ha : SqT K H a xs) (hb : SqT K H b ys) (hl : xs.length + ys.length ≤ sizeLine) (k : ∀ p H', Same H H' → SqT K H' p (xs ++ ys) → Q (.ref p) H') : rCatA K (.ref a) (.ref b) H Q :=
  ⟨a, b, xs, ys, rfl, rfl, ha, hb, hl, fun z => k b H (Same.refl H) (by rw [z]; exact hb), fun _ z => k a H (Same.refl H) (by rw [z, List.append_nil]; exact ha), fun _ _ p hp => k p _ (Same.new hp) (SqT.of upd_same)⟩
theorem slAny {K : PySem.W.Frag} {H : Hp} {a : Addr} {xs : List V} {lo hi : Option Int} {Q : VK} (ha : SqT K H a xs) (k : ∀ p H', Same H H' → SqT K H' p (cutV xs lo hi) → Q (.ref p) H') : rSlA K (.ref a) lo hi H Q := by
  refine ⟨a, xs, rfl, ha, fun z => k a H (Same.refl H) ?_, fun _ p hp => k p _ (Same.new hp) (SqT.of upd_same)⟩
  unfold cutV
  rw [z.1, z.2, List.drop_zero, Nat.sub_zero, List.take_length]
  exact ha
def rLtTI (K : PySem.W.Frag) : R2 := fun x y H Q => ∃ (a b : Addr) (ns ms : List Int), x = .ref a ∧ y = .ref b ∧ SqT K H a (ns.map V.int) ∧ SqT K H b (ms.map V.int) ∧ Q (.bl (HT.lexLt ns ms)) H
theorem dec_two (n : Nat) : decide (V.int (n : Int) = V.int 2) = (n == 2) := by
  rw [dec_int]
  by_cases e : n = 2
  · subst e
    rfl
  · rw [beq_eq_false_iff_ne.mpr e, beq_eq_false_iff_ne.mpr (by omega)]
def ascB (cs : List (List Int)) : Bool := (cs.zip (cs.drop 1)).all fun p => HT.lexLt p.1 p.2
def lotPB (n : Nat) : P2 → Bool
  | .tup l => l.all (pairW n) && ascB (l.map cOf)
  | .odd => false
def coB (cs : List (List Int)) : Bool := cs.all fun c => decide (c.getD 0 0 < c.getD 1 0)
def lotCB (n : Nat) (p : P2) : Bool := lotPB n p && match p with
  | .tup l => coB (l.map cOf)
  | .odd => true
theorem isW_int {lo hi : Int} {x : V} (h : isW lo hi x = true) : ∃ i, x = .int i ∧ lo ≤ i ∧ i ≤ hi := by
  cases x with
  | int i =>
    have h : (decide (lo ≤ i) && decide (i ≤ hi)) = true := h
    rw [Bool.and_eq_true] at h
    exact ⟨i, rfl, of_decide_eq_true h.1, of_decide_eq_true h.2⟩
  | _ => cases h
theorem pair_ok {n : Nat} {p : P1} (h : pairW n p = true) : ∃ a b : Int, p = .tup [.int a, .int b] ∧ cOf p = [a, b] ∧ InN n [a, b] := by
  cases p with
  | odd => cases h
  | tup xs =>
    have h : (xs.length == 2 && xs.all (isW 0 ((n : Int) - 1))) = true := h
    rw [Bool.and_eq_true] at h
    have l2 := eq_of_beq h.1
    match xs, l2, h.2 with
    | [x, y], _, h2 =>
      rw [List.all_eq_true] at h2
      obtain ⟨a, rfl, a1, a2⟩ := isW_int (h2 x (by simp))
      obtain ⟨b, rfl, b1, b2⟩ := isW_int (h2 y (by simp))
      refine ⟨a, b, rfl, rfl, fun z hz => ?_⟩
      rcases List.mem_cons.mp hz with rfl | hz
      · omega
      · rw [List.mem_singleton.mp hz]
        omega
theorem pairs_rows {K : PySem.W.Frag} {H : Hp} {n : Nat} {ws : List V} {l : List P1} (h : AllIn (At1 K H) ws l) (ok : l.all (pairW n) = true) : AllIn (RowAt K H) ws (l.map cOf) := by
  refine ⟨by rw [h.1, List.length_map], fun i v hv => ?_⟩
  obtain ⟨p, h1, h2⟩ := h.2 i v hv
  rw [List.all_eq_true] at ok
  obtain ⟨a, b, rfl, e, _⟩ := pair_ok (ok p (List.mem_of_getElem? h1))
  obtain ⟨s, rfl, h3, _⟩ := h2
  exact ⟨[a, b], by rw [List.getElem?_map, h1] <;> rfl, s, rfl, h3⟩
theorem pairs_in {n : Nat} {l : List P1} (ok : l.all (pairW n) = true) : ∀ c ∈ l.map cOf, ∃ a b : Int, c = [a, b] ∧ InN n [a, b] := fun c hc => by
  obtain ⟨p, hp, rfl⟩ := List.mem_map.mp hc
  rw [List.all_eq_true] at ok
  obtain ⟨a, b, _, e, h⟩ := pair_ok (ok p hp)
  exact ⟨a, b, e, h⟩
section
variable {P : Program} {w : World} {K : PySem.W.Frag} {mg : Str → Option Value} {base : Heap}
def spRowK (K : PySem.W.Frag) : Sp := fun vs H Q _ => ∃ (b : Int) (a : Addr) (xs : List V), vs = [.int b, .ref a] ∧ SqT K H a xs ∧ xs.length ≤ 1000 ∧ (∀ x ∈ xs, Known K H x) ∧ ∀ H', Same H H' → Q (.bl (xs.all (isW 0 (b - 1)))) H'
abbrev nIsRowBelowK : List Str := ["bound", "thing", "part"]
theorem scIsRowBelowK : FnScope nIsRowBelowK ["bound", "thing"] (defScope s_is_row_below) := ⟨rfl, rfl, rfl, by decide +kernel, rfl, by decide +kernel, by decide +kernel⟩
theorem ok_rowK {f : Addr} {fd : FuncData} {fcWithin : Addr} {fdcWithin : FuncData} (F : Fun K "is_row_below" "is_row_below" s_is_row_below f fd) (T : NmA mg) (cWithin : Cl P w K mg base CX0 2 "is_within" fcWithin fdcWithin ["low", "high", "thing"] (spWithin K)) : FnOk P w K mg base CX0 3 f fd ["bound", "thing"] (spRowK K) := by
  refine F.ok scIsRowBelowK (fun vs H Q E h => ?_) (fun cdv A' outer s H vs Q E hr h => ?_)
  · obtain ⟨b, a, xs, rfl, _⟩ := h
    rfl
  · obtain ⟨b, a, xs, rfl, hS, hz, hx, k⟩ := h
    have hu := hu_of hr
    refine ⟨_, pss_one (ps_ret (pe_and (pe_callB call_isi (by rfl) T.isi (by decide +kernel) (pa_cons (pv 1) (pa_cons (pe_bltn (v := .ty "tuple") (u := .type "tuple") (by rfl) T.tuple (by decide +kernel) rfl) pa_nil))) (pe_one (pe_callB (cr_all rfl) (by rfl) T.all (by decide +kernel) (pa_cons (pe_lc (own := [("part", 2)]) (g := (gName 2)) (tt := tYes) rfl scIsRowBelowK.nd  (pi_tup (pv 1)) (blkOk_by (own := [("part", 2)]) (N := nIsRowBelowK) (sc := defScope s_is_row_below) (by decide +kernel)) (fun _ _ _ _ _ => (pg_name (i := 2) scIsRowBelowK.nd rfl (Or.inl rfl))) (fun _ _ _ _ _ => pts_nil) (fun _ _ _ _ _ => (cWithin.call (hr.mono (by decide)) (pa_cons pe_int (pa_cons (pe_op op_sub (pv 0) pe_int) (pa_cons (pv 2) pa_nil)))))) pa_nil))))), ?_⟩
    refine ⟨_, rfl, _, _, _, _, _, rfl, .ty "tuple", tyx_tup hS, kit_tt, _, rfl, iteT ?_⟩
    refine ⟨_, rfl, a, rfl, ⟨_, hS⟩, fun D hD => ?_⟩
    refine lc_tup (K := K) (a := a) (xs := xs) (fun i H' => Same H H' ∧ H' D = some (.lst (((xs.take i).map (isW 0 (b - 1))).map V.bl))) ⟨Same.new hD, upd_same⟩ (fun i H' _ h => h.1.sqT hS) ?_ ?_
    · rintro i x H' hi ⟨s1, h1⟩
      have il := (List.getElem?_eq_some_iff.mp hi).1
      have put : ∀ v : Bool, isW 0 (b - 1) x = v → ∃ acc, H' D = some (.lst acc) ∧ acc.length < sizeLine ∧ Same H (upd H' D (.lst (acc ++ [V.bl v]))) ∧ (upd H' D (.lst (acc ++ [V.bl v]))) D = some (.lst (((xs.take (i + 1)).map (isW 0 (b - 1))).map V.bl)) := fun v e =>
        ⟨_, h1, by rw [List.length_map, List.length_map, List.length_take, sizeLine_eq]; omega, s1.mut hD, by rw [upd_same, List.take_add_one, hi, List.map_append, List.map_append, ← e] <;> rfl⟩
      rcases hx x (List.mem_of_getElem? hi) with ⟨z, rfl⟩ | ⟨bi, bb, ty, hb, hw⟩
      · exact ⟨rfl, _, rfl, _, _, rfl, rfl, _, rfl, _, _, _, rfl, .inl ⟨z, rfl, put _ rfl⟩⟩
      · refine ⟨rfl, _, rfl, _, _, rfl, rfl, _, rfl, _, _, _, rfl, .inr ⟨bi, bb, ?_, hb, put _ (hw _ _)⟩⟩
        obtain ⟨t, h1, h2, h3⟩ := ty
        exact ⟨t, h1.same s1, h2, h3⟩
    · rintro H' ⟨s1, h1⟩
      rw [List.take_length] at h1
      refine ⟨D, _, rfl, SqL.of h1, ?_⟩
      rw [all_take]
      exact k H' s1
def spPairP (K : PySem.W.Frag) : Sp := fun vs H Q _ => ∃ (n : Nat) (x : V) (p : P1), vs = [.int (n : Nat), x] ∧ At1 K H x p ∧ ∀ H', Same H H' → Q (.bl (pairW n p)) H'
abbrev nIsPairBelow : List Str := ["bound", "thing"]
theorem scIsPairBelow : FnScope nIsPairBelow ["bound", "thing"] (defScope s_is_pair_below) := ⟨rfl, rfl, rfl, by decide +kernel, rfl, by decide +kernel, by decide +kernel⟩
theorem ok_pairP {f : Addr} {fd : FuncData} {fcRowK : Addr} {fdcRowK : FuncData} (F : Fun K "is_pair_below" "is_pair_below" s_is_pair_below f fd) (T : NmA mg) (cRowK : Cl P w K mg base CX0 3 "is_row_below" fcRowK fdcRowK ["bound", "thing"] (spRowK K)) : FnOk P w K mg base CX0 4 f fd ["bound", "thing"] (spPairP K) := by
  refine F.ok scIsPairBelow (fun vs H Q E h => ?_) (fun cdv A' outer s H vs Q E hr h => ?_)
  · obtain ⟨n, x, p, rfl, _⟩ := h
    rfl
  · obtain ⟨n, x, p, rfl, hA, k⟩ := h
    have hu := hu_of hr
    refine ⟨_, pss_one (ps_ret (pe_and (pe_callB call_isi (by rfl) T.isi (by decide +kernel) (pa_cons (pv 1) (pa_cons (pe_bltn (v := .ty "tuple") (u := .type "tuple") (by rfl) T.tuple (by decide +kernel) rfl) pa_nil))) (pe_and (pe_cmpR op_eq (pe_callB call_len_seq (by rfl) T.len PySem.boot_len (pa_cons (pv 1) pa_nil)) pe_int (nomark _)) (pe_one (cRowK.call (hr.mono (by decide)) (pa_cons (pv 0) (pa_cons (pv 1) pa_nil))))))), ?_⟩
    cases p with
    | odd =>
      obtain ⟨t, h1, h2⟩ := hA
      refine ⟨_, rfl, _, _, _, _, _, rfl, .ty "tuple", h1, h2, _, rfl, iteF ?_⟩
      exact k H (Same.refl H)
    | tup xs =>
      obtain ⟨s, rfl, hS, hz, hx⟩ := hA
      refine ⟨_, rfl, _, _, _, _, _, rfl, .ty "tuple", tyx_tup hS, kit_tt, _, rfl, iteT ?_⟩
      refine ⟨_, rfl, s, _, rfl, .inr hS, rfl, _, rfl, ?_⟩
      rw [dec_two]
      have e : pairW n (.tup xs) = (xs.length == 2 && xs.all (isW 0 ((n : Int) - 1))) := rfl
      refine ite2 (fun h => ?_) (fun h => ?_)
      · refine ⟨_, rfl, _, rfl, (n : Int), s, xs, rfl, hS, hz, hx, fun H1 s1 => ?_⟩
        rw [h, Bool.true_and] at e
        rw [← e]
        exact k H1 s1
      · rw [Bool.not_eq_true] at h
        rw [h, Bool.false_and] at e
        have z := k H (Same.refl H)
        rw [e] at z
        exact z
def spAscP (K : PySem.W.Frag) : Sp := fun vs H Q _ => ∃ (s : Addr) (ws : List V) (cs : List (List Int)), vs = [.ref s] ∧ SqT K H s ws ∧ AllIn (RowAt K H) ws cs ∧ cs.length ≤ 200 ∧ ∀ H', Same H H' → Q (.bl (ascB cs)) H'
abbrev nIsAscending : List Str := ["things", "one", "other"]
theorem scIsAscending : FnScope nIsAscending ["things"] (defScope s_is_ascending) := ⟨rfl, rfl, rfl, by decide +kernel, rfl, by decide +kernel, by decide +kernel⟩
theorem ok_ascP {f : Addr} {fd : FuncData} (F : Fun K "is_ascending" "is_ascending" s_is_ascending f fd) (T : NmA mg) : FnOk P w K mg base CX0 1 f fd ["things"] (spAscP K) := by
  refine F.ok scIsAscending (fun vs H Q E h => ?_) (fun cdv A' outer s H vs Q E hr h => ?_)
  · obtain ⟨s, ws, cs, rfl, _⟩ := h
    rfl
  · obtain ⟨s, ws, cs, rfl, hS, aS, hl, k⟩ := h
    refine ⟨_, pss_one (ps_ret (pe_callB (cr_all rfl) (by rfl) T.all (by decide +kernel) (pa_cons (pe_lc (own := [("one", 1), ("other", 2)]) (g := (gTup K 2 (gCons (gName 1) (gCons (gName 2) gNil)))) (tt := tYes) rfl scIsAscending.nd  (RZ.pi_zipA (by rfl) T.zip (pa_cons (pv 0) (pa_cons (pe_slice sl_tupA (pv 0) (po_some pe_int) po_none) pa_nil))) (blkOk_by (own := [("one", 1), ("other", 2)]) (N := nIsAscending) (sc := defScope s_is_ascending) (by decide +kernel)) (fun _ _ _ _ _ => (pg_tup (by rfl) (pgs_cons (pg_name (i := 1) scIsAscending.nd rfl (Or.inl rfl)) (pgs_cons (pg_name (i := 2) scIsAscending.nd rfl (Or.inl rfl)) pgs_nil)))) (fun _ _ _ _ _ => pts_nil) (fun _ _ _ _ _ => (pe_cmpR (r := rLtTI K) (show OpR _ (compareOp .Lt) (rLtTI K) from op_ltT hr.units0) (pv 1) (pv 2) (nomark _)))) pa_nil))), ?_⟩
    refine ⟨_, rfl, _, rfl, 1, rfl, ?_⟩
    unfold tNoPart
    refine slAny hS fun s2 H1 s1 hS2 => ?_
    have cl : cutV ws (some 1) none = ws.drop 1 := by
      unfold cutV
      rw [show HT.sIx ws.length 0 (some 1) = min 1 ws.length from HT.sIx_nat _ _ 1, show HT.sIx ws.length ws.length none = ws.length from rfl]
      by_cases c : ws.length = 0
      · rw [List.length_eq_zero_iff.mp c] <;> rfl
      · rw [show min 1 ws.length = 1 by omega, List.take_of_length_le (by rw [List.length_drop]; exact Nat.le_refl _)]
    rw [cl] at hS2
    have hS1 := s1.sqT hS
    have aS1 : AllIn (RowAt K H1) ws cs := aS.mono fun _ _ => RowAt.same s1
    have wl := aS.1
    refine ⟨s, s2, _, _, rfl, .inr ⟨hS1, hS2, fun D hD => ?_⟩⟩
    refine lc_it (walk_zipT (xs := ws) (ys := ws.drop 1) (n := ws.length - 1) (by rw [List.length_drop]; omega)) (fun i H' => Same H1 H' ∧ H' D = some (.lst ((((cs.zip (cs.drop 1)).map fun p => HT.lexLt p.1 p.2).take i).map V.bl))) ⟨Same.new hD, upd_same⟩ (fun i H' _ h => ⟨h.1.sqT hS1, h.1.sqT hS2⟩) (fun i x H2 H3 hi g y => ?_) fun H2 g => ?_
    · obtain ⟨s2', d2⟩ := g
      obtain ⟨T, x1, x2, rfl, hT, rfl, e1, e2⟩ := y
      have e2 : (ws.drop 1)[i]? = some x2 := e2
      rw [List.getElem?_drop] at e2
      obtain ⟨t1, ht1, a1, rfl, r1⟩ := aS1.2 i _ e1
      obtain ⟨t2, ht2, a2, rfl, r2⟩ := aS1.2 (1 + i) _ e2
      refine new_step hT fun H4 s4 e4 => ?_
      have s14 := s2'.trans s4
      refine ⟨T, _, rfl, SqT.of e4, rfl, _, _, rfl, _, _, rfl, rfl, ?_⟩
      refine ⟨rfl, _, rfl, _, rfl, a1, a2, t1, t2, rfl, rfl, s14.sqT r1, s14.sqT r2, _, s4 _ _ d2, by rw [List.length_map, List.length_take, sizeLine_eq]; omega, s14.mut hD, ?_⟩
      have e : ((cs.zip (cs.drop 1)).map fun p => HT.lexLt p.1 p.2)[i]? = some (HT.lexLt t1 t2) := by
        have z : (cs.zip (cs.drop 1))[i]? = some (t1, t2) := by
          rw [List.getElem?_zip_eq_some]
          exact ⟨ht1, by rw [List.getElem?_drop]; exact ht2⟩
        rw [List.getElem?_map, z] <;> rfl
      rw [upd_same, List.take_add_one, e, List.map_append] <;> rfl
    · obtain ⟨s2', d2⟩ := g
      rw [List.take_of_length_le (l := (cs.zip (cs.drop 1)).map fun p => HT.lexLt p.1 p.2) (by rw [List.length_map, List.length_zip, List.length_drop]; omega)] at d2
      refine ⟨D, _, rfl, SqL.of d2, ?_⟩
      have e : ((cs.zip (cs.drop 1)).map fun p => HT.lexLt p.1 p.2).all id = ascB cs := by
        unfold ascB
        rw [List.all_map] <;> rfl
      rw [e]
      exact k H2 (s1.trans s2')
def spLotPP (K : PySem.W.Frag) : Sp := fun vs H Q _ => ∃ (n : Nat) (x : V) (p : P2), vs = [.int (n : Nat), x] ∧ At2 K H x p ∧ ∀ H', Same H H' → Q (.bl (lotPB n p)) H'
abbrev nIsLotOfPairs : List Str := ["bound", "thing", "part"]
theorem scIsLotOfPairs : FnScope nIsLotOfPairs ["bound", "thing"] (defScope s_is_lot_of_pairs) := ⟨rfl, rfl, rfl, by decide +kernel, rfl, by decide +kernel, by decide +kernel⟩
theorem ok_lotPP {f : Addr} {fd : FuncData} {fcPairP : Addr} {fdcPairP : FuncData} {fcAscP : Addr} {fdcAscP : FuncData} (F : Fun K "is_lot_of_pairs" "is_lot_of_pairs" s_is_lot_of_pairs f fd) (T : NmA mg) (cPairP : Cl P w K mg base CX0 4 "is_pair_below" fcPairP fdcPairP ["bound", "thing"] (spPairP K)) (cAscP : Cl P w K mg base CX0 1 "is_ascending" fcAscP fdcAscP ["things"] (spAscP K)) : FnOk P w K mg base CX0 5 f fd ["bound", "thing"] (spLotPP K) := by
  refine F.ok scIsLotOfPairs (fun vs H Q E h => ?_) (fun cdv A' outer s H vs Q E hr h => ?_)
  · obtain ⟨n, x, p, rfl, _⟩ := h
    rfl
  · obtain ⟨n, x, p, rfl, hA, k⟩ := h
    have hu := hu_of hr
    refine ⟨_, pss_cons (ps_if (PW.pt (pw_or (pt_not (pt_val (pe_callB call_isi (by rfl) T.isi (by decide +kernel) (pa_cons (pv 1) (pa_cons (pe_bltn (v := .ty "tuple") (u := .type "tuple") (by rfl) T.tuple (by decide +kernel) rfl) pa_nil))))) (pw_or1 (pt_not (pt_val (pe_callB (cr_all rfl) (by rfl) T.all (by decide +kernel) (pa_cons (pe_lc (own := [("part", 2)]) (g := (gName 2)) (tt := tYes) rfl scIsLotOfPairs.nd  (pi_tup (pv 1)) (blkOk_by (own := [("part", 2)]) (N := nIsLotOfPairs) (sc := defScope s_is_lot_of_pairs) (by decide +kernel)) (fun _ _ _ _ _ => (pg_name (i := 2) scIsLotOfPairs.nd rfl (Or.inl rfl))) (fun _ _ _ _ _ => pts_nil) (fun _ _ _ _ _ => (cPairP.call (hr.mono (by decide)) (pa_cons (pv 0) (pa_cons (pv 2) pa_nil))))) pa_nil)))))))
        (pss_one (ps_ret pe_bl)) pss_nil)
      (pss_one (ps_ret (cAscP.call (hr.mono (by decide)) (pa_cons (pv 1) pa_nil)))), ?_⟩
    cases p with
    | odd =>
      obtain ⟨t, h1, h2⟩ := hA
      refine ⟨_, rfl, _, _, _, _, _, rfl, .ty "tuple", h1, h2, _, rfl, iteT ?_⟩
      exact k H (Same.refl H)
    | tup l =>
      obtain ⟨s, ws, rfl, hT, aS, hl⟩ := hA
      refine ⟨_, rfl, _, _, _, _, _, rfl, .ty "tuple", tyx_tup hT, kit_tt, _, rfl, ?_⟩
      refine iteF ⟨_, rfl, s, rfl, ⟨_, hT⟩, fun D hD => ?_⟩
      have wl := aS.1
      refine lc_tup (K := K) (a := s) (xs := ws) (fun i H' => Same H H' ∧ H' D = some (.lst (((l.map (pairW n)).take i).map V.bl))) ⟨Same.new hD, upd_same⟩ (fun i H' _ h => h.1.sqT hT) (fun i x H1 hi g => ?_) fun H1 g => ?_
      · obtain ⟨s1, d1⟩ := g
        obtain ⟨p, hp, ha⟩ := aS.2 i x hi
        have il := (List.getElem?_eq_some_iff.mp hi).1
        refine ⟨rfl, _, rfl, _, rfl, n, x, p, rfl, ha.same s1, fun H2 s2 => ?_⟩
        refine ⟨_, s2 _ _ d1, by rw [List.length_map, List.length_take, sizeLine_eq]; omega, (s1.trans s2).mut hD, ?_⟩
        have e : (l.map (pairW n))[i]? = some (pairW n p) := by rw [List.getElem?_map, hp] <;> rfl
        rw [upd_same, List.take_add_one, e, List.map_append] <;> rfl
      · obtain ⟨s1, d1⟩ := g
        rw [List.take_of_length_le (l := l.map (pairW n)) (by rw [List.length_map, wl]; exact Nat.le_refl _)] at d1
        refine ⟨D, _, rfl, SqL.of d1, _, rfl, ?_⟩
        have e : (l.map (pairW n)).all id = l.all (pairW n) := by rw [List.all_map] <;> rfl
        rw [e]
        have eL : lotPB n (.tup l) = (l.all (pairW n) && ascB (l.map cOf)) := rfl
        cases hc : l.all (pairW n) with
        | false =>
          rw [hc, Bool.false_and] at eL
          rw [eL] at k
          exact iteT (k H1 s1)
        | true =>
          rw [hc, Bool.true_and] at eL
          rw [eL] at k
          refine iteF ⟨_, rfl, s, ws, l.map cOf, rfl, s1.sqT hT, pairs_rows (aS.mono fun _ _ => At1.same s1) hc, by rw [List.length_map]; exact hl, fun H2 s2 => k H2 (s1.trans s2)⟩
end
end Law

namespace Law
open PySem L2
def joinR (cs : List (List Int)) (c : List Int) : List (List Int) := (cs.filter fun d => c.getD 1 0 == d.getD 0 0).map fun d => [c.getD 0 0, d.getD 1 0]
def joinF (cs : List (List Int)) : List (List Int) := cs.flatMap (joinR cs)
def jI (cs : List (List Int)) (i : Nat) : List (List Int) := (cs.take i).flatMap (joinR cs)
def jJ (cs : List (List Int)) (c : List Int) (j : Nat) : List (List Int) := ((cs.take j).filter fun d => c.getD 1 0 == d.getD 0 0).map fun d => [c.getD 0 0, d.getD 1 0]
theorem jI_snoc {cs : List (List Int)} {i : Nat} {c : List Int} (h : cs[i]? = some c) : jI cs (i + 1) = jI cs i ++ joinR cs c := by
  unfold jI
  rw [List.take_add_one, h, List.flatMap_append]
  show _ ++ List.flatMap _ [c] = _
  rw [List.flatMap_cons, List.flatMap_nil, List.append_nil]
theorem jJ_snoc {cs : List (List Int)} {c d : List Int} {j : Nat} (h : cs[j]? = some d) : jJ cs c (j + 1) = if (c.getD 1 0 == d.getD 0 0) = true then jJ cs c j ++ [[c.getD 0 0, d.getD 1 0]] else jJ cs c j := by
  unfold jJ
  rw [List.take_add_one, h, List.filter_append, List.map_append]
  show _ ++ List.map _ (List.filter _ [d]) = _
  rw [List.filter_cons, List.filter_nil]
  by_cases e : (c.getD 1 0 == d.getD 0 0) = true
  · rw [if_pos e, if_pos e] <;> rfl
  · rw [if_neg e, if_neg e, List.map_nil, List.append_nil]
theorem jJ_all (cs : List (List Int)) (c : List Int) : jJ cs c cs.length = joinR cs c := by
  unfold jJ joinR
  rw [List.take_length]
theorem jI_all (cs : List (List Int)) : jI cs cs.length = joinF cs := by
  unfold jI joinF
  rw [List.take_length]
/-- pairs of numbers -/
def Prs (cs : List (List Int)) : Prop := ∀ c ∈ cs, ∃ a b : Int, c = [a, b]
theorem join_prs (cs : List (List Int)) : ∀ c ∈ joinF cs, ∃ a b : Int, c = [a, b] := fun c hc => by
  obtain ⟨d, _, h⟩ := List.mem_flatMap.mp hc
  obtain ⟨e, _, rfl⟩ := List.mem_map.mp h
  exact ⟨_, _, rfl⟩
theorem join_len {cs : List (List Int)} (h : cs.length ≤ 70) : (joinF cs).length ≤ 4900 := by
  have z : ∀ ds : List (List Int), (ds.flatMap (joinR cs)).length ≤ ds.length * 70 := by
    intro ds
    induction ds with
    | nil => exact Nat.zero_le _
    | cons d ds ih =>
      rw [List.flatMap_cons, List.length_append, List.length_cons, Nat.succ_mul]
      have a : (joinR cs d).length ≤ 70 := by
        unfold joinR
        rw [List.length_map]
        exact Nat.le_trans (List.length_filter_le _ _) h
      omega
  have y := z cs
  unfold joinF
  omega
def irrB (cs : List (List Int)) : Bool := cs.all fun c => !(c.getD 0 0 == c.getD 1 0)
def clB (cs : List (List Int)) : Bool := (joinF cs).all fun c => decide (c ∈ cs)
def ordB (n : Nat) (p : P2) : Bool := lotPB n p && match p with
  | .tup l => irrB (l.map cOf) && clB (l.map cOf)
  | .odd => true
theorem pairs_prs {n : Nat} {l : List P1} (ok : l.all (pairW n) = true) : Prs (l.map cOf) := fun c hc => by
  obtain ⟨a, b, rfl, _⟩ := pairs_in ok c hc
  exact ⟨a, b, rfl⟩
section
variable {P : Program} {w : World} {K : PySem.W.Frag} {mg : Str → Option Value} {base : Heap}
def spJoined (K : PySem.W.Frag) : Sp := fun vs H Q _ => ∃ (s : Addr) (ws : List V) (cs : List (List Int)), vs = [.ref s] ∧ SqT K H s ws ∧ AllIn (RowAt K H) ws cs ∧ Prs cs ∧ cs.length ≤ 70 ∧
  ∀ (D : Addr) (acc : List V) (H' : Hp), Same H H' → H' D = some (.lst acc) → AllIn (RowAt K H') acc (joinF cs) → Q (.ref D) H'
abbrev nJoined : List Str := ["pairs", "one", "by", "behind", "other"]
theorem scJoined : FnScope nJoined ["pairs"] (defScope s_joined) := ⟨rfl, rfl, rfl, by decide +kernel, rfl, by decide +kernel, by decide +kernel⟩
theorem ok_joined {f : Addr} {fd : FuncData} (F : Fun K "joined" "joined" s_joined f fd) (T : NmA mg) : FnOk P w K mg base CX0 1 f fd ["pairs"] (spJoined K) := by
  refine F.ok scJoined (fun vs H Q E h => ?_) (fun cdv A' outer s H vs Q E hr h => ?_)
  · obtain ⟨s, ws, cs, rfl, _⟩ := h
    rfl
  · obtain ⟨s, ws, cs, rfl, hS, hA, hP, l70, k⟩ := h
    have hu := hu_of hr
    refine ⟨_, pss_one (ps_ret (pe_lc2 (own := [("one", 1), ("by", 2), ("behind", 3), ("other", 4)]) (vs1 := [3, 4]) (g := (gTup K 2 (gCons (gName 1) (gCons (gName 2) gNil)))) (g1 := (gTup K 2 (gCons (gName 3) (gCons (gName 4) gNil)))) (tt := tYes) (tt1 := _) rfl scJoined.nd  (pi_tup (pv 0)) (blkOk_by (own := [("one", 1), ("by", 2), ("behind", 3), ("other", 4)]) (N := nJoined) (sc := defScope s_joined) (by decide +kernel)) (by decide) (fun _ _ _ _ _ => (pg_tup (by rfl) (pgs_cons (pg_name (i := 1) scJoined.nd rfl (Or.inl rfl)) (pgs_cons (pg_name (i := 2) scJoined.nd rfl (Or.inl rfl)) pgs_nil)))) (fun _ _ _ _ _ => pts_nil) (fun _ _ _ _ _ => (show PI _ _ _ (iTup K _) from pi_tup (pv 0))) (fun _ _ _ _ _ => (pg_tup (by rfl) (pgs_cons (pg_name (i := 3) scJoined.nd rfl (Or.inl rfl)) (pgs_cons (pg_name (i := 4) scJoined.nd rfl (Or.inl rfl)) pgs_nil)))) (fun _ _ _ _ _ => (pts_one (pt_cmpR op_eq (pv 2) (pv 3) (nomark _)))) (fun _ _ _ _ _ => (pe_tup (pa_cons (pv 1) (pa_cons (pv 4) pa_nil)))))), ?_⟩
    have wl := hA.1
    refine ⟨_, rfl, s, rfl, ⟨_, hS⟩, fun D hD => ?_⟩
    refine lpG (walk_tup (K := K) (a := s) (xs := ws)) (fun i H' => Same H H' ∧ ∃ acc, H' D = some (.lst acc) ∧ AllIn (RowAt K H') acc (jI cs i) ∧ acc.length ≤ i * 70) ⟨Same.new hD, [], upd_same, by show AllIn _ [] []; exact AllIn.nil, Nat.zero_le _⟩ (fun i H' _ h => h.1.sqT hS) (fun i x H2 H2' hi g y => ?_) fun H2 g => ?_
    · obtain ⟨rfl, hx⟩ := y
      obtain ⟨s2, acc, d2, A2, l2⟩ := g
      obtain ⟨c, hc, a, rfl, ha⟩ := hA.2 i x hx
      obtain ⟨c0, c1, rfl⟩ := hP c (List.mem_of_getElem? hc)
      have il := (List.getElem?_eq_some_iff.mp hc).1
      refine ⟨a, _, rfl, s2.sqT ha, rfl, _, _, rfl, _, _, rfl, rfl, ?_⟩
      refine ⟨rfl, _, rfl, s, rfl, ⟨_, s2.sqT hS⟩, ?_⟩
      refine lpG (walk_tup (K := K) (a := s) (xs := ws)) (fun j H' => Same H H' ∧ ∃ acc, H' D = some (.lst acc) ∧ AllIn (RowAt K H') acc (jI cs i ++ jJ cs [c0, c1] j) ∧ acc.length ≤ i * 70 + j) ⟨s2, acc, d2, by show AllIn _ acc (jI cs i ++ []); rw [List.append_nil]; exact A2, l2⟩ (fun i H' _ h => h.1.sqT hS) (fun j x H3 H3' hj g y => ?_) fun H3 g => ?_
      · obtain ⟨rfl, hx2⟩ := y
        obtain ⟨s3, acc3, d3, A3, l3⟩ := g
        obtain ⟨d, hd, b, rfl, hb⟩ := hA.2 j x hx2
        obtain ⟨e0, e1, rfl⟩ := hP d (List.mem_of_getElem? hd)
        have jl := (List.getElem?_eq_some_iff.mp hd).1
        have sn := jJ_snoc (c := [c0, c1]) hd
        refine ⟨b, _, rfl, s3.sqT hb, rfl, _, _, rfl, _, _, rfl, rfl, ?_⟩
        refine ⟨rfl, _, rfl, _, rfl, rfl, _, rfl, ?_⟩
        rw [dec_int]
        refine ite2 (fun h => ?_) (fun h => ?_)
        · rw [if_pos (show (([c0, c1] : List Int).getD 1 0 == ([e0, e1] : List Int).getD 0 0) = true from h)] at sn
          rw [sn, ← List.append_assoc]
          refine ⟨_, rfl, _, rfl, by show 2 ≤ sizeLine; decide, fun t ht => ?_⟩
          refine new_step ht fun H4 s4 e4 => ?_
          have d4 := s4 _ _ d3
          exact ⟨_, d4, by rw [sizeLine_eq]; omega, (s3.trans s4).mut hD, _, upd_same, (A3.mono fun _ _ z => (z.same s4).upd d4).snoc ⟨t, rfl, sqT_updL d4 (SqT.of e4)⟩, by rw [List.length_append]; show _ + 1 ≤ _; omega⟩
        · rw [if_neg (show ¬ (([c0, c1] : List Int).getD 1 0 == ([e0, e1] : List Int).getD 0 0) = true from h)] at sn
          rw [sn]
          exact ⟨s3, acc3, d3, A3, by omega⟩
      · obtain ⟨s3, acc3, d3, A3, l3⟩ := g
        rw [wl, jJ_all, ← jI_snoc hc] at A3
        rw [wl] at l3
        exact ⟨s3, acc3, d3, A3, by omega⟩
    · obtain ⟨s2, acc, d2, A2, l2⟩ := g
      rw [wl, jI_all] at A2
      exact k D acc H2 s2 d2 A2
def spOrder (K : PySem.W.Frag) (C : Addr) : Sp := fun vs H Q _ => ∃ (q : Addr) (x : V) (many : Nat) (ms : List Mv) (p : P2), vs = [.ref q, x] ∧ SysAt K C H q many ms ∧ many ≤ 12 ∧ At2 K H x p ∧ (∀ l, p = .tup l → l.length ≤ 70) ∧ ∀ H', Same H H' → Q (.bl (ordB many p)) H'
abbrev nIsOrder : List Str := ["system", "thing", "one", "other", "pair"]
theorem scIsOrder : FnScope nIsOrder ["system", "thing"] (defScope s_is_order) := ⟨rfl, rfl, rfl, by decide +kernel, rfl, by decide +kernel, by decide +kernel⟩
theorem ok_is_order {f : Addr} {fd : FuncData} {fcLotPP : Addr} {fdcLotPP : FuncData} {fcJoined : Addr} {fdcJoined : FuncData} {C : Addr} (F : Fun K "is_order" "is_order" s_is_order f fd) (T : NmA mg) (cLotPP : Cl P w K mg base CX0 5 "is_lot_of_pairs" fcLotPP fdcLotPP ["bound", "thing"] (spLotPP K)) (cJoined : Cl P w K mg base CX0 1 "joined" fcJoined fdcJoined ["pairs"] (spJoined K)) (S : SysT K mg C) : FnOk P w K mg base CX0 6 f fd ["system", "thing"] (spOrder K C) := by
  refine F.ok scIsOrder (fun vs H Q E h => ?_) (fun cdv A' outer s H vs Q E hr h => ?_)
  · obtain ⟨q, x, many, ms, p, rfl, _⟩ := h
    rfl
  · obtain ⟨q, x, many, ms, p, rfl, hM, m12, hA, hl70, k⟩ := h
    have hu := hu_of hr
    refine ⟨_, pss_cons (ps_if (pt_not (pt_val (cLotPP.call (hr.mono (by decide)) (pa_cons (pe_fld (pv 0) rfl) (pa_cons (pv 1) pa_nil)))))
        (pss_one (ps_ret pe_bl)) pss_nil)
      (pss_one (ps_ret (pe_and (pe_callB (cr_all rfl) (by rfl) T.all (by decide +kernel) (pa_cons (pe_lc (own := [("one", 2), ("other", 3)]) (g := (gTup K 2 (gCons (gName 2) (gCons (gName 3) gNil)))) (tt := tYes) rfl scIsOrder.nd  (pi_tup (pv 1)) (blkOk_by (own := [("one", 2), ("other", 3)]) (N := nIsOrder) (sc := defScope s_is_order) (by decide +kernel)) (fun _ _ _ _ _ => (pg_tup (by rfl) (pgs_cons (pg_name (i := 2) scIsOrder.nd rfl (Or.inl rfl)) (pgs_cons (pg_name (i := 3) scIsOrder.nd rfl (Or.inl rfl)) pgs_nil)))) (fun _ _ _ _ _ => pts_nil) (fun _ _ _ _ _ => (pe_cmpR op_ne (pv 2) (pv 3) (nomark _)))) pa_nil)) (pe_one (pe_callB (cr_all rfl) (by rfl) T.all (by decide +kernel) (pa_cons (pe_lc (own := [("pair", 4)]) (g := (gName 4)) (tt := tYes) rfl scIsOrder.nd  (pi_list (cJoined.call (hr.mono (by decide)) (pa_cons (pv 1) pa_nil))) (blkOk_by (own := [("pair", 4)]) (N := nIsOrder) (sc := defScope s_is_order) (by decide +kernel)) (fun _ _ _ _ _ => (pg_name (i := 4) scIsOrder.nd rfl (Or.inl rfl))) (fun _ _ _ _ _ => pts_nil) (fun _ _ _ _ _ => (pe_cmpR (r := rInDT K) (show OpR _ (compareOp .In) (rInDT K) from op_inDT (units65 hr)) (pv 4) (pv 1) (by rfl)))) pa_nil)))))), ?_⟩
    obtain ⟨dx, mv, hp, us, hV, hU⟩ := id hM
    refine ⟨_, rfl, q, C, dx, _, _, rfl, hp, S.cl, S.nK, sysF_many _ _, _, rfl, many, x, p, rfl, hA, fun H1 s1 => ⟨_, rfl, ?_⟩⟩
    have hA1 := hA.same s1
    cases hc : lotPB many p with
    | false =>
      have e : ordB many p = false := by unfold ordB; rw [hc, Bool.false_and]
      rw [e] at k
      exact iteT (k H1 s1)
    | true =>
      cases p with
      | odd => cases hc
      | tup l =>
        have l70 := hl70 l rfl
        have hc2 : (l.all (pairW many) && ascB (l.map cOf)) = true := hc
        rw [Bool.and_eq_true] at hc2
        obtain ⟨s, ws, rfl, hT, aS, hl⟩ := hA1
        have aR := pairs_rows aS hc2.1
        have prs := pairs_prs hc2.1
        have eb : ordB many (.tup l) = (irrB (l.map cOf) && clB (l.map cOf)) := by
          unfold ordB
          rw [hc, Bool.true_and]
        rw [eb] at k
        have cl : (l.map cOf).length ≤ 70 := by rw [List.length_map]; exact l70
        generalize l.map cOf = cs at aR prs k cl
        have wl := aR.1
        refine iteF ⟨_, rfl, s, rfl, ⟨_, hT⟩, fun D hD => ?_⟩
        refine lc_tup (K := K) (a := s) (xs := ws) (fun i H' => Same H1 H' ∧ H' D = some (.lst (((cs.map fun c => !(c.getD 0 0 == c.getD 1 0)).take i).map V.bl))) ⟨Same.new hD, upd_same⟩ (fun i H' _ h => h.1.sqT hT) (fun i x H2 hi g => ?_) fun H2 g => ?_
        · obtain ⟨s2, d2⟩ := g
          obtain ⟨c, hcc, a, rfl, r⟩ := aR.2 i x hi
          obtain ⟨u, v, rfl⟩ := prs c (List.mem_of_getElem? hcc)
          have il := (List.getElem?_eq_some_iff.mp hi).1
          refine ⟨a, _, rfl, s2.sqT r, rfl, _, _, rfl, _, _, rfl, rfl, ?_⟩
          refine ⟨rfl, _, rfl, _, rfl, rfl, _, d2, by rw [List.length_map, List.length_take, sizeLine_eq]; omega, s2.mut hD, ?_⟩
          have e : (cs.map fun c => !(c.getD 0 0 == c.getD 1 0))[i]? = some (!(u == v)) := by rw [List.getElem?_map, hcc] <;> rfl
          rw [upd_same, List.take_add_one, e, List.map_append, dec_int] <;> rfl
        · obtain ⟨s2, d2⟩ := g
          rw [List.take_of_length_le (l := cs.map fun c => !(c.getD 0 0 == c.getD 1 0)) (by rw [List.length_map, wl]; exact Nat.le_refl _)] at d2
          refine ⟨D, _, rfl, SqL.of d2, _, rfl, ?_⟩
          have e : (cs.map fun c => !(c.getD 0 0 == c.getD 1 0)).all id = irrB cs := by
            unfold irrB
            rw [List.all_map] <;> rfl
          rw [e]
          cases hir : irrB cs with
          | false =>
            rw [hir, Bool.false_and] at k
            exact iteF (k H2 (s1.trans s2))
          | true =>
            rw [hir, Bool.true_and] at k
            have s12 := s1.trans s2
            have aR2 := aR.mono fun _ _ z => RowAt.same s2 z
            refine iteT ⟨_, rfl, s, ws, cs, rfl, s2.sqT hT, aR2, prs, cl, fun J acc H3 s3 e3 A3 => ?_⟩
            have aR3 := aR2.mono fun _ _ z => RowAt.same s3 z
            refine ⟨J, rfl, ⟨_, SqL.of e3⟩, fun B hB => ?_⟩
            have al := A3.1
            refine lc_list (K := K) (a := J) (xs := acc) (fun i H' => Same H3 H' ∧ H' B = some (.lst ((((joinF cs).map fun c => decide (c ∈ cs)).take i).map V.bl))) ⟨Same.new hB, upd_same⟩ (fun i H' _ h => SqL.of (h.1 _ _ e3)) (fun i x H4 hi g => ?_) fun H4 g => ?_
            · obtain ⟨s4, b4⟩ := g
              obtain ⟨c, hcc, a, rfl, r⟩ := A3.2 i x hi
              refine ⟨rfl, _, rfl, _, rfl, tupD c, cs.map tupD, .tup (s4.sqT r) (dp_ints _), .tup ((s2.trans (s3.trans s4)).sqT hT) (dp_all (g := tupD) (R := RowAt K H4) (fun _ _ => dp_row) (aR3.mono fun _ _ z => RowAt.same s4 z)), sh_tup _, sh_ttt _, ?_⟩
              refine ⟨_, b4, ?_, s4.mut hB, ?_⟩
              · rw [List.length_map, List.length_take, List.length_map, sizeLine_eq]
                have jl : (joinF cs).length ≤ 4900 := join_len cl
                omega
              · have e : ((joinF cs).map fun c => decide (c ∈ cs))[i]? = some (decide (c ∈ cs)) := by rw [List.getElem?_map, hcc] <;> rfl
                rw [upd_same, any_tup, List.take_add_one, e, List.map_append] <;> rfl
            · obtain ⟨s4, b4⟩ := g
              rw [List.take_of_length_le (l := (joinF cs).map fun c => decide (c ∈ cs)) (by rw [List.length_map, al]; exact Nat.le_refl _)] at b4
              refine ⟨B, _, rfl, SqL.of b4, ?_⟩
              have e : ((joinF cs).map fun c => decide (c ∈ cs)).all id = clB cs := by
                unfold clB
                rw [List.all_map] <;> rfl
              rw [e]
              exact k H4 (s12.trans (s3.trans s4))
end
end Law

namespace L2
open PySem PySem.Spec PyProof.Rows Law
def stepS (xs : List Int) (s : Int) : Int := xs.getD s.toNat 0
def LdOk (n : Nat) (xs : List Int) : Prop := xs.length = n ∧ ∀ x ∈ xs, 0 ≤ x ∧ x < (n : Int)
def LsOk (n : Nat) (Ls : List (List Int)) : Prop := ∀ xs ∈ Ls, LdOk n xs
theorem stepS_in {n : Nat} {xs : List Int} (h : LdOk n xs) {s : Int} (hs : 0 ≤ s ∧ s < (n : Int)) : 0 ≤ stepS xs s ∧ stepS xs s < (n : Int) := by
  unfold stepS
  rw [List.getD_eq_getElem?_getD, List.getElem?_eq_getElem (show s.toNat < xs.length by rw [h.1]; omega)]
  exact h.2 _ (List.getElem_mem _)
theorem step_at {n : Nat} {xs : List Int} (h : LdOk n xs) {s : Int} (hs : 0 ≤ s ∧ s < (n : Int)) : atI (xs.map V.int) s = some (.int (stepS xs s)) := by
  obtain ⟨j, rfl⟩ := Int.eq_ofNat_of_zero_le hs.1
  have hj : j < xs.length := by rw [h.1]; omega
  refine atI_nat ?_
  unfold stepS
  rw [List.getElem?_map, List.getD_eq_getElem?_getD, Int.toNat_natCast, List.getElem?_eq_getElem hj] <;> rfl
def LsOf (ms : List Mv) : List (List Int) := ms.map (·.2)
theorem ls_ok {many : Nat} {ms : List Mv} (h : ∀ m ∈ ms, MvOk many m) : LsOk many (LsOf ms) := fun xs hx => by
  obtain ⟨m, hm, rfl⟩ := List.mem_map.mp hx
  obtain ⟨_, _, _, h1, h2⟩ := h m hm
  exact ⟨h1, h2⟩
theorem ls_get {ms : List Mv} {i : Nat} {m : Mv} (h : ms[i]? = some m) : (LsOf ms)[i]? = some m.2 := by
  unfold LsOf
  rw [List.getElem?_map, h] <;> rfl
/-! ### a pair led out of the lot -/
def ledP (xs c : List Int) : List Int := [stepS xs (c.getD 0 0), stepS xs (c.getD 1 0)]
def badB (xs : List Int) (cs : List (List Int)) (c : List Int) : Bool := !(stepS xs (c.getD 0 0) == stepS xs (c.getD 1 0)) && !decide (ledP xs c ∈ cs)
def BrkAt (Ls cs : List (List Int)) : Option (Nat × Nat) → Prop
  | none => ∀ (i : Nat) c, cs[i]? = some c → ∀ (j : Nat) xs, Ls[j]? = some xs → badB xs cs c = false
  | some p => ∃ c xs, cs[p.1]? = some c ∧ Ls[p.2]? = some xs ∧ badB xs cs c = true ∧ (∀ (i : Nat) d, i < p.1 → cs[i]? = some d → ∀ (j : Nat) ys, Ls[j]? = some ys → badB ys cs d = false) ∧ ∀ (j : Nat) ys, j < p.2 → Ls[j]? = some ys → badB ys cs c = false
theorem BrkAt.one {Ls cs : List (List Int)} : ∀ {r q : Option (Nat × Nat)}, BrkAt Ls cs r → BrkAt Ls cs q → r = q
  | none, none, _, _ => rfl
  | none, some p, h, ⟨c, xs, h1, h2, h3, _⟩ => by
    rw [h _ c h1 _ xs h2] at h3
    cases h3
  | some p, none, ⟨c, xs, h1, h2, h3, _⟩, h => by
    rw [h _ c h1 _ xs h2] at h3
    cases h3
  | some (i, j), some (a, b), ⟨c, xs, h1, h2, h3, h4, h5⟩, ⟨d, ys, g1, g2, g3, g4, g5⟩ => by
    rcases Nat.lt_trichotomy i a with z | z | z
    · rw [g4 i c z h1 j xs h2] at h3
      cases h3
    · have z : i = a := z
      subst z
      have g1 : cs[i]? = some d := g1
      have h1 : cs[i]? = some c := h1
      rw [h1] at g1
      cases g1
      rcases Nat.lt_trichotomy j b with y | y | y
      · rw [g5 j xs y h2] at h3
        cases h3
      · have y : j = b := y
        rw [y]
      · rw [h5 b ys y g2] at g3
        cases g3
    · rw [h4 a d z g1 b ys g2] at g3
      cases g3
def rNotInDT (K : PySem.W.Frag) : R2 := fun x y H Q => ∃ d ds, Dp K H x d ∧ Dp K H y (.tuple ds) ∧ SeqAt.shaped d = true ∧ SeqAt.shaped (.tuple ds) = true ∧ Q (.bl (!(ds.any fun z => PyData.eqv z d))) H
theorem op_notInDT {X : Cx} (hu : X.A.units + 65 < cLine) : OpR X (compareOp .NotIn) (rNotInDT X.K) := by
  intro pins s σ H x y v u Q I rx ry h
  obtain ⟨d, ds, hd, he, sd, se, q⟩ := h
  obtain ⟨as, r1⟩ := Dp.reads I d x v hd rx
  obtain ⟨bs, r2⟩ := Dp.reads I (.tuple ds) y u he ry
  exact SeqAt.notIn_tuple_reads r2 r1 (SeqAt.canLay_of_shaped se) (SeqAt.canLay_of_shaped sd) (room_in_shaped sd hu) ⟨.bl _, H, I, rfl, q⟩
end L2
namespace Law
open PySem L2
/-- the rows as parts of a thing -/
def rowP (c : List Int) : P1 := .tup (c.map V.int)
theorem row_at1 {K : PySem.W.Frag} {H : Hp} {v : V} {c : List Int} (h : RowAt K H v c) (hc : c.length ≤ 1000) : At1 K H v (rowP c) := by
  obtain ⟨a, rfl, h⟩ := h
  refine ⟨a, rfl, h, by rw [List.length_map]; exact hc, fun y hy => ?_⟩
  obtain ⟨i, _, rfl⟩ := List.mem_map.mp hy
  exact .inl ⟨i, rfl⟩
theorem rows_at2 {K : PySem.W.Frag} {H : Hp} {a : Addr} {ws : List V} {cs : List (List Int)} (h : SqT K H a ws) (hA : AllIn (RowAt K H) ws cs) (hl : cs.length ≤ 200) (h2 : ∀ c ∈ cs, c.length ≤ 1000) : At2 K H (.ref a) (.tup (cs.map rowP)) := by
  refine ⟨a, ws, rfl, h, ⟨by rw [hA.1, List.length_map], fun i v hv => ?_⟩, by rw [List.length_map]; exact hl⟩
  obtain ⟨c, hc, hr⟩ := hA.2 i v hv
  exact ⟨rowP c, by rw [List.getElem?_map, hc] <;> rfl, row_at1 hr (h2 c (List.mem_of_getElem? hc))⟩
theorem cOf_row (c : List Int) : cOf (rowP c) = c := by
  show (c.map V.int).map _ = c
  rw [List.map_map]
  exact List.map_id _
theorem rows_back (cs : List (List Int)) : (cs.map rowP).map cOf = cs := by
  rw [List.map_map]
  have : (cOf ∘ rowP) = id := funext cOf_row
  rw [this, List.map_id]
end Law
namespace Law
open PySem L2
theorem ord_in {n : Nat} {cs : List (List Int)} (h : ordB n (.tup (cs.map rowP)) = true) : ∀ c ∈ cs, ∃ a b : Int, c = [a, b] ∧ InN n [a, b] := by
  unfold ordB at h
  rw [Bool.and_eq_true] at h
  have z : ((cs.map rowP).all (pairW n) && ascB ((cs.map rowP).map cOf)) = true := h.1
  rw [Bool.and_eq_true] at z
  have y := pairs_in z.1
  rw [rows_back] at y
  exact y
section
variable {P : Program} {w : World} {K : PySem.W.Frag} {mg : Str → Option Value} {base : Heap}
def BrkV (K : PySem.W.Frag) (H : Hp) (cs : List (List Int)) (x : V) : Option (Nat × Nat) → Prop
  | none => x = .non
  | some p => RowAt K H x (cs.getD p.1 [] ++ [(p.2 : Int)])
def spBrk (K : PySem.W.Frag) (C : Addr) : Sp := fun vs H Q _ => ∃ (q s : Addr) (many : Nat) (ms : List Mv) (ws : List V) (cs : List (List Int)), vs = [.ref q, .ref s] ∧ SysAt K C H q many ms ∧ many ≤ 12 ∧ (∀ m ∈ ms, MvOk many m) ∧ SqT K H s ws ∧ AllIn (RowAt K H) ws cs ∧ cs.length ≤ 70 ∧ ordB many (.tup (cs.map rowP)) = true ∧
  ∀ (x : V) (r : Option (Nat × Nat)) (H' : Hp), Same H H' → BrkAt (LsOf ms) cs r → BrkV K H' cs x r → Q x H'
abbrev nBreaking : List Str := ["system", "order", "one", "other", "move", "_", "leads", "pair"]
theorem scBreaking : FnScope nBreaking ["system", "order"] (defScope s_breaking) := ⟨rfl, rfl, rfl, by decide +kernel, rfl, by decide +kernel, by decide +kernel⟩
theorem ok_breaking {f : Addr} {fd : FuncData} {fcOrder : Addr} {fdcOrder : FuncData} {C : Addr} (F : Fun K "breaking" "breaking" s_breaking f fd) (T : NmA mg) (cOrder : Cl P w K mg base CX0 6 "is_order" fcOrder fdcOrder ["system", "thing"] (spOrder K C)) (S : SysT K mg C) : FnOk P w K mg base CX0 7 f fd ["system", "order"] (spBrk K C) := by
  refine F.ok scBreaking (fun vs H Q E h => ?_) (fun cdv A' outer s H vs Q E hr h => ?_)
  · obtain ⟨q, s, many, ms, ws, cs, rfl, _⟩ := h
    rfl
  · obtain ⟨q, s, many, ms, ws, cs, rfl, hM, m12, mo, hT, hA, l70, ho, k⟩ := h
    have hu := hu_of hr
    refine ⟨_, pss_cons (ps_if (pt_not (pt_val (cOrder.call (hr.mono (by decide)) (pa_cons (pv 0) (pa_cons (pv 1) pa_nil)))))
        pss_never pss_nil)
      (pss_cons (ps_for PassesOwn.never rfl (pi_tup (pv 1)) (pg_tup (by rfl) (pgs_cons (pg_name (i := 2) scBreaking.nd rfl (Or.inl rfl)) (pgs_cons (pg_name (i := 3) scBreaking.nd rfl (Or.inl rfl)) pgs_nil)))
        (pss_one (ps_for PassesOwn.never rfl (pi_enumT (by rfl) T.enum (pa_cons (pe_fld (pv 0) rfl) pa_nil)) (pg_tup (by rfl) (pgs_cons (pg_name (i := 4) scBreaking.nd rfl (Or.inl rfl)) (pgs_cons (pg_tup (by rfl) (pgs_cons (pg_name (i := 5) scBreaking.nd rfl (Or.inl rfl)) (pgs_cons (pg_name (i := 6) scBreaking.nd rfl (Or.inl rfl)) pgs_nil))) pgs_nil)))
          (pss_cons (ps_set (i := 7) scBreaking.nd rfl (Or.inl rfl) (pe_tup (pa_cons (pe_ix ix_tup (pv 6) (pv 2) (fun _ _ => rfl)) (pa_cons (pe_ix ix_tup (pv 6) (pv 3) (fun _ _ => rfl)) pa_nil))))
          (pss_one (ps_if (PW.pt (pw_and (pt_cmpR op_ne (pe_ix ix_tup (pv 7) pe_int (fun _ _ => rfl)) (pe_ix ix_tup (pv 7) pe_int (fun _ _ => rfl)) (nomark _)) (pw_and1 (pt_cmpR (op_notInDT (units65 hr)) (pv 7) (pv 1) (by rfl)))))
            (pss_one (ps_ret (pe_tup (pa_cons (pv 2) (pa_cons (pv 3) (pa_cons (pv 4) pa_nil)))))) pss_nil))))))
      (pss_one (ps_ret pe_non))), ?_⟩
    have prs := ord_in ho
    have sm : ∀ c ∈ cs, c.length ≤ 1000 := fun c hc => by
      obtain ⟨a, b, rfl, _⟩ := prs c hc
      show 2 ≤ 1000
      decide
    have wl := hA.1
    refine ⟨_, rfl, _, rfl, q, .ref s, many, ms, _, rfl, hM, m12, rows_at2 hT hA (by omega) sm, fun l e => by cases e; rw [List.length_map]; exact l70, fun H1 s1 => ?_⟩
    rw [ho]
    refine ⟨_, rfl, iteF ?_⟩
    obtain ⟨dx, mv, hp, us, hV, hU⟩ := id (hM.same s1)
    have hT1 := s1.sqT hT
    have hA1 := hA.mono fun _ _ z => RowAt.same s1 z
    refine ⟨_, rfl, s, rfl, ⟨_, hT1⟩, ?_⟩
    refine for_tup (K := K) (a := s) (xs := ws) (fun i σ H' => Same H1 H' ∧ (∀ (i' : Nat) d, i' < i → cs[i']? = some d → ∀ (j : Nat) ys, (LsOf ms)[j]? = some ys → badB ys cs d = false) ∧ ∃ u2 u3 u4 u5 u6 u7 : Option V, σ = [some (.ref q), some (.ref s), u2, u3, u4, u5, u6, u7]) ⟨Same.refl H1, fun i' d h => absurd h (Nat.not_lt_zero _), none, none, none, none, none, none, rfl⟩ (fun i σ H' _ h => h.1.sqT hT1) ?_ ?_
    · rintro i x σ H2 hi ⟨s2, good, u2, u3, u4, u5, u6, u7, rfl⟩
      obtain ⟨c, hc, a, rfl, ha⟩ := hA1.2 i x hi
      obtain ⟨c0, c1, rfl, cN⟩ := prs c (List.mem_of_getElem? hc)
      have n0 := cN c0 List.mem_cons_self
      have n1 := cN c1 (by simp)
      refine ⟨a, _, rfl, s2.sqT ha, rfl, _, _, rfl, _, _, rfl, rfl, ?_⟩
      refine ⟨_, rfl, q, C, dx, _, _, rfl, s2 _ _ hp, S.cl, S.nM, sysF_moves _ _, mv, us, rfl, s2.sqT hV, ?_⟩
      refine for_it walk_enumT (fun j σ H' => Same H1 H' ∧ (∀ (j' : Nat) ys, j' < j → (LsOf ms)[j']? = some ys → badB ys cs [c0, c1] = false) ∧ ∃ u4 u5 u6 u7 : Option V, σ = [some (.ref q), some (.ref s), some (.int c0), some (.int c1), u4, u5, u6, u7]) ⟨s2, fun j' d h => absurd h (Nat.not_lt_zero _), _, _, _, _, rfl⟩ (fun j σ H' _ h => h.1.sqT hV) ?_ ?_
      · rintro j x σ H3 H4 hj ⟨s3, good2, u4, u5, u6, u7, rfl⟩ ⟨t, y, rfl, ht, rfl, hy⟩
        obtain ⟨m, hm, aa, ss, la, rfl, h3, h4, h5⟩ := hU.2 j y hy
        obtain ⟨_, _, _, m1, m2⟩ := mo m (List.mem_of_getElem? hm)
        have ldk : LdOk many m.2 := ⟨m1, m2⟩
        refine new_step ht fun H5 s5 e5 => ?_
        have s15 := s3.trans s5
        refine ⟨t, _, rfl, SqT.of e5, rfl, _, _, rfl, _, _, rfl, aa, _, rfl, s15.sqT h3, rfl, _, _, rfl, _, _, rfl, rfl, rfl, ?_⟩
        refine ⟨_, rfl, _, rfl, la, _, c0, _, rfl, rfl, s15.sqT h5, step_at ldk n0, _, rfl, _, rfl, la, _, c1, _, rfl, rfl, s15.sqT h5, step_at ldk n1, by show 2 ≤ sizeLine; decide, fun p2 hp2 => ?_⟩
        refine new_step hp2 fun H6 s6 e6 => ?_
        have s16 := s15.trans s6
        have rp : RowAt K H6 (.ref p2) (ledP m.2 [c0, c1]) := ⟨p2, rfl, SqT.of e6⟩
        have hT6 := s16.sqT hT1
        have hA6 := hA1.mono fun _ _ z => RowAt.same s16 z
        have bad : badB m.2 cs [c0, c1] = (!(stepS m.2 c0 == stepS m.2 c1) && !decide (ledP m.2 [c0, c1] ∈ cs)) := rfl
        have lsj := ls_get hm
        have next : badB m.2 cs [c0, c1] = false → ∀ (j' : Nat) ys, j' < j + 1 → (LsOf ms)[j']? = some ys → badB ys cs [c0, c1] = false := fun e j' ys hlt hys => by
          by_cases c : j' = j
          · rw [c, lsj] at hys
            cases hys
            exact e
          · exact good2 j' ys (by omega) hys
        refine ⟨_, rfl, p2, _, (0 : Int), _, rfl, rfl, SqT.of e6, rfl, _, rfl, p2, _, (1 : Int), _, rfl, rfl, SqT.of e6, rfl, rfl, _, rfl, ?_⟩
        rw [dec_int]
        refine ite2 (fun e => ?_) (fun e => ?_)
        · rw [e, Bool.true_and] at bad
          refine ⟨_, rfl, _, rfl, tupD (ledP m.2 [c0, c1]), cs.map tupD, dp_row rp, .tup hT6 (dp_all (g := tupD) (R := RowAt K H6) (fun _ _ => dp_row) hA6), sh_tup _, sh_ttt _, _, rfl, ?_⟩
          rw [any_tup]
          refine ite2 (fun e2 => ?_) (fun e2 => ?_)
          · rw [e2] at bad
            refine ⟨_, rfl, _, rfl, _, rfl, by show 3 ≤ sizeLine; decide, fun t3 ht3 => ?_⟩
            refine new_step ht3 fun H7 s7 e7 => ?_
            refine k (.ref t3) (some (i, j)) H7 (s1.trans (s16.trans s7)) ⟨_, m.2, hc, lsj, bad, good, good2⟩ ⟨t3, rfl, SqT.of ?_⟩
            have eg : cs.getD i [] = [c0, c1] := by rw [List.getD_eq_getElem?_getD, hc] <;> rfl
            rw [e7]
            show _ = some (HO.tup ((cs.getD i [] ++ [(j : Int)]).map V.int))
            rw [eg] <;> rfl
          · rw [Bool.not_eq_true] at e2
            rw [e2] at bad
            exact ⟨s16, next bad, _, _, _, _, rfl⟩
        · rw [Bool.not_eq_true] at e
          rw [e, Bool.false_and] at bad
          exact ⟨s16, next bad, _, _, _, _, rfl⟩
      · rintro σ H3 ⟨s3, good2, u4, u5, u6, u7, rfl⟩
        refine ⟨s3, fun i' d hlt hd j ys hys => ?_, _, _, _, _, _, _, rfl⟩
        by_cases e : i' = i
        · rw [e, hc] at hd
          cases hd
          refine good2 j ys ?_ hys
          have z := (List.getElem?_eq_some_iff.mp hys).1
          have y : (LsOf ms).length = us.length := by
            unfold LsOf
            rw [List.length_map]
            exact hU.1.symm
          omega
        · exact good i' d (by omega) hd j ys hys
    · rintro σ H2 ⟨s2, good, u2, u3, u4, u5, u6, u7, rfl⟩
      refine k .non none H2 (s1.trans s2) (fun i d hd j ys hys => good i d ?_ hd j ys hys) rfl
      have z := (List.getElem?_eq_some_iff.mp hd).1
      omega
end
end Law

namespace Law
open PySem L2
def lowB (n : Nat) (cs : List (List Int)) (s : Int) : Bool := (upto n).all fun t => t == s || decide ([s, t] ∈ cs)
def highB (n : Nat) (cs : List (List Int)) (s : Int) : Bool := (upto n).all fun t => t == s || decide ([t, s] ∈ cs)
def EndAt (n : Nat) (f : Int → Bool) : Option Int → Prop
  | none => ∀ s, s ∈ upto n → f s = false
  | some s => s ∈ upto n ∧ f s = true
def optV : Option Int → V
  | none => .non
  | some s => .int s
def othF (n : Nat) (s : Int) : List Int := (upto n).filter fun t => !(t == s)
theorem oth_low (n : Nat) (cs : List (List Int)) (s : Int) (g : Int → List Int) : (othF n s).all (fun t => decide (g t ∈ cs)) = (upto n).all fun t => t == s || decide (g t ∈ cs) := by
  unfold othF
  rw [List.all_filter]
  refine congrArg (fun f => (upto n).all f) (funext fun t => ?_)
  cases t == s <;> rfl
/-- the last one so far -/
def lastF (f : Int → Bool) (i : Nat) : Option Int := ((upto i).filter f).getLast?
theorem last_snoc (f : Int → Bool) (i : Nat) : lastF f (i + 1) = if f (i : Int) = true then some (i : Int) else lastF f i := by
  unfold lastF
  rw [upto_snoc, List.filter_append, List.filter_cons, List.filter_nil]
  by_cases h : f (i : Int) = true
  · rw [if_pos h, if_pos h, List.getLast?_append]
    rfl
  · rw [if_neg h, if_neg h, List.append_nil]
theorem last_at {n : Nat} {f : Int → Bool} : EndAt n f (lastF f n) := by
  cases h : lastF f n with
  | none =>
    intro s hs
    unfold lastF at h
    rw [List.getLast?_eq_none_iff] at h
    cases q : f s with
    | false => rfl
    | true =>
      have : s ∈ (upto n).filter f := List.mem_filter.mpr ⟨hs, q⟩
      rw [h] at this
      exact absurd this List.not_mem_nil
  | some s =>
    unfold lastF at h
    exact List.mem_filter.mp (List.mem_of_getLast? h)
section
variable {P : Program} {w : World} {K : PySem.W.Frag} {mg : Str → Option Value} {base : Heap}
def spEnds (K : PySem.W.Frag) (C : Addr) : Sp := fun vs H Q _ => ∃ (q s : Addr) (many : Nat) (ms : List Mv) (ws : List V) (cs : List (List Int)), vs = [.ref q, .ref s] ∧ SysAt K C H q many ms ∧ many ≤ 12 ∧ SqT K H s ws ∧ AllIn (RowAt K H) ws cs ∧ cs.length ≤ 70 ∧ ordB many (.tup (cs.map rowP)) = true ∧
  ∀ (a : Addr) (rl rh : Option Int) (H' : Hp), Same H H' → H' a = some (.tup [optV rl, optV rh]) → EndAt many (lowB many cs) rl → EndAt many (highB many cs) rh → Q (.ref a) H'
abbrev nEnds : List Str := ["system", "order", "states", "low", "high", "state", "others", "other"]
theorem scEnds : FnScope nEnds ["system", "order"] (defScope s_ends) := ⟨rfl, rfl, rfl, by decide +kernel, rfl, by decide +kernel, by decide +kernel⟩
theorem ok_ends {f : Addr} {fd : FuncData} {fcOrder : Addr} {fdcOrder : FuncData} {C : Addr} (F : Fun K "ends" "ends" s_ends f fd) (T : NmA mg) (cOrder : Cl P w K mg base CX0 6 "is_order" fcOrder fdcOrder ["system", "thing"] (spOrder K C)) (S : SysT K mg C) : FnOk P w K mg base CX0 7 f fd ["system", "order"] (spEnds K C) := by
  refine F.ok scEnds (fun vs H Q E h => ?_) (fun cdv A' outer s H vs Q E hr h => ?_)
  · obtain ⟨q, s, many, ms, ws, cs, rfl, _⟩ := h
    rfl
  · obtain ⟨q, s, many, ms, ws, cs, rfl, hM, m12, hT, hA, l70, ho, k⟩ := h
    have hu := hu_of hr
    refine ⟨_, pss_cons (ps_if (pt_not (pt_val (cOrder.call (hr.mono (by decide)) (pa_cons (pv 0) (pa_cons (pv 1) pa_nil)))))
        pss_never pss_nil)
      (pss_cons (ps_set (i := 2) scEnds.nd rfl (Or.inl rfl) (pe_callTy cr_range1 (by rfl) T.range (by decide +kernel) (pa_cons (pe_fld (pv 0) rfl) pa_nil)))
      (pss_cons (ps_set (i := 3) scEnds.nd rfl (Or.inl rfl) pe_non)
      (pss_cons (ps_set (i := 4) scEnds.nd rfl (Or.inl rfl) pe_non)
      (pss_cons (ps_for PassesOwn.never rfl (pi_rngV (pv 2)) (pg_name (i := 5) scEnds.nd rfl (Or.inr rfl))
        (pss_cons (ps_setLc (i := 6) (own := [("other", 7)]) (g := (gName 7)) (tt := _) (by rfl) scEnds.nd rfl rfl (sw_true rfl rfl rfl (by decide +kernel)) (pi_rngV (pv 2)) (blkOk_by (own := [("other", 7)]) (N := nEnds) (sc := defScope s_ends) (by decide +kernel)) (fun _ _ _ _ _ => (pg_name (i := 7) scEnds.nd rfl (Or.inl rfl))) (fun _ _ _ _ _ => (pts_one (pt_cmpR op_ne (pv 7) (pv 5) (nomark _)))) (fun _ _ _ _ _ => (pv 7)))
        (Evl.pss_cut (ps_if (pt_val (pe_callB (cr_all rfl) (by rfl) T.all (by decide +kernel) (pa_cons (pe_lc (own := [("other", 7)]) (g := (gName 7)) (tt := tYes) rfl scEnds.nd  (pi_list (pv 6)) (blkOk_by (own := [("other", 7)]) (N := nEnds) (sc := defScope s_ends) (by decide +kernel)) (fun _ _ _ _ _ => (pg_name (i := 7) scEnds.nd rfl (Or.inl rfl))) (fun _ _ _ _ _ => pts_nil) (fun _ _ _ _ _ => (pe_cmpR (r := rInDT K) (show OpR _ (compareOp .In) (rInDT K) from op_inDT (units65 hr)) (pe_tup (pa_cons (pv 5) (pa_cons (pv 7) pa_nil))) (pv 1) (by rfl)))) pa_nil)))
          (pss_one (ps_set (i := 3) scEnds.nd rfl (Or.inl rfl) (pv 5))) pss_nil)
        (pss_one (ps_if (pt_val (pe_callB (cr_all rfl) (by rfl) T.all (by decide +kernel) (pa_cons (pe_lc (own := [("other", 7)]) (g := (gName 7)) (tt := tYes) rfl scEnds.nd  (pi_list (pv 6)) (blkOk_by (own := [("other", 7)]) (N := nEnds) (sc := defScope s_ends) (by decide +kernel)) (fun _ _ _ _ _ => (pg_name (i := 7) scEnds.nd rfl (Or.inl rfl))) (fun _ _ _ _ _ => pts_nil) (fun _ _ _ _ _ => (pe_cmpR (r := rInDT K) (show OpR _ (compareOp .In) (rInDT K) from op_inDT (units65 hr)) (pe_tup (pa_cons (pv 7) (pa_cons (pv 5) pa_nil))) (pv 1) (by rfl)))) pa_nil)))
          (pss_one (ps_set (i := 4) scEnds.nd rfl (Or.inl rfl) (pv 5))) pss_nil)))))
      (pss_one (ps_ret (pe_tup (pa_cons (pv 3) (pa_cons (pv 4) pa_nil))))))))), ?_⟩
    have prs := ord_in ho
    have sm : ∀ c ∈ cs, c.length ≤ 1000 := fun c hc => by
      obtain ⟨a, b, rfl, _⟩ := prs c hc
      show 2 ≤ 1000
      decide
    have wl := hA.1
    refine ⟨_, rfl, _, rfl, q, .ref s, many, ms, _, rfl, hM, m12, rows_at2 hT hA (by omega) sm, fun l e => by cases e; rw [List.length_map]; exact l70, fun H1 s1 => ?_⟩
    rw [ho]
    refine ⟨_, rfl, iteF ?_⟩
    obtain ⟨dx, mv, hp, _⟩ := id (hM.same s1)
    have hT1 := s1.sqT hT
    have hA1 := hA.mono fun _ _ z => RowAt.same s1 z
    refine ⟨_, rfl, q, C, dx, _, _, rfl, hp, S.cl, S.nK, sysF_many _ _, (many : Int), rfl, fun G hG => ?_⟩
    refine new_step hG fun H2 s2 e2 => ?_
    refine ⟨_, rfl, G, 0, (many : Int), rfl, e2, ⟨by omega, by omega, by omega, by omega⟩, ?_⟩
    have tn : ((many : Int) - 0).toNat = many := by omega
    refine for_range (lo := 0) (n := ((many : Int) - 0).toNat) (fun i σ H' => Same H2 H' ∧ ∃ u5 u6 u7 : Option V, σ = [some (.ref q), some (.ref s), some (.ref G), some (optV (lastF (lowB many cs) i)), some (optV (lastF (highB many cs) i)), u5, u6, u7]) ⟨Same.refl H2, none, none, none, rfl⟩ ?_ ?_
    · rintro i σ H3 hi ⟨s3, u5, u6, u7, rfl⟩
      rw [tn] at hi
      rw [Int.zero_add]
      refine ⟨_, rfl, G, 0, (many : Int), rfl, s3 _ _ e2, ⟨by omega, by omega, by omega, by omega⟩, fun O hO => ?_⟩
      refine lpG (walk_range (lo := 0) (n := ((many : Int) - 0).toNat)) (fun j H' => Same H3 H' ∧ H' O = some (.lst (((upto j).filter fun t => !(t == (i : Int))).map V.int))) ⟨Same.new hO, upd_same⟩ (fun j H' _ h => True.intro) (fun j x H4 H4' hj g y => ?_) fun H4 g => ?_
      · obtain ⟨rfl, hx⟩ := y
        obtain ⟨s4, d4⟩ := g
        obtain rfl : x = V.int (j : Int) := hx.trans (congrArg V.int (Int.zero_add _))
        refine ⟨rfl, _, rfl, _, rfl, rfl, _, rfl, ?_⟩
        rw [dec_int, upto_snoc, List.filter_append, List.filter_cons, List.filter_nil]
        have ll : (((upto j).filter fun t => !(t == (i : Int))).map V.int).length ≤ 12 := by
          rw [List.length_map]
          refine Nat.le_trans (List.length_filter_le _ _) ?_
          rw [upto_len]
          omega
        refine ite2 (fun h => ?_) (fun h => ?_)
        · rw [if_pos h]
          exact ⟨_, rfl, _, d4, by rw [sizeLine_eq]; omega, s4.mut hO, by rw [upd_same, List.map_append] <;> rfl⟩
        · rw [if_neg h, List.append_nil]
          exact ⟨s4, d4⟩
      · obtain ⟨s4, d4⟩ := g
        rw [tn] at d4
        have d4 : H4 O = some (.lst ((othF many (i : Int)).map V.int)) := d4
        have ol : (othF many (i : Int)).length ≤ 12 := by
          refine Nat.le_trans (List.length_filter_le _ _) ?_
          rw [upto_len]
          exact m12
        have s24 := s3.trans s4
        refine ⟨fun σ' H' => Same H2 H' ∧ H' O = some (.lst ((othF many (i : Int)).map V.int)) ∧ ∃ u7 : Option V, σ' = [some (.ref q), some (.ref s), some (.ref G), some (optV (lastF (lowB many cs) (i + 1))), some (optV (lastF (highB many cs) i)), some (.int (i : Int)), some (.ref O), u7], ?_, ?_⟩
        · refine ⟨_, rfl, O, rfl, ⟨_, SqL.of d4⟩, fun B hB => ?_⟩
          refine lc_list (K := K) (a := O) (xs := (othF many (i : Int)).map V.int) (fun j H' => Same H4 H' ∧ H' B = some (.lst ((((othF many (i : Int)).map fun t => decide ([(i : Int), t] ∈ cs)).take j).map V.bl))) ⟨Same.new hB, upd_same⟩ (fun j H' _ h => SqL.of (h.1 _ _ d4)) (fun j x H5 hj g => ?_) fun H5 g => ?_
          · obtain ⟨s5, b5⟩ := g
            rw [List.getElem?_map] at hj
            obtain ⟨t, ht, rfl⟩ := Option.map_eq_some_iff.mp hj
            refine ⟨rfl, _, rfl, _, rfl, by show 2 ≤ sizeLine; decide, fun p hp2 => ?_⟩
            refine new_step hp2 fun H6 s6 e6 => ?_
            have s26 := s24.trans (s5.trans s6)
            have s16 := s2.trans s26
            refine ⟨_, rfl, tupD [(i : Int), t], cs.map tupD, .tup (SqT.of e6) (dp_ints [(i : Int), t]), .tup (s16.sqT hT1) (dp_all (g := tupD) (R := RowAt K H6) (fun _ _ => dp_row) (hA1.mono fun _ _ z => RowAt.same s16 z)), sh_tup _, sh_ttt _, ?_⟩
            refine ⟨_, s6 _ _ b5, ?_, (s5.trans s6).mut hB, ?_⟩
            · rw [List.length_map, List.length_take, List.length_map, sizeLine_eq]
              omega
            · have e : ((othF many (i : Int)).map fun t => decide ([(i : Int), t] ∈ cs))[j]? = some (decide ([(i : Int), t] ∈ cs)) := by rw [List.getElem?_map, ht] <;> rfl
              rw [upd_same, any_tup, List.take_add_one (i := j), e, List.map_append] <;> rfl
          · obtain ⟨s5, b5⟩ := g
            rw [List.take_of_length_le (l := (othF many (i : Int)).map fun t => decide ([(i : Int), t] ∈ cs)) (by rw [List.length_map, List.length_map]; exact Nat.le_refl _)] at b5
            refine ⟨B, _, rfl, SqL.of b5, _, rfl, ?_⟩
            have e : ((othF many (i : Int)).map fun t => decide ([(i : Int), t] ∈ cs)).all id = lowB many cs (i : Int) := by
              rw [List.all_map]
              exact oth_low many cs (i : Int) fun t => [(i : Int), t]
            rw [e, last_snoc]
            have s25 := s24.trans s5
            refine ite2 (fun h => ?_) (fun h => ?_)
            · rw [if_pos h]
              exact ⟨_, rfl, s25, s5 _ _ d4, _, rfl⟩
            · rw [if_neg h]
              exact ⟨s25, s5 _ _ d4, _, rfl⟩
        · rintro σ' H5 ⟨s25, d5, u7, rfl⟩
          refine ⟨_, rfl, O, rfl, ⟨_, SqL.of d5⟩, fun B hB => ?_⟩
          refine lc_list (K := K) (a := O) (xs := (othF many (i : Int)).map V.int) (fun j H' => Same H5 H' ∧ H' B = some (.lst ((((othF many (i : Int)).map fun t => decide ([t, (i : Int)] ∈ cs)).take j).map V.bl))) ⟨Same.new hB, upd_same⟩ (fun j H' _ h => SqL.of (h.1 _ _ d5)) (fun j x H6 hj g => ?_) fun H6 g => ?_
          · obtain ⟨s6, b6⟩ := g
            rw [List.getElem?_map] at hj
            obtain ⟨t, ht, rfl⟩ := Option.map_eq_some_iff.mp hj
            refine ⟨rfl, _, rfl, _, rfl, by show 2 ≤ sizeLine; decide, fun p hp2 => ?_⟩
            refine new_step hp2 fun H7 s7 e7 => ?_
            have s27 := s25.trans (s6.trans s7)
            have s17 := s2.trans s27
            refine ⟨_, rfl, tupD [t, (i : Int)], cs.map tupD, .tup (SqT.of e7) (dp_ints [t, (i : Int)]), .tup (s17.sqT hT1) (dp_all (g := tupD) (R := RowAt K H7) (fun _ _ => dp_row) (hA1.mono fun _ _ z => RowAt.same s17 z)), sh_tup _, sh_ttt _, ?_⟩
            refine ⟨_, s7 _ _ b6, ?_, (s6.trans s7).mut hB, ?_⟩
            · rw [List.length_map, List.length_take, List.length_map, sizeLine_eq]
              omega
            · have e : ((othF many (i : Int)).map fun t => decide ([t, (i : Int)] ∈ cs))[j]? = some (decide ([t, (i : Int)] ∈ cs)) := by rw [List.getElem?_map, ht] <;> rfl
              rw [upd_same, any_tup, List.take_add_one (i := j), e, List.map_append] <;> rfl
          · obtain ⟨s6, b6⟩ := g
            rw [List.take_of_length_le (l := (othF many (i : Int)).map fun t => decide ([t, (i : Int)] ∈ cs)) (by rw [List.length_map, List.length_map]; exact Nat.le_refl _)] at b6
            refine ⟨B, _, rfl, SqL.of b6, _, rfl, ?_⟩
            have e : ((othF many (i : Int)).map fun t => decide ([t, (i : Int)] ∈ cs)).all id = highB many cs (i : Int) := by
              rw [List.all_map]
              exact oth_low many cs (i : Int) fun t => [t, (i : Int)]
            rw [e]
            have s26 := s25.trans s6
            refine ite2 (fun h => ?_) (fun h => ?_)
            · refine ⟨_, rfl, s26, some (.int (i : Int)), some (.ref O), u7, ?_⟩
              rw [last_snoc (highB many cs), if_pos h] <;> rfl
            · refine ⟨s26, some (.int (i : Int)), some (.ref O), u7, ?_⟩
              rw [last_snoc (highB many cs), if_neg h]
    · rintro σ H3 ⟨s3, u5, u6, u7, rfl⟩
      rw [tn]
      refine ⟨_, rfl, _, rfl, by show 2 ≤ sizeLine; decide, fun a ha => ?_⟩
      refine new_step ha fun H4 s4 e4 => ?_
      exact k a _ _ H4 (s1.trans (s2.trans (s3.trans s4))) e4 last_at last_at
end
end Law

namespace L2
open PySem PySem.Spec PyProof.Rows Law
/-! ### ascending lots of couples -/
theorem lexLt_two {a b c d : Int} : HT.lexLt [a, b] [c, d] = true ↔ lexL [a, b] [c, d] := by
  have e : lexL [a, b] [c, d] ↔ (a < c ∨ (a = c ∧ b < d)) := by
    show (a < c ∨ (a = c ∧ (b < d ∨ (b = d ∧ False)))) ↔ _
    simp
  rw [e]
  unfold HT.lexLt
  by_cases h : a = c
  · rw [if_pos h]
    unfold HT.lexLt
    by_cases h2 : b = d
    · rw [if_pos h2]
      unfold HT.lexLt
      simp
      omega
    · rw [if_neg h2, decide_eq_true_iff]
      omega
  · rw [if_neg h, decide_eq_true_iff]
    omega
theorem ascB_iff : ∀ {cs : List (List Int)}, (∀ c ∈ cs, c.length = 2) → (ascB cs = true ↔ cs.Pairwise lexL)
  | [], _ => by simp [ascB]
  | [c], _ => by simp [ascB]
  | c :: d :: cs, h => by
    have ih := ascB_iff (cs := d :: cs) fun x hx => h x (List.mem_cons_of_mem _ hx)
    have e : ascB (c :: d :: cs) = (HT.lexLt c d && ascB (d :: cs)) := rfl
    have hc := h c List.mem_cons_self
    have hd := h d (by simp)
    match c, d, hc, hd with
    | [a, b], [a', b'], _, _ =>
      rw [e, Bool.and_eq_true, ih, lexLt_two, List.pairwise_cons (a := [a, b])]
      constructor
      · rintro ⟨h1, h2⟩
        refine ⟨fun x hx => ?_, h2⟩
        rcases List.mem_cons.mp hx with rfl | hx
        · exact h1
        · exact lexL_trans h1 ((List.pairwise_cons.mp h2).1 x hx)
      · rintro ⟨h1, h2⟩
        exact ⟨h1 _ List.mem_cons_self, h2⟩
theorem lexL_ext : ∀ {a b : List (List Int)}, a.Pairwise lexL → b.Pairwise lexL → (∀ k, k ∈ a ↔ k ∈ b) → a = b
  | [], [], _, _, _ => rfl
  | [], y :: b, _, _, h => absurd ((h y).mpr List.mem_cons_self) List.not_mem_nil
  | x :: a, [], _, _, h => absurd ((h x).mp List.mem_cons_self) List.not_mem_nil
  | x :: a, y :: b, ha, hb, h => by
    rw [List.pairwise_cons] at ha hb
    have exy : x = y := by
      rcases List.mem_cons.mp ((h x).mp List.mem_cons_self) with e | e
      · exact e
      rcases List.mem_cons.mp ((h y).mpr List.mem_cons_self) with e2 | e2
      · exact e2.symm
      exact absurd (lexL_trans (hb.1 x e) (ha.1 y e2)) (lexL_irr _)
    subst exy
    rw [lexL_ext ha.2 hb.2 fun k => ⟨fun hk => ?_, fun hk => ?_⟩]
    · rcases List.mem_cons.mp ((h k).mp (List.mem_cons_of_mem _ hk)) with e | e
      · exact absurd (ha.1 k hk) (by rw [e]; exact lexL_irr _)
      · exact e
    · rcases List.mem_cons.mp ((h k).mpr (List.mem_cons_of_mem _ hk)) with e | e
      · exact absurd (hb.1 k hk) (by rw [e]; exact lexL_irr _)
      · exact e
theorem eqv_lists (cs ds : List (List Int)) : PyData.eqv (.list (cs.map tupD)) (.list (ds.map tupD)) = decide (cs = ds) := by
  rw [PyData.eqv]
  exact eqvAll_map tupD eqv_tupD cs ds
end L2
namespace L2
open PySem PySem.Spec PyProof.Rows Law
/-! ### the least order: what is led from some pairs -/
inductive Tc (Ls B : List (List Int)) : Int → Int → Prop
  | base {a b : Int} : [a, b] ∈ B → Tc Ls B a b
  | step {a b : Int} {xs : List Int} : Tc Ls B a b → xs ∈ Ls → stepS xs a ≠ stepS xs b → Tc Ls B (stepS xs a) (stepS xs b)
  | trans {a b c : Int} : Tc Ls B a b → Tc Ls B b c → Tc Ls B a c
def LeastR (Ls B : List (List Int)) : Option (List (List Int)) → Prop
  | none => ∃ s, Tc Ls B s s
  | some ds => ds.Pairwise lexL ∧ Law.Prs ds ∧ (∀ a b, [a, b] ∈ ds ↔ Tc Ls B a b) ∧ ∀ a b, Tc Ls B a b → a ≠ b
theorem prsExt {a b : List (List Int)} (ha : a.Pairwise lexL) (hb : b.Pairwise lexL) (pa : Law.Prs a) (pb : Law.Prs b) (h : ∀ x y : Int, [x, y] ∈ a ↔ [x, y] ∈ b) : a = b := by
  refine lexL_ext ha hb fun k => ⟨fun hk => ?_, fun hk => ?_⟩
  · obtain ⟨x, y, rfl⟩ := pa k hk
    exact (h x y).mp hk
  · obtain ⟨x, y, rfl⟩ := pb k hk
    exact (h x y).mpr hk
theorem LeastR.one {Ls B : List (List Int)} : ∀ {r q : Option (List (List Int))}, LeastR Ls B r → LeastR Ls B q → r = q
  | none, none, _, _ => rfl
  | none, some _, ⟨s, h⟩, ⟨_, _, _, g⟩ => absurd rfl (g s s h)
  | some _, none, ⟨_, _, _, g⟩, ⟨s, h⟩ => absurd rfl (g s s h)
  | some ds, some es, ⟨h1, h2, h3, _⟩, ⟨g1, g2, g3, _⟩ => by rw [prsExt h1 g1 h2 g2 fun x y => (h3 x y).trans (g3 x y).symm]
/-- what is pushed when [a, b] is put in -/
def movesP (Ls : List (List Int)) (c : List Int) : List (List Int) := Ls.map fun xs => ledP xs c
def belowP (F : List (List Int)) (c : List Int) : List (List Int) := (F.filter fun d => d.getD 1 0 == c.getD 0 0).map fun d => [d.getD 0 0, c.getD 1 0]
def aboveP (F : List (List Int)) (c : List Int) : List (List Int) := (F.filter fun d => d.getD 0 0 == c.getD 1 0).map fun d => [c.getD 0 0, d.getD 1 0]
structure Wk (Ls B F W : List (List Int)) : Prop where
  fp : Law.Prs F
  wp : Law.Prs W
  ft : ∀ a b : Int, [a, b] ∈ F → Tc Ls B a b ∧ a ≠ b
  wt : ∀ a b : Int, [a, b] ∈ W → a = b ∨ Tc Ls B a b
  mv : ∀ a b : Int, [a, b] ∈ F → ∀ xs ∈ Ls, stepS xs a ≠ stepS xs b → [stepS xs a, stepS xs b] ∈ F ∨ [stepS xs a, stepS xs b] ∈ W
  tr : ∀ a b c : Int, [a, b] ∈ F → [b, c] ∈ F → [a, c] ∈ F ∨ [a, c] ∈ W
  cy : ∀ a b : Int, [a, b] ∈ F → [b, a] ∉ F
  bs : ∀ a b : Int, [a, b] ∈ B → [a, b] ∈ F ∨ [a, b] ∈ W
  nd : F.Nodup
theorem Wk.start {Ls B : List (List Int)} (hp : Law.Prs B) : Wk Ls B [] B where
  fp c hc := absurd hc List.not_mem_nil
  wp := hp
  ft a b h := absurd h List.not_mem_nil
  wt a b h := .inr (.base h)
  mv a b h := absurd h List.not_mem_nil
  tr a b c h := absurd h List.not_mem_nil
  cy a b h := absurd h List.not_mem_nil
  bs a b h := .inr h
  nd := List.nodup_nil
theorem Wk.hit {Ls B F W : List (List Int)} {a b : Int} (h : Wk Ls B F (W ++ [[a, b]])) (m : [b, a] ∈ F) : ∃ s, Tc Ls B s s := by
  obtain ⟨t, ne⟩ := h.ft b a m
  rcases h.wt a b (List.mem_append_right _ (List.mem_singleton_self _)) with e | t2
  · exact absurd e.symm ne
  · exact ⟨b, t.trans t2⟩
theorem Wk.skip {Ls B F W : List (List Int)} {a b : Int} (h : Wk Ls B F (W ++ [[a, b]])) (m : [b, a] ∉ F) (hs : a = b ∨ [a, b] ∈ F) (irr : ∀ a b : Int, [a, b] ∈ B → a ≠ b) : Wk Ls B F W where
  fp := h.fp
  wp c hc := h.wp c (List.mem_append_left _ hc)
  ft := h.ft
  wt x y hx := h.wt x y (List.mem_append_left _ hx)
  mv x y hx xs hxs ne := by
    rcases h.mv x y hx xs hxs ne with z | z
    · exact .inl z
    · rcases List.mem_append.mp z with z | z
      · exact .inr z
      · have z := List.mem_singleton.mp z
        injection z with z1 z2
        injection z2 with z2 _
        rcases hs with e | e
        · exact absurd (z1.trans (e.trans z2.symm)) ne
        · rw [z1, z2]
          exact .inl e
  tr x y c hx hy := by
    rcases h.tr x y c hx hy with z | z
    · exact .inl z
    · rcases List.mem_append.mp z with z | z
      · exact .inr z
      · have z := List.mem_singleton.mp z
        injection z with z1 z2
        injection z2 with z2 _
        rcases hs with e | e
        · have e2 : x = c := z1.trans (e.trans z2.symm)
          subst e2
          exact absurd hy (h.cy x y hx)
        · rw [z1, z2]
          exact .inl e
  cy := h.cy
  bs x y hx := by
    rcases h.bs x y hx with z | z
    · exact .inl z
    · rcases List.mem_append.mp z with z | z
      · exact .inr z
      · have z := List.mem_singleton.mp z
        injection z with z1 z2
        injection z2 with z2 _
        rcases hs with e | e
        · exact absurd (z1.trans (e.trans z2.symm)) (irr x y hx)
        · rw [z1, z2]
          exact .inl e
  nd := h.nd
theorem Wk.put {Ls B F W : List (List Int)} {a b : Int} (h : Wk Ls B F (W ++ [[a, b]])) (m : [b, a] ∉ F) (ne : a ≠ b) (nf : [a, b] ∉ F) : Wk Ls B (F ++ [[a, b]]) (W ++ movesP Ls [a, b] ++ belowP F [a, b] ++ aboveP F [a, b]) := by
  have tab : Tc Ls B a b := by
    rcases h.wt a b (List.mem_append_right _ (List.mem_singleton_self _)) with e | t
    · exact absurd e ne
    · exact t
  have inW : ∀ {c : List Int}, c ∈ W ++ [[a, b]] → c ∈ F ++ [[a, b]] ∨ c ∈ W ++ movesP Ls [a, b] ++ belowP F [a, b] ++ aboveP F [a, b] := fun {c} hc => by
    rcases List.mem_append.mp hc with z | z
    · exact .inr (List.mem_append_left _ (List.mem_append_left _ (List.mem_append_left _ z)))
    · exact .inl (List.mem_append_right _ z)
  have inF : ∀ {c : List Int}, c ∈ F → c ∈ F ++ [[a, b]] := fun hc => List.mem_append_left _ hc
  have cases_F : ∀ {x y : Int}, [x, y] ∈ F ++ [[a, b]] → [x, y] ∈ F ∨ (x = a ∧ y = b) := fun {x y} hx => by
    rcases List.mem_append.mp hx with z | z
    · exact .inl z
    · have z := List.mem_singleton.mp z
      injection z with z1 z2
      injection z2 with z2 _
      exact .inr ⟨z1, z2⟩
  have lift : ∀ {c : List Int}, (c ∈ F ∨ c ∈ W ++ [[a, b]]) → c ∈ F ++ [[a, b]] ∨ c ∈ W ++ movesP Ls [a, b] ++ belowP F [a, b] ++ aboveP F [a, b] := fun {c} hc => by
    rcases hc with z | z
    · exact .inl (inF z)
    · exact inW z
  refine ⟨fun c hc => ?_, fun c hc => ?_, fun x y hx => ?_, fun x y hx => ?_, fun x y hx xs hxs n => ?_, fun x y c hx hy => ?_, fun x y hx hy => ?_, fun x y hx => lift (h.bs x y hx), ?_⟩
  · rcases List.mem_append.mp hc with z | z
    · exact h.fp c z
    · exact ⟨a, b, List.mem_singleton.mp z⟩
  · rcases List.mem_append.mp hc with z | z
    · rcases List.mem_append.mp z with z | z
      · rcases List.mem_append.mp z with z | z
        · exact h.wp c (List.mem_append_left _ z)
        · obtain ⟨xs, _, rfl⟩ := List.mem_map.mp z
          exact ⟨_, _, rfl⟩
      · obtain ⟨d, _, rfl⟩ := List.mem_map.mp z
        exact ⟨_, _, rfl⟩
    · obtain ⟨d, _, rfl⟩ := List.mem_map.mp z
      exact ⟨_, _, rfl⟩
  · rcases cases_F hx with z | ⟨rfl, rfl⟩
    · exact h.ft x y z
    · exact ⟨tab, ne⟩
  · rcases List.mem_append.mp hx with z | z
    · rcases List.mem_append.mp z with z | z
      · rcases List.mem_append.mp z with z | z
        · exact h.wt x y (List.mem_append_left _ z)
        · obtain ⟨xs, hxs, e⟩ := List.mem_map.mp z
          injection e with e1 e2
          injection e2 with e2 _
          have e1 : stepS xs a = x := e1
          have e2 : stepS xs b = y := e2
          by_cases q : x = y
          · exact .inl q
          · rw [← e1, ← e2] at q ⊢
            exact .inr (.step tab hxs q)
      · obtain ⟨d, hd, e⟩ := List.mem_map.mp z
        obtain ⟨hd1, he⟩ := List.mem_filter.mp hd
        obtain ⟨u, v, rfl⟩ := h.fp d hd1
        have he : v = a := eq_of_beq he
        subst he
        injection e with e1 e2
        injection e2 with e2 _
        have e1 : u = x := e1
        have e2 : b = y := e2
        subst e1 e2
        exact .inr ((h.ft _ _ hd1).1.trans tab)
    · obtain ⟨d, hd, e⟩ := List.mem_map.mp z
      obtain ⟨hd1, he⟩ := List.mem_filter.mp hd
      obtain ⟨u, v, rfl⟩ := h.fp d hd1
      have he : u = b := eq_of_beq he
      subst he
      injection e with e1 e2
      injection e2 with e2 _
      have e1 : a = x := e1
      have e2 : v = y := e2
      subst e1 e2
      exact .inr (tab.trans (h.ft _ _ hd1).1)
  · rcases cases_F hx with z | ⟨rfl, rfl⟩
    · exact lift (h.mv x y z xs hxs n)
    · exact .inr (List.mem_append_left _ (List.mem_append_left _ (List.mem_append_right _ (List.mem_map.mpr ⟨xs, hxs, rfl⟩))))
  · rcases cases_F hx with z | ⟨rfl, rfl⟩
    · rcases cases_F hy with z2 | ⟨rfl, rfl⟩
      · exact lift (h.tr x y c z z2)
      · exact .inr (List.mem_append_left _ (List.mem_append_right _ (List.mem_map.mpr ⟨[x, y], List.mem_filter.mpr ⟨z, beq_self_eq_true y⟩, rfl⟩)))
    · rcases cases_F hy with z2 | ⟨e, _⟩
      · exact .inr (List.mem_append_right _ (List.mem_map.mpr ⟨[y, c], List.mem_filter.mpr ⟨z2, beq_self_eq_true y⟩, rfl⟩))
      · exact absurd e.symm ne
  · rcases cases_F hx with z | ⟨rfl, rfl⟩
    · rcases cases_F hy with z2 | ⟨e1, e2⟩
      · exact h.cy x y z z2
      · subst e1 e2
        exact m z
    · rcases cases_F hy with z2 | ⟨e1, e2⟩
      · exact m z2
      · exact ne e2
  · rw [List.nodup_append]
    refine ⟨h.nd, by simp, fun u hu v hv e => ?_⟩
    rw [List.mem_singleton.mp hv] at e
    rw [e] at hu
    exact nf hu
theorem Wk.done {Ls B F : List (List Int)} (h : Wk Ls B F []) : (∀ a b : Int, [a, b] ∈ F ↔ Tc Ls B a b) ∧ ∀ a b, Tc Ls B a b → a ≠ b := by
  have key : ∀ a b, Tc Ls B a b → [a, b] ∈ F := by
    intro a b t
    induction t with
    | base m =>
      rcases h.bs _ _ m with z | z
      · exact z
      · exact absurd z List.not_mem_nil
    | step _ hx ne ih =>
      rcases h.mv _ _ ih _ hx ne with z | z
      · exact z
      · exact absurd z List.not_mem_nil
    | trans _ _ ih1 ih2 =>
      rcases h.tr _ _ _ ih1 ih2 with z | z
      · exact z
      · exact absurd z List.not_mem_nil
  exact ⟨fun a b => ⟨fun m => (h.ft a b m).1, key a b⟩, fun a b t => (h.ft a b (key a b t)).2⟩
end L2
namespace L2
open PySem PySem.Spec PyProof.Rows Law
def keyL (c : List Int) : List Key := c.map Sum.inl
theorem keyL_v (c : List Int) : (keyL c).map kV = c.map V.int := by
  unfold keyL
  rw [List.map_map] <;> rfl
theorem keyL_inj {a b : List Int} (h : keyL a = keyL b) : a = b := by
  induction a generalizing b with
  | nil => cases b with
    | nil => rfl
    | cons y b => cases h
  | cons x a ih => cases b with
    | nil => cases h
    | cons y b =>
      unfold keyL at h
      rw [List.map_cons, List.map_cons] at h
      injection h with h1 h2
      injection h1 with h1
      rw [h1, ih h2]
end L2
namespace L2
open PySem PySem.Spec PyProof.Rows Law PySem.W
/-! ### min of a list of rows of which the first is the least -/
theorem alike_ints : ∀ a b : List Int, alikeAll (a.map PyData.int) (b.map PyData.int) = true
  | [], b => by unfold alikeAll; rfl
  | x :: a, [] => by unfold alikeAll; rfl
  | x :: a, y :: b => by
    rw [List.map_cons, List.map_cons, alikeAll, alike_ints a b]
    unfold alike
    rfl
theorem alike_tupD (a b : List Int) : alike (tupD a) (tupD b) = true := by
  unfold tupD alike
  exact alike_ints a b
theorem lt_rows : ∀ {r c : List Int}, lexL r c → PyProof.Rows.lexLt itemOrd (keyToksAll (c.map PyData.int)) (keyToksAll (r.map PyData.int)) = false
  | x :: r, y :: c, h => by
    rw [List.map_cons, List.map_cons, dataLt_cons (by unfold alike; rfl), eqv_int]
    rcases h with h | ⟨rfl, h⟩
    · rw [if_neg (by rw [decide_eq_false (by omega)]; decide), dataLt_int, decide_eq_false (by omega)]
    · rw [if_pos (decide_eq_true rfl)]
      exact lt_rows h
theorem lt_tupD {r c : List Int} (h : lexL r c) : dataLt (tupD c) (tupD r) = false := by
  unfold tupD
  rw [dataLt_tuple]
  exact lt_rows h
theorem minD_first (r : List Int) : ∀ rs : List (List Int), (∀ c ∈ rs, lexL r c) → minD (tupD r) (rs.map tupD) = tupD r := by
  unfold minD
  intro rs
  induction rs with
  | nil => intro _; rfl
  | cons c rs ih =>
    intro h
    rw [List.map_cons, List.foldl_cons, lt_tupD (h c List.mem_cons_self), if_neg Bool.false_ne_true]
    exact ih fun d hd => h d (List.mem_cons_of_mem _ hd)
theorem reads_ints {h : Heap} : ∀ {us : List Value} {a b : List Int} {as bs : List Addr}, ReadsAll h us (a.map PyData.int) as → ReadsAll h us (b.map PyData.int) bs → a = b
  | [], [], [], _, _, _, _ => rfl
  | [], _ :: _, _, _, _, h, _ => by cases h
  | [], [], _ :: _, _, _, _, h => by cases h
  | _ :: _, [], _, _, _, h, _ => by cases h
  | _ :: _, _ :: _, [], _, _, _, h => by cases h
  | u :: us, x :: a, y :: b, _, _, h, g => by
    rw [List.map_cons] at h g
    cases h with
    | cons h1 h2 =>
      cases g with
      | cons g1 g2 =>
        cases h1
        cases g1
        rw [reads_ints h2 g2]
theorem reads_tup {h : Heap} {u : Value} {a b : List Int} {as bs : List Addr} (h1 : Reads h u (tupD a) as) (h2 : Reads h u (tupD b) bs) : a = b := by
  unfold tupD at h1 h2
  cases h1 with
  | tuple e1 e2 e3 e4 =>
    cases h2 with
    | tuple f1 f2 f3 f4 =>
      rw [e1] at f1
      cases f1
      rw [e3] at f3
      cases f3
      exact reads_ints e4 f4
def rMinT (K : PySem.W.Frag) : List V → Hp → VK → Prop := fun vs H Q => ∃ (a : Addr) (xs : List V) (r : List Int) (rs : List (List Int)), vs = [V.ref a] ∧ SqL K H a xs ∧ AllIn (RowAt K H) xs (r :: rs) ∧ (∀ c ∈ rs, lexL r c) ∧ ∀ v, RowAt K H v r → Q v H
theorem cr_minT {X : Cx} (hc : X.calm = true) (hu : X.A.units + 65 < cLine) : CallR X (.builtin "min") (rMinT X.K) := by
  intro pins s σ H vs us Q I r h
  obtain ⟨a, xs, c, cs, rfl, hs, hA, hl, q⟩ := h
  rw [Vals.ref1 r]
  obtain ⟨its, rv, pl, _⟩ := I.list hs
  have dp : DpAll X.K H xs ((c :: cs).map tupD) := dp_all (g := tupD) (R := RowAt X.K H) (fun _ _ => dp_row) hA
  obtain ⟨as, ra⟩ := Dp.readsAll I _ _ _ dp rv
  have dep := (lay_all tupD 1 lay_tupD (c :: cs)).2
  refine min_list_data (I.ok.hd hc) pl.isList (by simpa using ra) ?_ (by rw [← List.map_cons]; omega) fun i v h' tk bs hv hr hk => ?_
  · refine ⟨fun x hx y hy => ?_, fun x hx => ?_⟩
    · rw [← List.map_cons] at hx hy
      obtain ⟨x', _, rfl⟩ := List.mem_map.mp hx
      obtain ⟨y', _, rfl⟩ := List.mem_map.mp hy
      exact alike_tupD x' y'
    · rw [← List.map_cons] at hx
      obtain ⟨x', _, rfl⟩ := List.mem_map.mp hx
      exact fun z => by cases z
  · rw [minD_first c cs hl] at hr
    have hv : its[i]? = some v := by simpa using hv
    have il : i < xs.length := by
      rw [rv.length]
      exact (List.getElem?_eq_some_iff.mp hv).1
    obtain ⟨v', e1, rel⟩ := rv.get (List.getElem?_eq_getElem il)
    rw [hv] at e1
    cases e1
    obtain ⟨d, hd, hrow⟩ := hA.2 i _ (List.getElem?_eq_getElem il)
    have J : Inv X pins σ H { s with heap := h', toks := tk } := I.kept (t' := tk) hk
    obtain ⟨bs2, hr2⟩ := Dp.reads J (tupD d) _ _ (dp_row hrow) rel
    have e : d = c := reads_tup hr2 hr
    subst e
    exact ⟨xs[i], H, J, rel, q _ hrow⟩
end L2
namespace SW
open PySem PySem.Spec PyProof.Rows L2 Law PySem.W
theorem perm_back {α β : Type} {f : α → β} {a b : List β} (h : a.Perm b) : ∀ l : List α, b = l.map f → ∃ m : List α, a = m.map f ∧ m.Perm l := by
  induction h with
  | nil =>
    intro l e
    cases l with
    | nil => exact ⟨[], rfl, .nil⟩
    | cons _ _ => cases e
  | cons x _ ih =>
    intro l e
    cases l with
    | nil => cases e
    | cons p l =>
      injection e with e1 e2
      obtain ⟨m, e3, pm⟩ := ih l e2
      exact ⟨p :: m, by rw [List.map_cons, e1, e3], pm.cons p⟩
  | swap x y t =>
    intro l e
    match l, e with
    | [], e => cases e
    | [_], e => cases e
    | p :: q :: l, e =>
      injection e with e1 e2
      injection e2 with e2 e3
      exact ⟨q :: p :: l, by rw [List.map_cons, List.map_cons, e1, e2, e3], .swap p q l⟩
  | trans _ _ ih1 ih2 =>
    intro l e
    obtain ⟨m, e1, pm⟩ := ih2 l e
    obtain ⟨n, e2, pn⟩ := ih1 m e1
    exact ⟨n, e2, pn.trans pm⟩
theorem reads_row {h : Heap} : ∀ {vs : List Value} {k : List Int}, IntsAre vs k → ReadsAll h vs (k.map PyData.int) []
  | _, _, .nil => .nil
  | _, _, .cons i t r => readsAll_cons_val (.int i t) (reads_row r)
theorem reads_isT {P : Program} {w : World} {h : Heap} {k : List Int} {a : Addr} (x : IsT P w h k a) : Reads h (.ref a) (tupD k) [] := by
  obtain ⟨o, its, n, ho, hc, hd, hi⟩ := x
  exact reads_tuple_at ho hc hd (reads_row (ints_of_items hi))
theorem merge_le {α : Type} (bs : List (α × List Int)) : (bs.mergeSort (dataLe false fun b => tupD b.2)).Pairwise fun a b => dataLt (tupD b.2) (tupD a.2) = false := by
  have T : TotalLe (dataLe false fun b : α × List Int => tupD b.2) := sortLe_total (listOrd itemOrd) false fun b : α × List Int => keyToks (tupD b.2)
  refine (List.pairwise_mergeSort T.trans (fun a b => by rcases T.total a b with h | h <;> rw [h] <;> simp) bs).imp fun {a b} h => ?_
  rw [dataLe_eq] at h
  cases q : dataLt (tupD b.2) (tupD a.2) with
  | false => rfl
  | true =>
    have h : (!dataLt (tupD b.2) (tupD a.2)) = true := h
    rw [q] at h
    cases h
theorem each_refs : ∀ {out : List Value} {bs : List (Addr × List Int)}, EachIs (fun v (b : Addr × List Int) => v = .ref b.1) out bs → out = bs.map fun b => Value.ref b.1 := by
  intro out bs h
  induction h with
  | nil => rfl
  | cons r _ ih => rw [List.map_cons, r, ih]
theorem refs_each : ∀ bs : List (Addr × List Int), EachIs (fun v (b : Addr × List Int) => v = .ref b.1) (bs.map fun b => Value.ref b.1) bs
  | [] => .nil
  | _ :: bs => .cons rfl (refs_each bs)
theorem each_with {α β : Type} {R R' : α → β → Prop} {xs : List α} {bs : List β} (h : EachIs R xs bs) (k : ∀ x b, b ∈ bs → R x b → R' x b) : EachIs R' xs bs := by
  induction h with
  | nil => exact .nil
  | cons r _ ih => exact .cons (k _ _ List.mem_cons_self r) (ih fun x b hb => k x b (List.mem_cons_of_mem _ hb))
end SW
namespace L2
open PySem PySem.Spec PyProof.Rows Law PySem.W
section
variable {prog : Program} {w : World} {A : Around} {E : Value → Shared → Prop} {s : Shared} {T : String} {r d : Addr} {n : Nat} {P : Nat → Value → Prop} {OK : Heap → Prop}
def newL : Obj := { cls := .type "list", data := .seq ([] : List Value).toArray }
/-- all that a source yields, and that the heap has grown -/
theorem col_src {R : List Value → Shared → Prop} (src : KdlSrc prog w T r d n P OK) (calm : A.handled = none) (ok : OK s.heap) (few : n ≤ sizeLine)
    (k : ∀ (h' : Heap) (tk : Nat) (acc : Array Value), (∀ b o, s.heap.get? b = some o → h'.get? b = some o) → s.heap.objs.size ≤ h'.objs.size → ItemsOf P acc n → R acc.toList { s with heap := h', toks := tk }) : wpAny (model prog w) A (collect (.ref r)) R E s := by
  have there := src.there _ ok
  unfold collect
  refine wpAny_bind (wpAny_runValue (codeAny_builtin F.entry_proto_collect ?_))
  rw [Around.under_plainId F.plain_proto_collect _]
  show wpAny _ A.in1 (newList [] >>= fun l => again (.builtin "list.__iadd__" ⟨[l, .ref r], []⟩)) _ _ s
  refine wpAny_bind (wpAny_newObj_type (wpAny_pure ⟨plainId_quiet F.plain_list_iadd _, codeAny_builtin F.entry_list_iadd ?_⟩))
  rw [Around.under_plainId F.plain_list_iadd _]
  show wpAny _ A.in1 (Builtin.List.listExtendWith (.ref s.heap.objs.size) (.ref r) (.ref s.heap.objs.size)) _ _ _
  have walk := kdl_extend (A := A) (s := { s with heap := s.heap.push newL }) (c₀ := 0) (res := .ref s.heap.objs.size) (S := s.heap.objs.size)
    (R := fun (q : Result) (t : Shared) => ∃ (h' : Heap) (tk : Nat) (a1 : Array Value) (c1 : Nat), (q = .ok (.ret (.ref s.heap.objs.size)) ∧ t = { s with heap := h', toks := tk }) ∧ (∀ b o, s.heap.get? b = some o → h'.get? b = some o) ∧ h'.get? s.heap.objs.size = some { cls := .type "list", dict := none, data := .seq a1 c1, slots := #[] } ∧ ItemsOf P a1 n)
    src calm (src.keep _ _ ok fun b _ o e => Heap.get?_push_of_some _ e) (Nat.ne_of_gt there.1) (Nat.ne_of_gt there.2) (Heap.get?_push_size _ rfl)
    (fun h' tk a1 c1 hk hl ha => ⟨h', tk, a1, c1, ⟨rfl, rfl⟩, fun b o e => hk b o (Nat.ne_of_lt (Heap.lt_size e)) (Heap.get?_push_of_some _ e), hl, ha⟩) few
  refine wpAny_mono walk (fun fin t x => ?_) fun e t x => ?_
  · cases fin with
    | done f =>
      obtain ⟨h', tk, a1, c1, ⟨e, rfl⟩, hk, hl, ha⟩ := x
      cases e
      exact wpAny_bind (wpAny_load hl (wpAny_pure (k h' tk a1 hk (Nat.le_of_lt (Heap.lt_size hl)) ha)))
    | again c =>
      refine ⟨x.1, codeAny_mono x.2 fun q t2 y => ?_⟩
      obtain ⟨h', tk, a1, c1, ⟨rfl, rfl⟩, hk, hl, ha⟩ := y
      exact wpAny_bind (wpAny_load hl (wpAny_pure (k h' tk a1 hk (Nat.le_of_lt (Heap.lt_size hl)) ha)))
  · obtain ⟨_, _, _, _, ⟨e, _⟩, _⟩ := x
    cases e
end
end L2
namespace L2
open PySem PySem.Spec PyProof.Rows Law PySem.W
/-- a row that stands as a tuple of its own -/
def RowE (H : Hp) (v : V) (c : List Int) : Prop := ∃ a, v = .ref a ∧ H a = some (.tup (c.map V.int))
theorem RowE.at_ {K : PySem.W.Frag} {H : Hp} {v : V} {c : List Int} (h : RowE H v c) : RowAt K H v c := by
  obtain ⟨a, e, h⟩ := h
  exact ⟨a, e, SqT.of h⟩
theorem RowE.same {H H' : Hp} {v : V} {c : List Int} (s : Same H H') (h : RowE H v c) : RowE H' v c := by
  obtain ⟨a, e, h⟩ := h
  exact ⟨a, e, s _ _ h⟩
theorem rows_of_dT {H : Hp} : ∀ {kvs : List (List Key × V)} {xs : List (List Key × Addr × Value)} {cs : List (List Int)}, Paired (fun (p : List Key × V) (q : List Key × Addr × Value) => p.1 = q.1 ∧ H q.2.1 = some (.tup (p.1.map kV)) ∧ RelV p.2 q.2.2) kvs xs → kvs.map (·.1) = cs.map keyL →
    ∃ ks : List (Addr × List Int), xs.map (fun q => q.2.1) = ks.map (·.1) ∧ cs = ks.map (·.2) ∧ ∀ p ∈ ks, H p.1 = some (.tup (p.2.map V.int))
  | _, _, [], .nil, _ => ⟨[], rfl, rfl, fun p hp => absurd hp List.not_mem_nil⟩
  | _, _, _ :: _, .nil, h => by cases h
  | _, _, [], .cons _ _, h => by cases h
  | _, _, c :: cs, .cons (a := p) (b := q) r rs, h => by
    rw [List.map_cons, List.map_cons] at h
    injection h with h1 h2
    obtain ⟨ks, e1, e2, hk⟩ := rows_of_dT rs h2
    refine ⟨(q.2.1, c) :: ks, by rw [List.map_cons, List.map_cons, e1], by rw [List.map_cons, e2], fun p hp => ?_⟩
    rcases List.mem_cons.mp hp with rfl | hp
    · rw [← keyL_v, ← h1]
      exact r.2.1
    · exact hk p hp
/-- sorted(d), d a dict whose keys are rows -/
def rSortDT (K : PySem.W.Frag) : List V → Hp → VK → Prop := fun vs H Q => ∃ (a : Addr) (kvs : List (List Key × V)) (cs : List (List Int)), vs = [V.ref a] ∧ H a = some (.dT kvs) ∧ kvs.map (·.1) = cs.map keyL ∧ (∀ c ∈ cs, c ≠ []) ∧
  ∀ (ys : List V) (ds : List (List Int)) (p : Addr) (H' : Hp), Same H H' → H' p = some (.lst ys) → AllIn (RowE H') ys ds → ds.Perm cs → ds.Pairwise (fun a b => dataLt (tupD b) (tupD a) = false) → Q (.ref p) H'
theorem cr_sortDT {X : Cx} (hc : X.calm = true) (hu : X.A.units + 65 < cLine) : CallR X (.builtin "sorted") (rSortDT X.K) := by
  intro pins s σ H vs us Q I r h
  obtain ⟨a, kvs, cs, rfl, ha, hk, hne, q⟩ := h
  rw [Vals.ref1 r]
  obtain ⟨z, lo, xs, pr, o, es, ep, ho, hx, hdt, he, _⟩ := I.hok a _ ha
  obtain ⟨ks, e1, rfl, hks⟩ := rows_of_dT pr hk
  have lk : ks.length = es.size := by
    have a1 := congrArg List.length e1
    rw [List.length_map, List.length_map] at a1
    rw [← Array.length_toList, he, List.length_map, a1]
  have lz : ks.length ≤ sizeLine := by
    have a1 := congrArg List.length hk
    rw [List.length_map, List.length_map, List.length_map] at a1
    omega
  have keys : ∀ (j : Nat) (v : Value), (∃ hi : j < es.size, v = es[j].key) → (ks.map fun p => Value.ref p.1)[j]? = some v := by
    rintro j v ⟨hi, rfl⟩
    have a1 : es.toList[j]? = some es[j] := by rw [Array.getElem?_toList, Array.getElem?_eq_getElem hi]
    rw [he, List.getElem?_map] at a1
    obtain ⟨x, hx, e⟩ := Option.map_eq_some_iff.mp a1
    have a2 : (xs.map fun q => q.2.1)[j]? = some x.2.1 := by rw [List.getElem?_map, hx] <;> rfl
    rw [e1, List.getElem?_map] at a2
    obtain ⟨p, hp, e2⟩ := Option.map_eq_some_iff.mp a2
    rw [List.getElem?_map, hp, ← e]
    show some (Value.ref p.1) = some (Value.ref x.2.1)
    rw [e2]
  have isT : ∀ p ∈ ks, IsT X.prog X.w s.heap p.2 p.1 := fun p hp => I.isT (SqT.of (hks p hp))
  refine Calls.call_function_entry kind_sorted plain_sorted entry_sorted (args_sorted1 _) ?_
  unfold Builtin.«sorted»
  refine wpAny_bind (m := checkCount "sorted" 1 1 _) (wpAny_pure ?_)
  refine wpAny_bind (col_src (A := X.A.in1) (KdlSrc.rawDict (prog := X.prog) (w := X.w) (es := es) (ep := ep) lo) (I.ok.hd hc) ⟨o, ho, hx, hdt⟩ (by rw [← lk]; exact lz) fun h' tk acc k1 sz hacc => ?_)
  have eacc : acc.toList = ks.map fun p => Value.ref p.1 := by
    refine List.ext_getElem? fun j => ?_
    by_cases c : j < acc.size
    · have a1 : acc.toList[j]? = some acc[j] := by rw [Array.getElem?_toList, Array.getElem?_eq_getElem c]
      rw [a1]
      exact (keys j _ (hacc.2 j _ (Array.getElem?_eq_getElem c))).symm
    · rw [List.getElem?_eq_none (by rw [Array.length_toList]; omega), List.getElem?_eq_none (by rw [List.length_map, lk, ← hacc.1]; omega)]
  rw [eacc]
  refine wpAny_bind (wpAny_newList ?_ (by rw [List.length_map]; exact lz))
  have kp : ∀ b u, s.heap.get? b = some u → (h'.push (seqObj "list" (ks.map fun q => Value.ref q.1).toArray 0)).get? b = some u := fun b u e => Heap.get?_push_of_some _ (k1 b u e)
  have hoL : (h'.push (seqObj "list" (ks.map fun q => Value.ref q.1).toArray 0)).get? h'.objs.size = some (seqObj "list" (ks.map fun q => Value.ref q.1).toArray 0) := Heap.get?_push_size _ rfl
  have enc : ∀ d ∈ ks.map (fun b => tupD b.2), ∃ b ∈ ks, d = tupD b.2 := fun d hd => by
    obtain ⟨b, hb, rfl⟩ := List.mem_map.mp hd
    exact ⟨b, hb, rfl⟩
  refine wpAny_bind (wpAny_holding (list_sort_data (s := { s with heap := h'.push (seqObj "list" (ks.map fun q => Value.ref q.1).toArray 0), toks := tk }) (bs := ks) (enc := fun b => tupD b.2) hoL (SW.refs_each ks)
    (SW.each_with (SW.refs_each ks) fun v b hb e => ⟨[], ?_, List.not_mem_nil⟩) (fun d hd d' hd' => ?_) (.inl fun d hd => ?_) lz (fun b hb => ?_) fun out loo eo => ?_))
  · rw [e]
    exact SW.reads_isT (P := X.prog) (w := X.w) (isT_keep (isT b hb) kp)
  · obtain ⟨b, _, rfl⟩ := enc d hd
    obtain ⟨b', _, rfl⟩ := enc d' hd'
    exact alike_tupD _ _
  · obtain ⟨b, hb, rfl⟩ := enc d hd
    have z := hne b.2 (List.mem_map.mpr ⟨b, hb, rfl⟩)
    unfold tupD
    cases h : b.2 with
    | nil => exact absurd h z
    | cons x r => exact ⟨_, _, rfl⟩
  · have z := (lay_tupD b.2).2
    have := Around.in1_units X.A
    omega
  · obtain ⟨c, hcc⟩ := sortedHeap_at (vs := ks.map fun q => Value.ref q.1) (out := out.toArray) hoL
    have eout := SW.each_refs eo
    rw [eout] at hcc
    have pM := List.mergeSort_perm ks (dataLe false fun b => tupD b.2)
    have sorted := SW.merge_le ks
    rw [eout]
    generalize ks.mergeSort (dataLe false fun b => tupD b.2) = M at hcc pM sorted
    have kp2 : ∀ b u, s.heap.get? b = some u → (sortedHeap (h'.push (seqObj "list" (ks.map fun q => Value.ref q.1).toArray 0)) h'.objs.size (ks.map fun q => Value.ref q.1) (M.map fun b => Value.ref b.1).toArray).get? b = some u := fun b u e => by
      have lt := Heap.lt_size (k1 b u e)
      rw [sortedHeap_old (Nat.ne_of_lt lt) (by rw [size_push']; exact Nat.lt_succ_of_lt lt)]
      exact kp b u e
    have hn : H h'.objs.size = none := I.hok.fresh sz
    have hlen : (M.map fun q => V.ref q.1).length ≤ sizeLine := by rw [List.length_map, pM.length_eq]; exact lz
    refine wpAny_pure ⟨_, rfl, ?_⟩
    refine ⟨.ref h'.objs.size, upd H h'.objs.size (.lst (M.map fun q => V.ref q.1)), I.laid (t' := tk) kp2 sz ⟨hlen, _, c, vals_of_refs M, hcc⟩, rfl, q (M.map fun q => V.ref q.1) (M.map (·.2)) _ _ (Same.new hn) upd_same ?_ (pM.map (·.2)) ?_⟩
    · refine ⟨by rw [List.length_map, List.length_map], fun i x hx => ?_⟩
      rw [List.getElem?_map] at hx
      obtain ⟨p, hp, rfl⟩ := Option.map_eq_some_iff.mp hx
      exact ⟨p.2, by rw [List.getElem?_map, hp] <;> rfl, p.1, rfl, (Same.new hn) _ _ (hks p (pM.mem_iff.mp (List.mem_of_getElem? hp)))⟩
    · rw [List.pairwise_map]
      exact sorted
end L2
namespace Law
open PySem L2
theorem AllIn.app {α : Type} {R : V → α → Prop} {vs us : List V} {l m : List α} (h : AllIn R vs l) (g : AllIn R us m) : AllIn R (vs ++ us) (l ++ m) := by
  refine ⟨by rw [List.length_append, List.length_append, h.1, g.1], fun i v hv => ?_⟩
  by_cases c : i < vs.length
  · rw [List.getElem?_append_left c] at hv
    obtain ⟨x, h1, h2⟩ := h.2 i v hv
    exact ⟨x, by rw [List.getElem?_append_left (by rw [← h.1]; exact c)]; exact h1, h2⟩
  · rw [List.getElem?_append_right (by omega)] at hv
    obtain ⟨x, h1, h2⟩ := g.2 _ v hv
    exact ⟨x, by rw [List.getElem?_append_right (by rw [← h.1]; omega), ← h.1]; exact h1, h2⟩
end Law
namespace L2
open PySem PySem.Spec PyProof.Rows Law PySem.W
theorem keys_has : ∀ {kvs : List (List Key × V)} {Kn : List (List Int)}, kvs.map (·.1) = Kn.map keyL → ∀ o, (valV kvs (keyL o)).isSome = decide (o ∈ Kn)
  | [], [], _, o => rfl
  | [], _ :: _, h, _ => by cases h
  | _ :: _, [], h, _ => by cases h
  | p :: kvs, c :: Kn, h, o => by
    rw [List.map_cons, List.map_cons] at h
    injection h with h1 h2
    by_cases e : c = o
    · subst e
      rw [valV_pos h1, decide_eq_true List.mem_cons_self] <;> rfl
    · rw [valV_neg (fun z => e (keyL_inj (h1.symm.trans z))), keys_has h2 o]
      refine decide_eq_decide.mpr ⟨List.mem_cons_of_mem _, fun z => ?_⟩
      rcases List.mem_cons.mp z with z | z
      · exact absurd z.symm e
      · exact z
theorem lex_of_le {a b : List Int} (h : dataLt (tupD b) (tupD a) = false) (ne : a ≠ b) (la : a.length = 2) (lb : b.length = 2) : lexL a b := by
  match a, b, la, lb with
  | [x, y], [x', y'], _, _ =>
    have h : dataLt (.tuple [.int x', .int y']) (.tuple [.int x, .int y]) = false := h
    rw [dataLt_ii] at h
    have h := of_decide_eq_false h
    show x < x' ∨ (x = x' ∧ (y < y' ∨ (y = y' ∧ False)))
    have ne : ¬ (x = x' ∧ y = y') := fun z => ne (by rw [z.1, z.2])
    omega
theorem allIn_last {α : Type} {R : V → α → Prop} {ws : List V} {W : List α} {v : V} {p : α} (h : AllIn R (ws ++ [v]) (W ++ [p])) : AllIn R ws W ∧ R v p := by
  have e : ws.length = W.length := by
    have := h.1
    rw [List.length_append, List.length_append] at this
    exact Nat.succ.inj this
  refine ⟨⟨e, fun i x hx => ?_⟩, ?_⟩
  · have il := (List.getElem?_eq_some_iff.mp hx).1
    obtain ⟨y, h1, h2⟩ := h.2 i x (by rw [List.getElem?_append_left il]; exact hx)
    exact ⟨y, by rw [List.getElem?_append_left (by omega)] at h1; exact h1, h2⟩
  · obtain ⟨y, h1, h2⟩ := h.2 ws.length v (by rw [List.getElem?_append_right (Nat.le_refl _), Nat.sub_self] <;> rfl)
    rw [List.getElem?_append_right (by omega), e, Nat.sub_self] at h1
    cases h1
    exact h2
theorem last_of {α : Type} {l : List α} (h : l ≠ []) : ∃ m a, l = m ++ [a] := ⟨l.dropLast, l.getLast h, (List.dropLast_concat_getLast h).symm⟩
theorem sqT_updO {K : PySem.W.Frag} {H : Hp} {a D : Addr} {o u : HO} {xs : List V} (hD : H D = some o) (d : ∀ y, HO.tup y ≠ o) (d2 : ∀ q y, HO.frz q (.tup y) ≠ o) (h : SqT K H a xs) : SqT K (upd H D u) a xs := by
  rcases h with (z | ⟨q, z⟩) | z
  · refine .inl (.inl ?_)
    rw [upd_ne (ne_of z hD (d _))]
    exact z
  · refine .inl (.inr ⟨q, ?_⟩)
    rw [upd_ne (ne_of z hD (d2 _ _))]
    exact z
  · exact .inr z
theorem rowAt_upd {K : PySem.W.Frag} {H : Hp} {D : Addr} {o u : HO} {v : V} {l : List Int} (hD : H D = some o) (d : ∀ y, HO.tup y ≠ o) (d2 : ∀ q y, HO.frz q (.tup y) ≠ o) (h : RowAt K H v l) : RowAt K (L2.upd H D u) v l := by
  obtain ⟨a, h1, h2⟩ := h
  exact ⟨a, h1, sqT_updO hD d d2 h2⟩
def bJ (F : List (List Int)) (c : List Int) (j : Nat) : List (List Int) := ((F.take j).filter fun d => d.getD 1 0 == c.getD 0 0).map fun d => [d.getD 0 0, c.getD 1 0]
def aJ (F : List (List Int)) (c : List Int) (j : Nat) : List (List Int) := ((F.take j).filter fun d => d.getD 0 0 == c.getD 1 0).map fun d => [c.getD 0 0, d.getD 1 0]
theorem bJ_snoc {F : List (List Int)} {c d : List Int} {j : Nat} (h : F[j]? = some d) : bJ F c (j + 1) = if (d.getD 1 0 == c.getD 0 0) = true then bJ F c j ++ [[d.getD 0 0, c.getD 1 0]] else bJ F c j := by
  unfold bJ
  rw [List.take_add_one, h, List.filter_append, List.map_append]
  show _ ++ List.map _ (List.filter _ [d]) = _
  rw [List.filter_cons, List.filter_nil]
  by_cases e : (d.getD 1 0 == c.getD 0 0) = true
  · rw [if_pos e, if_pos e] <;> rfl
  · rw [if_neg e, if_neg e, List.map_nil, List.append_nil]
theorem aJ_snoc {F : List (List Int)} {c d : List Int} {j : Nat} (h : F[j]? = some d) : aJ F c (j + 1) = if (d.getD 0 0 == c.getD 1 0) = true then aJ F c j ++ [[c.getD 0 0, d.getD 1 0]] else aJ F c j := by
  unfold aJ
  rw [List.take_add_one, h, List.filter_append, List.map_append]
  show _ ++ List.map _ (List.filter _ [d]) = _
  rw [List.filter_cons, List.filter_nil]
  by_cases e : (d.getD 0 0 == c.getD 1 0) = true
  · rw [if_pos e, if_pos e] <;> rfl
  · rw [if_neg e, if_neg e, List.map_nil, List.append_nil]
end L2
namespace Law
open PySem L2
def iniF (n : Nat) (lo hi : Int) : List (List Int) := (((upto n).filter fun t => !(t == lo)).map fun t => [lo, t]) ++ (((upto n).filter fun t => !(t == hi)).map fun t => [t, hi])
def iL (lo : Int) (j : Nat) : List (List Int) := ((upto j).filter fun t => !(t == lo)).map fun t => [lo, t]
def iH (hi : Int) (j : Nat) : List (List Int) := ((upto j).filter fun t => !(t == hi)).map fun t => [t, hi]
theorem iL_snoc (lo : Int) (j : Nat) : iL lo (j + 1) = if (!((j : Int) == lo)) = true then iL lo j ++ [[lo, (j : Int)]] else iL lo j := by
  unfold iL
  rw [upto_snoc, List.filter_append, List.map_append, List.filter_cons, List.filter_nil]
  by_cases h : (!((j : Int) == lo)) = true
  · rw [if_pos h, if_pos h] <;> rfl
  · rw [if_neg h, if_neg h, List.map_nil, List.append_nil]
theorem iH_snoc (hi : Int) (j : Nat) : iH hi (j + 1) = if (!((j : Int) == hi)) = true then iH hi j ++ [[(j : Int), hi]] else iH hi j := by
  unfold iH
  rw [upto_snoc, List.filter_append, List.map_append, List.filter_cons, List.filter_nil]
  by_cases h : (!((j : Int) == hi)) = true
  · rw [if_pos h, if_pos h] <;> rfl
  · rw [if_neg h, if_neg h, List.map_nil, List.append_nil]
theorem ini_eq (n : Nat) (lo hi : Int) : iniF n lo hi = iL lo n ++ iH hi n := rfl
theorem ini_in {n : Nat} {lo hi : Int} (l0 : 0 ≤ lo ∧ lo < (n : Int)) (h0 : 0 ≤ hi ∧ hi < (n : Int)) : ∀ c ∈ iniF n lo hi, ∃ a b : Int, c = [a, b] ∧ a ≠ b ∧ InN n [a, b] := fun c hc => by
  have two : ∀ {a b : Int}, 0 ≤ a ∧ a < (n : Int) → 0 ≤ b ∧ b < (n : Int) → InN n [a, b] := fun {a b} ha hb x hx => by
    rcases List.mem_cons.mp hx with rfl | hx
    · exact ha
    · rw [List.mem_singleton.mp hx]
      exact hb
  rcases List.mem_append.mp hc with h | h
  · obtain ⟨t, ht, rfl⟩ := List.mem_map.mp h
    obtain ⟨t1, t2⟩ := List.mem_filter.mp ht
    refine ⟨lo, t, rfl, fun e => ?_, two l0 (mem_upto.mp t1)⟩
    rw [e] at t2
    simp at t2
  · obtain ⟨t, ht, rfl⟩ := List.mem_map.mp h
    obtain ⟨t1, t2⟩ := List.mem_filter.mp ht
    refine ⟨t, hi, rfl, fun e => ?_, two (mem_upto.mp t1) h0⟩
    rw [e] at t2
    simp at t2
def allP (n : Nat) : List (List Int) := (upto n).flatMap fun a => (upto n).map fun b => [a, b]
theorem allP_mem {n : Nat} {a b : Int} (h : InN n [a, b]) : [a, b] ∈ allP n := List.mem_flatMap.mpr ⟨a, mem_upto.mpr (h a List.mem_cons_self), List.mem_map.mpr ⟨b, mem_upto.mpr (h b (by simp)), rfl⟩⟩
theorem allP_few {n : Nat} (h : n ≤ 12) : (allP n).length ≤ 144 := by
  have z : (List.range 13).all (fun n => decide ((allP n).length ≤ 144)) = true := by decide +kernel
  rw [List.all_eq_true] at z
  exact of_decide_eq_true (z n (List.mem_range.mpr (by omega)))
structure LsI (K : PySem.W.Frag) (H : Hp) (L R : Addr) (many : Nat) (Ls B F W : List (List Int)) (H' : Hp) : Prop where
  same : Same H H'
  lst : ∃ ws, H' L = some (.lst ws) ∧ AllIn (RowAt K H') ws W
  dic : ∃ kvs, H' R = some (.dT kvs) ∧ kvs.map (·.1) = F.map keyL
  wk : Wk Ls B F W
  fin : ∀ c ∈ F, InN many c
  win : ∀ c ∈ W, InN many c
  wl : W.length ≤ 100 + 400 * F.length
theorem LsI.few {K : PySem.W.Frag} {H : Hp} {L R : Addr} {many : Nat} {Ls B F W : List (List Int)} {H' : Hp} (m12 : many ≤ 12) (h : LsI K H L R many Ls B F W H') : F.length ≤ 144 :=
  Nat.le_trans (List.Nodup.length_le_of_subset h.wk.nd fun c hc => by
    obtain ⟨a, b, rfl⟩ := h.wk.fp c hc
    exact allP_mem (h.fin _ hc)) (allP_few m12)
theorem LsI.more {K : PySem.W.Frag} {H H1 H2 : Hp} {L R : Addr} {many : Nat} {Ls B F W : List (List Int)} (h : LsI K H L R many Ls B F W H1) (s : Same H1 H2) : LsI K H L R many Ls B F W H2 := by
  obtain ⟨ws, h1, h2⟩ := h.lst
  obtain ⟨kvs, h3, h4⟩ := h.dic
  exact ⟨h.same.trans s, ⟨ws, s _ _ h1, h2.mono fun _ _ z => RowAt.same s z⟩, ⟨kvs, s _ _ h3, h4⟩, h.wk, h.fin, h.win, h.wl⟩
section
variable {P : Program} {w : World} {K : PySem.W.Frag} {mg : Str → Option Value} {base : Heap}
def LstV (K : PySem.W.Frag) (H : Hp) (x : V) : Option (List (List Int)) → Prop
  | none => x = .non
  | some ds => ∃ (a : Addr) (ws : List V), x = .ref a ∧ SqT K H a ws ∧ AllIn (RowAt K H) ws ds
def spLeast (K : PySem.W.Frag) (C : Addr) : Sp := fun vs H Q _ => ∃ (q : Addr) (many : Nat) (ms : List Mv) (lo hi : Int), vs = [.ref q, .int lo, .int hi] ∧ SysAt K C H q many ms ∧ many ≤ 12 ∧ ms.length ≤ 24 ∧ (∀ m ∈ ms, MvOk many m) ∧ 0 ≤ lo ∧ lo < (many : Int) ∧ 0 ≤ hi ∧ hi < (many : Int) ∧ (lo ≠ hi ∨ many = 1) ∧
  ∀ (x : V) (r : Option (List (List Int))) (H' : Hp), Same H H' → LeastR (LsOf ms) (iniF many lo hi) r → LstV K H' x r → Q x H'
abbrev nLeastOrder : List Str := ["system", "low", "high", "states", "waiting", "found", "one", "other", "state", "_", "leads", "below", "by", "above"]
theorem scLeastOrder : FnScope nLeastOrder ["system", "low", "high"] (defScope s_least_order) := ⟨rfl, rfl, rfl, by decide +kernel, rfl, by decide +kernel, by decide +kernel⟩
theorem ok_least_order {f : Addr} {fd : FuncData} {fcWithin : Addr} {fdcWithin : FuncData} {C : Addr} (F : Fun K "least_order" "least_order" s_least_order f fd) (T : NmA mg) (cWithin : Cl P w K mg base CX0 2 "is_within" fcWithin fdcWithin ["low", "high", "thing"] (spWithin K)) (S : SysT K mg C) : FnOk P w K mg base CX0 3 f fd ["system", "low", "high"] (spLeast K C) := by
  refine F.ok scLeastOrder (fun vs H Q E h => ?_) (fun cdv A' outer s H vs Q E hr h => ?_)
  · obtain ⟨q, many, ms, lo, hi, rfl, _⟩ := h
    rfl
  · obtain ⟨q, many, ms, lo, hi, rfl, hM, m12, ml, mo, l0, l1, h0, h1, hlh, k⟩ := h
    have hu := hu_of hr
    refine ⟨_, pss_cons (ps_set (i := 3) scLeastOrder.nd rfl (Or.inl rfl) (pe_callTy cr_range1 (by rfl) T.range (by decide +kernel) (pa_cons (pe_fld (pv 0) rfl) pa_nil)))
      (pss_cons (ps_if (PW.pt (pw_or (pt_not (pt_val (cWithin.call (hr.mono (by decide)) (pa_cons pe_int (pa_cons (pe_op op_sub (pe_fld (pv 0) rfl) pe_int) (pa_cons (pv 1) pa_nil)))))) (pw_or1 (pt_not (pt_val (cWithin.call (hr.mono (by decide)) (pa_cons pe_int (pa_cons (pe_op op_sub (pe_fld (pv 0) rfl) pe_int) (pa_cons (pv 2) pa_nil)))))))))
        pss_never pss_nil)
      (Evl.pss_cut (ps_if (PW.pt (pw_and (pt_cmpR op_eq (pv 1) (pv 2) (nomark _)) (pw_and1 (pt_cmpR op_gt (pe_fld (pv 0) rfl) pe_int (nomark _)))))
        pss_never pss_nil)
      (pss_cons (ps_set (i := 4) scLeastOrder.nd rfl (Or.inl rfl) (pe_op op_cat (pe_lc (own := [("state", 8)]) (g := (gName 8)) (tt := _) rfl scLeastOrder.nd  (pi_rngV (pv 3)) (blkOk_by (own := [("state", 8)]) (N := nLeastOrder) (sc := defScope s_least_order) (by decide +kernel)) (fun _ _ _ _ _ => (pg_name (i := 8) scLeastOrder.nd rfl (Or.inl rfl))) (fun _ _ _ _ _ => (pts_one (pt_cmpR op_ne (pv 8) (pv 1) (nomark _)))) (fun _ _ _ _ _ => (pe_tup (pa_cons (pv 1) (pa_cons (pv 8) pa_nil))))) (pe_lc (own := [("state", 8)]) (g := (gName 8)) (tt := _) rfl scLeastOrder.nd  (pi_rngV (pv 3)) (blkOk_by (own := [("state", 8)]) (N := nLeastOrder) (sc := defScope s_least_order) (by decide +kernel)) (fun _ _ _ _ _ => (pg_name (i := 8) scLeastOrder.nd rfl (Or.inl rfl))) (fun _ _ _ _ _ => (pts_one (pt_cmpR op_ne (pv 8) (pv 2) (nomark _)))) (fun _ _ _ _ _ => (pe_tup (pa_cons (pv 8) (pa_cons (pv 2) pa_nil)))))))
      (pss_cons (ps_set (i := 5) scLeastOrder.nd rfl (Or.inl rfl) pe_dnewT)
      (pss_cons (ps_while PassesOwn.never (pt_truth (pv 4) (by intro _; rfl))
        (pss_cons (ps_asg (pe_bm0 PySem.F.plainAttrs_list PySem.F.slot_list_pop PySem.F.type_list_pop mt_pop (pv 4)) (pg_tup (by rfl) (pgs_cons (pg_name (i := 6) scLeastOrder.nd rfl (Or.inr rfl)) (pgs_cons (pg_name (i := 7) scLeastOrder.nd rfl (Or.inr rfl)) pgs_nil))))
        (pss_cons (ps_if (pt_cmp (pc_din hu (pe_tup (pa_cons (pv 7) (pa_cons (pv 6) pa_nil))) (pv 5)))
          (pss_one (ps_ret pe_non)) pss_nil)
        (pss_one (ps_if (PW.pt (pw_and (pt_cmpR op_ne (pv 6) (pv 7) (nomark _)) (pw_and1 (pt_cmp (pc_dnotin hu (pe_tup (pa_cons (pv 6) (pa_cons (pv 7) pa_nil))) (pv 5))))))
          (pss_cons (ps_expr (pe_bm PySem.F.plainAttrs_list PySem.F.slot_list_extend PySem.F.type_list_extend mt_extend (pv 4) (pa_cons (pe_lc (own := [("_", 9), ("leads", 10)]) (g := (gTup K 2 (gCons (gName 9) (gCons (gName 10) gNil)))) (tt := tYes) rfl scLeastOrder.nd  (pi_tup (pe_fld (pv 0) rfl)) (blkOk_by (own := [("_", 9), ("leads", 10)]) (N := nLeastOrder) (sc := defScope s_least_order) (by decide +kernel)) (fun _ _ _ _ _ => (pg_tup (by rfl) (pgs_cons (pg_name (i := 9) scLeastOrder.nd rfl (Or.inl rfl)) (pgs_cons (pg_name (i := 10) scLeastOrder.nd rfl (Or.inl rfl)) pgs_nil)))) (fun _ _ _ _ _ => pts_nil) (fun _ _ _ _ _ => (pe_tup (pa_cons (pe_ix (r := rIxT K) (show IxR _ (rIxT K) from ix_tup) (pv 10) (pv 6) (fun _ _ => rfl)) (pa_cons (pe_ix (r := rIxT K) (show IxR _ (rIxT K) from ix_tup) (pv 10) (pv 7) (fun _ _ => rfl)) pa_nil))))) pa_nil)))
          (pss_cons (ps_lock (ps_expr (pe_bm PySem.F.plainAttrs_list PySem.F.slot_list_extend PySem.F.type_list_extend mt_extend (pv 4) (pa_cons (pe_lc (own := [("below", 11), ("by", 12)]) (g := (gTup K 2 (gCons (gName 11) (gCons (gName 12) gNil)))) (tt := _) rfl scLeastOrder.nd  (pi_keys (pv 5)) (blkOk_by (own := [("below", 11), ("by", 12)]) (N := nLeastOrder) (sc := defScope s_least_order) (by decide +kernel)) (fun _ _ _ _ _ => (pg_tup (by rfl) (pgs_cons (pg_name (i := 11) scLeastOrder.nd rfl (Or.inl rfl)) (pgs_cons (pg_name (i := 12) scLeastOrder.nd rfl (Or.inl rfl)) pgs_nil)))) (fun _ _ _ _ _ => (pts_one (pt_cmpR op_eq (pv 12) (pv 6) (nomark _)))) (fun _ _ _ _ _ => (pe_tup (pa_cons (pv 11) (pa_cons (pv 7) pa_nil))))) pa_nil))))
          (pss_cons (ps_lock (ps_expr (pe_bm PySem.F.plainAttrs_list PySem.F.slot_list_extend PySem.F.type_list_extend mt_extend (pv 4) (pa_cons (pe_lc (own := [("by", 12), ("above", 13)]) (g := (gTup K 2 (gCons (gName 12) (gCons (gName 13) gNil)))) (tt := _) rfl scLeastOrder.nd  (pi_keys (pv 5)) (blkOk_by (own := [("by", 12), ("above", 13)]) (N := nLeastOrder) (sc := defScope s_least_order) (by decide +kernel)) (fun _ _ _ _ _ => (pg_tup (by rfl) (pgs_cons (pg_name (i := 12) scLeastOrder.nd rfl (Or.inl rfl)) (pgs_cons (pg_name (i := 13) scLeastOrder.nd rfl (Or.inl rfl)) pgs_nil)))) (fun _ _ _ _ _ => (pts_one (pt_cmpR op_eq (pv 12) (pv 7) (nomark _)))) (fun _ _ _ _ _ => (pe_tup (pa_cons (pv 6) (pa_cons (pv 13) pa_nil))))) pa_nil))))
          (pss_one (ps_dput hu (pv 5) (pe_tup (pa_cons (pv 6) (pa_cons (pv 7) pa_nil))) pe_bl rfl))))) pss_nil)))))
      (pss_one (ps_ret (pe_callTy call_tuple_of (by rfl) T.tuple (by decide +kernel) (pa_cons (pe_callB (cr_sortDT rfl (units65 hr)) (by rfl) T.sorted (by decide +kernel) (pa_cons (pv 5) pa_nil)) pa_nil))))))))), ?_⟩
    obtain ⟨dx, mv, hp, us, hV, hU⟩ := id hM
    have lsok := ls_ok mo
    refine ⟨_, rfl, q, C, dx, _, _, rfl, hp, S.cl, S.nK, sysF_many _ _, (many : Int), rfl, fun G hG => ?_⟩
    refine new_step hG fun H1 s1 e1 => ?_
    have hp1 := s1 _ _ hp
    refine ⟨_, rfl, q, C, dx, _, _, rfl, hp1, S.cl, S.nK, sysF_many _ _, _, _, rfl, rfl, _, rfl, 0, (many : Int) - 1, _, rfl, .inl ⟨lo, rfl, _, rfl, ?_⟩⟩
    rw [decide_eq_true l0, decide_eq_true (show lo ≤ (many : Int) - 1 by omega)]
    refine iteF ⟨_, rfl, q, C, dx, _, _, rfl, hp1, S.cl, S.nK, sysF_many _ _, _, _, rfl, rfl, _, rfl, 0, (many : Int) - 1, _, rfl, .inl ⟨hi, rfl, _, rfl, ?_⟩⟩
    rw [decide_eq_true h0, decide_eq_true (show hi ≤ (many : Int) - 1 by omega)]
    refine iteF ?_
    refine ⟨fun σ' H' => H' = H1 ∧ σ' = [some (.ref q), some (.int lo), some (.int hi), some (.ref G), none, none, none, none, none, none, none, none, none, none], ?_, ?_⟩
    · refine ⟨_, rfl, _, rfl, rfl, _, rfl, ite2 (fun e => ?_) (fun _ => ⟨rfl, rfl⟩)⟩
      have e : lo = hi := by
        rw [dec_int] at e
        exact eq_of_beq e
      have m1 : many = 1 := hlh.resolve_left fun z => z e
      refine ⟨_, rfl, q, C, dx, _, _, rfl, hp1, S.cl, S.nK, sysF_many _ _, _, _, rfl, rfl, _, rfl, ite2 (fun c => ?_) (fun _ => ⟨rfl, rfl⟩)⟩
      have c := of_decide_eq_true c
      omega
    rintro σ' H' ⟨eH, rfl⟩
    rw [eH]
    have tn : ((many : Int) - 0).toNat = many := by omega
    refine ⟨_, rfl, G, 0, (many : Int), rfl, e1, ⟨by omega, by omega, by omega, by omega⟩, fun D hD => ?_⟩
    refine lpG (walk_range (lo := 0) (n := ((many : Int) - 0).toNat)) (fun j H2 => Same H1 H2 ∧ ∃ acc, H2 D = some (.lst acc) ∧ AllIn (RowAt K H2) acc (iL lo j) ∧ acc.length ≤ j) ⟨Same.new hD, [], upd_same, by show AllIn _ [] []; exact AllIn.nil, Nat.zero_le _⟩ (fun j H2 _ h => True.intro) (fun j x H2 H2' hj g y => ?_) fun H2 g => ?_
    · obtain ⟨rfl, hx⟩ := y
      obtain ⟨s2, acc, d2, A2, l2⟩ := g
      obtain rfl : x = V.int (j : Int) := hx.trans (congrArg V.int (Int.zero_add _))
      refine ⟨rfl, _, rfl, _, rfl, rfl, _, rfl, ?_⟩
      rw [dec_int, iL_snoc]
      refine ite2 (fun h => ?_) (fun h => ?_)
      · rw [if_pos h]
        refine ⟨_, rfl, _, rfl, by show 2 ≤ sizeLine; decide, fun t ht => ?_⟩
        refine new_step ht fun H3 s3 e3 => ?_
        have d3 := s3 _ _ d2
        exact ⟨_, d3, by rw [sizeLine_eq]; omega, (s2.trans s3).mut hD, _, upd_same, (A2.mono fun _ _ z => (z.same s3).upd d3).snoc ⟨t, rfl, sqT_updL d3 (SqT.of e3)⟩, by rw [List.length_append]; show _ + 1 ≤ _; omega⟩
      · rw [if_neg h]
        exact ⟨s2, acc, d2, A2, by omega⟩
    · obtain ⟨s2, acc, d2, A2, l2⟩ := g
      rw [tn] at A2 l2
      refine ⟨_, rfl, G, 0, (many : Int), rfl, s2 _ _ e1, ⟨by omega, by omega, by omega, by omega⟩, fun D2 hD2 => ?_⟩
      refine lpG (walk_range (lo := 0) (n := ((many : Int) - 0).toNat)) (fun j H3 => Same H2 H3 ∧ ∃ ac2, H3 D2 = some (.lst ac2) ∧ AllIn (RowAt K H3) ac2 (iH hi j) ∧ ac2.length ≤ j) ⟨Same.new hD2, [], upd_same, by show AllIn _ [] []; exact AllIn.nil, Nat.zero_le _⟩ (fun j H2 _ h => True.intro) (fun j x H3 H3' hj g y => ?_) fun H3 g => ?_
      · obtain ⟨rfl, hx⟩ := y
        obtain ⟨s3, ac2, d3, A3, l3⟩ := g
        obtain rfl : x = V.int (j : Int) := hx.trans (congrArg V.int (Int.zero_add _))
        refine ⟨rfl, _, rfl, _, rfl, rfl, _, rfl, ?_⟩
        rw [dec_int, iH_snoc]
        refine ite2 (fun h => ?_) (fun h => ?_)
        · rw [if_pos h]
          refine ⟨_, rfl, _, rfl, by show 2 ≤ sizeLine; decide, fun t ht => ?_⟩
          refine new_step ht fun H4 s4 e4 => ?_
          have d4 := s4 _ _ d3
          exact ⟨_, d4, by rw [sizeLine_eq]; omega, (s3.trans s4).mut hD2, _, upd_same, (A3.mono fun _ _ z => (z.same s4).upd d4).snoc ⟨t, rfl, sqT_updL d4 (SqT.of e4)⟩, by rw [List.length_append]; show _ + 1 ≤ _; omega⟩
        · rw [if_neg h]
          exact ⟨s3, ac2, d3, A3, by omega⟩
      · obtain ⟨s3, ac2, d3, A3, l3⟩ := g
        rw [tn] at A3 l3
        refine ⟨D, D2, acc, ac2, rfl, rfl, s3 _ _ d2, d3, by rw [sizeLine_eq]; omega, fun L hL => ?_⟩
        refine new_step hL fun H4 s4 e4 => fun R hR => ?_
        have nLR : L ≠ R := ne_of_none e4 hR
        refine new_step hR fun H5 s5 e5 => ?_
        have s05 := (s1.trans s2).trans (s3.trans (s4.trans s5))
        have B1 := ini_in ⟨l0, l1⟩ ⟨h0, h1⟩
        have I0 : LsI K H L R many (LsOf ms) (iniF many lo hi) [] (iniF many lo hi) H5 := {
          same := s05
          lst := ⟨acc ++ ac2, s5 _ _ e4, AllIn.app (A2.mono fun _ _ z => RowAt.same (s3.trans (s4.trans s5)) z) (A3.mono fun _ _ z => RowAt.same (s4.trans s5) z)⟩
          dic := ⟨[], e5, rfl⟩
          wk := Wk.start fun c hc => by
            obtain ⟨a, b, e, _⟩ := B1 c hc
            exact ⟨a, b, e⟩
          fin := fun c hc => absurd hc List.not_mem_nil
          win := fun c hc => by
            obtain ⟨a, b, rfl, _, h⟩ := B1 c hc
            exact h
          wl := by
            have a1 := A2.1
            have a2 := A3.1
            rw [ini_eq, List.length_append, ← a1, ← a2]
            omega }
        have hLH : H L = none := ((s1.trans s2).trans s3).free hL
        have hRH : H R = none := (((s1.trans s2).trans s3).trans s4).free hR
        refine ⟨fun m σ H' => ∃ F W : List (List Int), LsI K H L R many (LsOf ms) (iniF many lo hi) F W H' ∧ m = (200 - F.length) * 1000 + W.length ∧ ∃ u6 u7 u8 u9 u10 u11 u12 u13 : Option V, σ = [some (.ref q), some (.int lo), some (.int hi), some (.ref G), some (.ref L), some (.ref R), u6, u7, u8, u9, u10, u11, u12, u13], ⟨_, [], iniF many lo hi, I0, rfl, none, none, none, none, none, none, none, none, rfl⟩, ?_⟩
        rintro m σ H6 ⟨F, W, I, rfl, u6, u7, u8, u9, u10, u11, u12, u13, rfl⟩
        obtain ⟨ws, hw, hW⟩ := I.lst
        obtain ⟨kvs, hk, hK⟩ := I.dic
        have few := I.few m12
        refine ⟨_, rfl, _, .inl ⟨ws, SqL.of hw, rfl⟩, ite2 (fun c => ?_) (fun c => ?_)⟩
        · refine ⟨fun σ' H1 => ∃ m', m' < _ ∧ ∃ F W : List (List Int), LsI K H L R many (LsOf ms) (iniF many lo hi) F W H1 ∧ m' = (200 - F.length) * 1000 + W.length ∧ ∃ u6 u7 u8 u9 u10 u11 u12 u13 : Option V, σ' = [some (.ref q), some (.int lo), some (.int hi), some (.ref G), some (.ref L), some (.ref R), u6, u7, u8, u9, u10, u11, u12, u13], fun _ _ h => h, ?_⟩
          have wne : ws ≠ [] := fun z => by rw [z] at c; exact absurd c (by decide)
          have Wne : W ≠ [] := fun z => by
            have := hW.1
            rw [z] at this
            exact wne (List.eq_nil_of_length_eq_zero this)
          obtain ⟨ws', v, rfl⟩ := last_of wne
          obtain ⟨W', p, rfl⟩ := last_of Wne
          obtain ⟨hW', hv⟩ := allIn_last hW
          obtain ⟨pa, rfl, hpa⟩ := hv
          obtain ⟨a, b, rfl⟩ := I.wk.wp p (List.mem_append_right _ (List.mem_singleton_self _))
          have pin := I.win _ (List.mem_append_right _ (List.mem_singleton_self [a, b]))
          have wl := I.wl
          rw [List.length_append] at wl
          have wl : W'.length + 1 ≤ 100 + 400 * F.length := wl
          refine ⟨_, rfl, .inl ⟨rfl, _, SqL.of hw⟩, L, _, _, rfl, rfl, hw, (by simp : (ws' ++ [V.ref pa])[(ws' ++ [V.ref pa]).length - 1]? = some (V.ref pa)), ?_⟩
          rw [List.dropLast_concat]
          have s7 : Same H (upd H6 L (.lst ws')) := I.same.mut hLH
          have hw7 : (upd H6 L (.lst ws')) L = some (.lst ws') := upd_same
          have hW7 : AllIn (RowAt K (upd H6 L (.lst ws'))) ws' W' := hW'.mono fun _ _ z => z.upd hw
          have hk7 : (upd H6 L (.lst ws')) R = some (.dT kvs) := by rw [upd_ne (Ne.symm nLR)]; exact hk
          have ra7 : SqT K (upd H6 L (.lst ws')) pa ([a, b].map V.int) := sqT_updL hw hpa
          generalize upd H6 L (.lst ws') = H7 at s7 hw7 hW7 hk7 ra7
          refine ⟨pa, _, rfl, ra7, rfl, _, _, rfl, _, _, rfl, rfl, ?_⟩
          refine ⟨_, rfl, _, rfl, by show 2 ≤ sizeLine; decide, fun t ht => ?_⟩
          refine new_step ht fun H8 s8 e8 => ?_
          have s08 := s7.trans s8
          have hk8 := s8 _ _ hk7
          refine ⟨_, rfl, R, _, rfl, DGet.t (k := keyL [b, a]) hk8 (by rw [keyL_v]; exact e8), _, rfl, ?_⟩
          rw [keys_has hK]
          refine ite2 (fun h => ?_) (fun h => ?_)
          · exact k .non none H8 s08 (I.wk.hit (of_decide_eq_true h)) rfl
          have mno : [b, a] ∉ F := fun z => h (decide_eq_true z)
          have skip : ∀ (H' : Hp), Same H8 H' → (a = b ∨ [a, b] ∈ F) → LsI K H L R many (LsOf ms) (iniF many lo hi) F W' H' := fun H' s' e => {
            same := s08.trans s'
            lst := ⟨ws', s' _ _ (s8 _ _ hw7), hW7.mono fun _ _ z => RowAt.same (s8.trans s') z⟩
            dic := ⟨kvs, s' _ _ hk8, hK⟩
            wk := I.wk.skip mno e fun x y hxy => by
              obtain ⟨u, v, e, n, _⟩ := B1 _ hxy
              cases e
              exact n
            fin := I.fin
            win := fun c hc => I.win c (List.mem_append_left _ hc)
            wl := by omega }
          have less : (200 - F.length) * 1000 + W'.length < (200 - F.length) * 1000 + (W' ++ [[a, b]]).length := by
            rw [List.length_append]
            show _ < _ + (_ + 1)
            omega
          refine ⟨_, rfl, _, rfl, rfl, _, rfl, ite2 (fun e => ?_) (fun e => ?_)⟩
          · refine ⟨_, rfl, _, rfl, by show 2 ≤ sizeLine; decide, fun t2 ht2 => ?_⟩
            refine new_step ht2 fun H9 s9 e9 => ?_
            have hk9 := s9 _ _ hk8
            refine ⟨_, rfl, R, _, rfl, DGet.t (k := keyL [a, b]) hk9 (by rw [keyL_v]; exact e9), _, rfl, ?_⟩
            rw [keys_has hK]
            refine ite2 (fun e2 => ?_) (fun e2 => ?_)
            · have nf : [a, b] ∉ F := fun z => by
                rw [decide_eq_true z] at e2
                cases e2
              have ne : a ≠ b := fun z => by
                rw [z, dec_int, beq_self_eq_true] at e
                cases e
              have s09 := s08.trans s9
              have hw9 := s9 _ _ (s8 _ _ hw7)
              have hW9 := hW7.mono fun _ _ z => RowAt.same (s8.trans s9) z
              have na := pin a List.mem_cons_self
              have nb := pin b (by simp)
              have ul := hU.1
              refine ⟨_, rfl, .inl ⟨rfl, _, SqL.of hw9⟩, _, rfl, q, C, dx, _, _, rfl, s09 _ _ hp, S.cl, S.nM, sysF_moves _ _, mv, rfl, ⟨_, s09.sqT hV⟩, fun D hD => ?_⟩
              refine lpG (walk_tup (K := K) (a := mv) (xs := us)) (fun j H' => Same H9 H' ∧ ∃ ac3, H' D = some (.lst ac3) ∧ AllIn (RowAt K H') ac3 ((movesP (LsOf ms) [a, b]).take j) ∧ ac3.length ≤ j) ⟨Same.new hD, [], upd_same, AllIn.nil, Nat.zero_le _⟩ (fun j H' _ h => (s09.trans h.1).sqT hV) (fun j z H10 H10' hj g y => ?_) fun H10 g => ?_
              · obtain ⟨rfl, hz⟩ := y
                obtain ⟨s10, ac3, d10, A10, l10⟩ := g
                obtain ⟨m, hm, aa, ss, la, rfl, h3, h4, h5⟩ := hU.2 j z hz
                obtain ⟨_, _, _, m1, m2⟩ := mo m (List.mem_of_getElem? hm)
                have ldk : LdOk many m.2 := ⟨m1, m2⟩
                have s0a := s09.trans s10
                refine ⟨aa, _, rfl, s0a.sqT h3, rfl, _, _, rfl, _, _, rfl, rfl, ?_⟩
                refine ⟨rfl, _, rfl, _, rfl, la, _, a, _, rfl, rfl, s0a.sqT h5, step_at ldk na, _, rfl, _, rfl, la, _, b, _, rfl, rfl, s0a.sqT h5, step_at ldk nb, by show 2 ≤ sizeLine; decide, fun t ht => ?_⟩
                refine new_step ht fun H11 s11 e11 => ?_
                have d11 := s11 _ _ d10
                have e : (movesP (LsOf ms) [a, b])[j]? = some (ledP m.2 [a, b]) := by
                  unfold movesP
                  rw [List.getElem?_map, ls_get hm] <;> rfl
                refine ⟨_, d11, by rw [sizeLine_eq]; omega, (s10.trans s11).mut hD, _, upd_same, ?_, by rw [List.length_append]; show _ + 1 ≤ _; omega⟩
                rw [List.take_add_one, e]
                exact AllIn.snoc (A10.mono fun _ _ z => (z.same s11).upd d11) ⟨t, rfl, sqT_updL d11 (SqT.of e11)⟩
              · obtain ⟨s10, ac3, d10, A10, l10⟩ := g
                have ml' : (movesP (LsOf ms) [a, b]).length = us.length := by
                  unfold movesP LsOf
                  rw [List.length_map, List.length_map]
                  exact hU.1.symm
                rw [List.take_of_length_le (by omega)] at A10
                have hw10 := s10 _ _ hw9
                have wl' := hW'.1
                refine ⟨L, D, _, ac3, rfl, rfl, hw10, d10, by rw [sizeLine_eq]; omega, ?_⟩
                have s0b := (s09.trans s10).mut (o := .lst (ws' ++ ac3)) hLH
                have hk11 : (upd H10 L (.lst (ws' ++ ac3))) R = some (.dT kvs) := by rw [upd_ne (Ne.symm nLR)]; exact s10 _ _ hk9
                have hw11 : (upd H10 L (.lst (ws' ++ ac3))) L = some (.lst (ws' ++ ac3)) := upd_same
                have hW11 : AllIn (RowAt K (upd H10 L (.lst (ws' ++ ac3)))) (ws' ++ ac3) (W' ++ movesP (LsOf ms) [a, b]) := AllIn.app (hW9.mono fun _ _ z => (z.same s10).upd hw10) (A10.mono fun _ _ z => z.upd hw10)
                generalize upd H10 L (.lst (ws' ++ ac3)) = H11 at s0b hk11 hw11 hW11
                refine ⟨R, .dT kvs, hk11, trivial, fun od => ?_⟩
                have dT1 : ∀ y, HO.tup y ≠ HO.dT kvs := fun y h => by cases h
                have dT2 : ∀ q y, HO.frz q (.tup y) ≠ HO.dT kvs := fun q y h => by cases h
                have fT1 : ∀ (od : Obj) y, HO.tup y ≠ HO.frz od (.dT kvs) := fun od y h => by cases h
                have fT2 : ∀ (od : Obj) q y, HO.frz q (.tup y) ≠ HO.frz od (.dT kvs) := fun od q y h => by
                  injection h with _ h
                  cases h
                have keyAt : ∀ (j : Nat) (kk : List Key) (v : V), kvs[j]? = some (kk, v) → ∃ d0 d1 : Int, F[j]? = some [d0, d1] ∧ kk.map kV = [V.int d0, V.int d1] := fun j kk v hj => by
                  have z := congrArg (fun l => l[j]?) hK
                  simp only [List.getElem?_map, hj] at z
                  obtain ⟨d, hd, e⟩ := Option.map_eq_some_iff.mp z.symm
                  obtain ⟨d0, d1, rfl⟩ := I.wk.fp d (List.mem_of_getElem? hd)
                  have e : keyL [d0, d1] = kk := e
                  refine ⟨d0, d1, hd, ?_⟩
                  rw [← e, keyL_v] <;> rfl
                have kl : kvs.length = F.length := by
                  have z := congrArg List.length hK
                  rw [List.length_map, List.length_map] at z
                  exact z
                have s12 : Same H (upd H11 R (.frz od (.dT kvs))) := s0b.mut hRH
                have hk12 : (upd H11 R (.frz od (.dT kvs))) R = some (.frz od (.dT kvs)) := upd_same
                have hw12 : (upd H11 R (.frz od (.dT kvs))) L = some (.lst (ws' ++ ac3)) := by rw [upd_ne nLR]; exact hw11
                have hW12 : AllIn (RowAt K (upd H11 R (.frz od (.dT kvs)))) (ws' ++ ac3) (W' ++ movesP (LsOf ms) [a, b]) := hW11.mono fun _ _ z => rowAt_upd hk11 dT1 dT2 z
                generalize upd H11 R (.frz od (.dT kvs)) = H12 at s12 hk12 hw12 hW12
                refine ⟨_, rfl, .inl ⟨rfl, _, SqL.of hw12⟩, _, rfl, R, od, rfl, .inr ⟨kvs, hk12, fun D4 hD4 => ?_⟩⟩
                refine lpG walk_keysT (fun j H' => Same H12 H' ∧ ∃ ac4, H' D4 = some (.lst ac4) ∧ AllIn (RowAt K H') ac4 (bJ F [a, b] j) ∧ ac4.length ≤ j) ⟨Same.new hD4, [], upd_same, by show AllIn _ [] []; exact AllIn.nil, Nat.zero_le _⟩ (fun j H' _ h => h.1 _ _ hk12) (fun j z H13 H13' hj g y => ?_) fun H13 g => ?_
                · obtain ⟨rfl, kk, v, kq, hkj, rfl, hq⟩ := y
                  obtain ⟨s13, ac4, d13, A13, l13⟩ := g
                  obtain ⟨d0, d1, hd, ek⟩ := keyAt j kk v hkj
                  rw [ek] at hq
                  refine ⟨kq, _, rfl, SqT.of hq, rfl, _, _, rfl, _, _, rfl, rfl, ?_⟩
                  refine ⟨rfl, _, rfl, _, rfl, rfl, _, rfl, ?_⟩
                  rw [dec_int, bJ_snoc hd]
                  refine ite2 (fun h => ?_) (fun h => ?_)
                  · rw [if_pos (show (([d0, d1] : List Int).getD 1 0 == ([a, b] : List Int).getD 0 0) = true from h)]
                    refine ⟨_, rfl, _, rfl, by show 2 ≤ sizeLine; decide, fun t ht => ?_⟩
                    refine new_step ht fun H14 s14 e14 => ?_
                    have d14 := s14 _ _ d13
                    exact ⟨_, d14, by rw [sizeLine_eq]; omega, (s13.trans s14).mut hD4, _, upd_same, (A13.mono fun _ _ z => (z.same s14).upd d14).snoc ⟨t, rfl, sqT_updL d14 (SqT.of e14)⟩, by rw [List.length_append]; show _ + 1 ≤ _; omega⟩
                  · rw [if_neg (show ¬ (([d0, d1] : List Int).getD 1 0 == ([a, b] : List Int).getD 0 0) = true from h)]
                    exact ⟨s13, ac4, d13, A13, by omega⟩
                · obtain ⟨s13, ac4, d13, A13, l13⟩ := g
                  rw [kl] at A13 l13
                  have eb : bJ F [a, b] F.length = belowP F [a, b] := by
                    unfold bJ belowP
                    rw [List.take_length]
                  rw [eb] at A13
                  have hw13 := s13 _ _ hw12
                  have l11 := hW12.1
                  refine ⟨L, D4, _, ac4, rfl, rfl, hw13, d13, by rw [List.length_append, sizeLine_eq]; omega, ?_⟩
                  refine ⟨by rw [upd_ne (Ne.symm nLR)]; exact s13 _ _ hk12, ?_⟩
                  have s15 : Same H (upd (upd H13 L (.lst (ws' ++ ac3 ++ ac4))) R (.dT kvs)) := ((s12.trans s13).mut hLH).mut hRH
                  have hk15 : (upd (upd H13 L (.lst (ws' ++ ac3 ++ ac4))) R (.dT kvs)) R = some (.dT kvs) := upd_same
                  have hw15 : (upd (upd H13 L (.lst (ws' ++ ac3 ++ ac4))) R (.dT kvs)) L = some (.lst (ws' ++ ac3 ++ ac4)) := by rw [upd_ne nLR, upd_same]
                  have hkm : (upd H13 L (.lst (ws' ++ ac3 ++ ac4))) R = some (.frz od (.dT kvs)) := by rw [upd_ne (Ne.symm nLR)]; exact s13 _ _ hk12
                  have hW15 : AllIn (RowAt K (upd (upd H13 L (.lst (ws' ++ ac3 ++ ac4))) R (.dT kvs))) (ws' ++ ac3 ++ ac4) (W' ++ movesP (LsOf ms) [a, b] ++ belowP F [a, b]) :=
                    (AllIn.app (hW12.mono fun _ _ z => RowAt.same s13 z) A13).mono fun _ _ z => rowAt_upd hkm (fT1 od) (fT2 od) (z.upd hw13)
                  generalize upd (upd H13 L (.lst (ws' ++ ac3 ++ ac4))) R (.dT kvs) = H15 at s15 hk15 hw15 hW15
                  refine ⟨R, .dT kvs, hk15, trivial, fun oe => ?_⟩
                  have s16 : Same H (upd H15 R (.frz oe (.dT kvs))) := s15.mut hRH
                  have hk16 : (upd H15 R (.frz oe (.dT kvs))) R = some (.frz oe (.dT kvs)) := upd_same
                  have hw16 : (upd H15 R (.frz oe (.dT kvs))) L = some (.lst (ws' ++ ac3 ++ ac4)) := by rw [upd_ne nLR]; exact hw15
                  have hW16 : AllIn (RowAt K (upd H15 R (.frz oe (.dT kvs)))) (ws' ++ ac3 ++ ac4) (W' ++ movesP (LsOf ms) [a, b] ++ belowP F [a, b]) := hW15.mono fun _ _ z => rowAt_upd hk15 dT1 dT2 z
                  generalize upd H15 R (.frz oe (.dT kvs)) = H16 at s16 hk16 hw16 hW16
                  refine ⟨_, rfl, .inl ⟨rfl, _, SqL.of hw16⟩, _, rfl, R, oe, rfl, .inr ⟨kvs, hk16, fun D5 hD5 => ?_⟩⟩
                  refine lpG walk_keysT (fun j H' => Same H16 H' ∧ ∃ ac5, H' D5 = some (.lst ac5) ∧ AllIn (RowAt K H') ac5 (aJ F [a, b] j) ∧ ac5.length ≤ j) ⟨Same.new hD5, [], upd_same, by show AllIn _ [] []; exact AllIn.nil, Nat.zero_le _⟩ (fun j H' _ h => h.1 _ _ hk16) (fun j z H17 H17' hj g y => ?_) fun H17 g => ?_
                  · obtain ⟨rfl, kk, v, kq, hkj, rfl, hq⟩ := y
                    obtain ⟨s17, ac5, d17, A17, l17⟩ := g
                    obtain ⟨d0, d1, hd, ek⟩ := keyAt j kk v hkj
                    rw [ek] at hq
                    refine ⟨kq, _, rfl, SqT.of hq, rfl, _, _, rfl, _, _, rfl, rfl, ?_⟩
                    refine ⟨rfl, _, rfl, _, rfl, rfl, _, rfl, ?_⟩
                    rw [dec_int, aJ_snoc hd]
                    refine ite2 (fun h => ?_) (fun h => ?_)
                    · rw [if_pos (show (([d0, d1] : List Int).getD 0 0 == ([a, b] : List Int).getD 1 0) = true from h)]
                      refine ⟨_, rfl, _, rfl, by show 2 ≤ sizeLine; decide, fun t ht => ?_⟩
                      refine new_step ht fun H18 s18 e18 => ?_
                      have d18 := s18 _ _ d17
                      exact ⟨_, d18, by rw [sizeLine_eq]; omega, (s17.trans s18).mut hD5, _, upd_same, (A17.mono fun _ _ z => (z.same s18).upd d18).snoc ⟨t, rfl, sqT_updL d18 (SqT.of e18)⟩, by rw [List.length_append]; show _ + 1 ≤ _; omega⟩
                    · rw [if_neg (show ¬ (([d0, d1] : List Int).getD 0 0 == ([a, b] : List Int).getD 1 0) = true from h)]
                      exact ⟨s17, ac5, d17, A17, by omega⟩
                  · obtain ⟨s17, ac5, d17, A17, l17⟩ := g
                    rw [kl] at A17 l17
                    have ea : aJ F [a, b] F.length = aboveP F [a, b] := by
                      unfold aJ aboveP
                      rw [List.take_length]
                    rw [ea] at A17
                    have hw17 := s17 _ _ hw16
                    refine ⟨L, D5, _, ac5, rfl, rfl, hw17, d17, by rw [List.length_append, List.length_append, sizeLine_eq]; omega, ?_⟩
                    refine ⟨by rw [upd_ne (Ne.symm nLR)]; exact s17 _ _ hk16, ?_⟩
                    have s19 : Same H (upd (upd H17 L (.lst (ws' ++ ac3 ++ ac4 ++ ac5))) R (.dT kvs)) := ((s16.trans s17).mut hLH).mut hRH
                    have hk19 : (upd (upd H17 L (.lst (ws' ++ ac3 ++ ac4 ++ ac5))) R (.dT kvs)) R = some (.dT kvs) := upd_same
                    have hw19 : (upd (upd H17 L (.lst (ws' ++ ac3 ++ ac4 ++ ac5))) R (.dT kvs)) L = some (.lst (ws' ++ ac3 ++ ac4 ++ ac5)) := by rw [upd_ne nLR, upd_same]
                    have hkm2 : (upd H17 L (.lst (ws' ++ ac3 ++ ac4 ++ ac5))) R = some (.frz oe (.dT kvs)) := by rw [upd_ne (Ne.symm nLR)]; exact s17 _ _ hk16
                    have hW19 : AllIn (RowAt K (upd (upd H17 L (.lst (ws' ++ ac3 ++ ac4 ++ ac5))) R (.dT kvs))) (ws' ++ ac3 ++ ac4 ++ ac5) (W' ++ movesP (LsOf ms) [a, b] ++ belowP F [a, b] ++ aboveP F [a, b]) :=
                      (AllIn.app (hW16.mono fun _ _ z => RowAt.same s17 z) A17).mono fun _ _ z => rowAt_upd hkm2 (fT1 oe) (fT2 oe) (z.upd hw17)
                    generalize upd (upd H17 L (.lst (ws' ++ ac3 ++ ac4 ++ ac5))) R (.dT kvs) = H19 at s19 hk19 hw19 hW19
                    refine ⟨_, rfl, _, rfl, _, rfl, by show 2 ≤ sizeLine; decide, fun t ht => ?_⟩
                    refine new_step ht fun H20 s20 e20 => ?_
                    have hk20 := s20 _ _ hk19
                    have hnone : valV kvs (keyL [a, b]) = none := by
                      have z := keys_has hK [a, b]
                      rw [decide_eq_false nf] at z
                      cases h : valV kvs (keyL [a, b]) with
                      | none => rfl
                      | some _ => rw [h] at z; cases z
                    refine ⟨R, _, rfl, DPut.t (k := keyL [a, b]) hk20 (by rw [keyL_v]; exact e20) (by rw [kl, sizeLine_eq]; omega), ?_⟩
                    rw [putK_new _ hnone]
                    have s21 : Same H (upd H20 R (.dT (kvs ++ [(keyL [a, b], .bl true)]))) := (s19.trans s20).mut hRH
                    have wl19 := hW19.1
                    have lm : (movesP (LsOf ms) [a, b]).length ≤ 24 := by omega
                    have lb : (belowP F [a, b]).length ≤ F.length := by
                      unfold belowP
                      rw [List.length_map]
                      exact List.length_filter_le _ _
                    have la : (aboveP F [a, b]).length ≤ F.length := by
                      unfold aboveP
                      rw [List.length_map]
                      exact List.length_filter_le _ _
                    have two : ∀ {x y : Int}, 0 ≤ x ∧ x < (many : Int) → 0 ≤ y ∧ y < (many : Int) → InN many [x, y] := fun {x y} hx hy z hz => by
                      rcases List.mem_cons.mp hz with rfl | hz
                      · exact hx
                      · rw [List.mem_singleton.mp hz]
                        exact hy
                    refine ⟨(200 - (F.length + 1)) * 1000 + (W' ++ movesP (LsOf ms) [a, b] ++ belowP F [a, b] ++ aboveP F [a, b]).length, ?_, F ++ [[a, b]], W' ++ movesP (LsOf ms) [a, b] ++ belowP F [a, b] ++ aboveP F [a, b], ?_, by rw [show (F ++ [[a, b]]).length = F.length + 1 from List.length_append ..], _, _, _, _, _, _, _, _, rfl⟩
                    · rw [List.length_append, List.length_append, List.length_append, List.length_append]
                      show _ < _ + (_ + 1)
                      omega
                    · exact {
                        same := s21
                        lst := ⟨ws' ++ ac3 ++ ac4 ++ ac5, by rw [upd_ne nLR]; exact s20 _ _ hw19, hW19.mono fun _ _ z => rowAt_upd hk20 dT1 dT2 (z.same s20)⟩
                        dic := ⟨_, upd_same, by rw [List.map_append, List.map_append, hK] <;> rfl⟩
                        wk := I.wk.put mno ne nf
                        fin := fun c hc => by
                          rcases List.mem_append.mp hc with h | h
                          · exact I.fin c h
                          · rw [List.mem_singleton.mp h]
                            exact pin
                        win := fun c hc => by
                          rcases List.mem_append.mp hc with h | h
                          · rcases List.mem_append.mp h with h | h
                            · rcases List.mem_append.mp h with h | h
                              · exact I.win c (List.mem_append_left _ h)
                              · obtain ⟨xs, hxs, rfl⟩ := List.mem_map.mp h
                                exact two (stepS_in (lsok xs hxs) na) (stepS_in (lsok xs hxs) nb)
                            · obtain ⟨d, hd, rfl⟩ := List.mem_map.mp h
                              have hd1 := (List.mem_filter.mp hd).1
                              obtain ⟨d0, d1, rfl⟩ := I.wk.fp d hd1
                              exact two (I.fin _ hd1 d0 List.mem_cons_self) nb
                          · obtain ⟨d, hd, rfl⟩ := List.mem_map.mp h
                            have hd1 := (List.mem_filter.mp hd).1
                            obtain ⟨d0, d1, rfl⟩ := I.wk.fp d hd1
                            exact two na (I.fin _ hd1 d1 (by simp))
                        wl := by
                          rw [List.length_append, List.length_append, List.length_append, List.length_append]
                          show _ ≤ 100 + 400 * (_ + 1)
                          omega }
            · have inF : [a, b] ∈ F := Classical.byContradiction fun z => e2 (by rw [decide_eq_false z] <;> rfl)
              exact ⟨_, less, F, W', skip H9 s9 (.inr inF), rfl, _, _, _, _, _, _, _, _, rfl⟩
          · have eab : a = b := by
              rw [dec_int] at e
              cases q : a == b with
              | true => exact eq_of_beq q
              | false => rw [q] at e; exact absurd rfl e
            exact ⟨_, less, F, W', skip H8 (Same.refl H8) (.inl eab), rfl, _, _, _, _, _, _, _, _, rfl⟩
        · have wn : ws = [] := by
            cases ws with
            | nil => rfl
            | cons v ws => exact absurd rfl c
          have Wn : W = [] := List.eq_nil_of_length_eq_zero (by rw [← hW.1, wn] <;> rfl)
          subst Wn
          obtain ⟨dn, irr⟩ := I.wk.done
          refine ⟨_, rfl, R, kvs, F, rfl, hk, hK, fun c hc z => ?_, fun ys ds p H7 s7 e7 A7 pm pw => ?_⟩
          · obtain ⟨a, b, e⟩ := I.wk.fp c hc
            rw [z] at e
            cases e
          · refine ⟨p, _, rfl, .inl ⟨SqL.of e7, fun T hT => ?_⟩⟩
            refine new_step hT fun H8 s8 e8 => ?_
            have pd : Law.Prs ds := fun c hc => I.wk.fp c (pm.mem_iff.mp hc)
            have nd : ds.Nodup := pm.nodup_iff.mpr I.wk.nd
            refine k (.ref T) (some ds) H8 ((I.same.trans s7).trans s8) ⟨?_, pd, fun a b => (pm.mem_iff).trans (dn a b), irr⟩ ⟨T, ys, rfl, SqT.of e8, A7.mono fun _ _ z => RowAt.same s8 z.at_⟩
            refine List.Pairwise.imp_of_mem (fun {x y} hx hy h => lex_of_le h.1 h.2 ?_ ?_) (List.Pairwise.and pw nd)
            · obtain ⟨a, b, rfl⟩ := pd x hx
              rfl
            · obtain ⟨a, b, rfl⟩ := pd y hy
              rfl
end
end Law

namespace L2
open PySem
theorem Same.sqL {K : PySem.W.Frag} {H H' : Hp} {a : Addr} {xs : List V} (s : Same H H') (h : SqL K H a xs) : SqL K H' a xs := by
  rcases h with (h | ⟨o, h⟩) | h
  · exact .inl (.inl (s _ _ h))
  · exact .inl (.inr ⟨o, s _ _ h⟩)
  · exact .inr h
end L2
namespace Law
open PySem L2
section
variable {P : Program} {w : World} {K : PySem.W.Frag} {mg : Str → Option Value} {base : Heap}
def spLBrk (K : PySem.W.Frag) : Sp := fun vs H Q _ => ∃ (mp ps : Addr) (many : Nat) (mws ws : List V) (Ls cs : List (List Int)), vs = [.ref mp, .ref ps] ∧ SqL K H mp mws ∧ AllIn (RowAt K H) mws Ls ∧ LsOk many Ls ∧ Ls.length ≤ 24 ∧ SqL K H ps ws ∧ AllIn (RowAt K H) ws cs ∧ cs.length ≤ 70 ∧ (∀ c ∈ cs, ∃ a b : Int, c = [a, b] ∧ InN many [a, b]) ∧
  ∀ (x : V) (r : Option (Nat × Nat)) (H' : Hp), Same H H' → BrkAt Ls cs r → BrkV K H' cs x r → Q x H'
end
end Law

namespace L2
open PySem PySem.Spec PyProof.Rows Law
/-! ### closing by one middle after the other -/
/-- closed by the middles below m -/
def ClBy (m : Int) (T : List (List Int)) : Prop := ∀ x y z : Int, 0 ≤ z → z < m → [x, z] ∈ T → [z, y] ∈ T → [x, y] ∈ T
/-- what a turn with the middle m has put in when it stands at (s, t) -/
def MidAt (T F : List (List Int)) (m s t : Int) : Prop := ∀ x y : Int, [x, y] ∈ F ↔ [x, y] ∈ T ∨ ((x < s ∨ (x = s ∧ y < t)) ∧ [x, m] ∈ T ∧ [m, y] ∈ T)
theorem MidAt.col {T F : List (List Int)} {m s t : Int} (h : MidAt T F m s t) (x : Int) : [x, m] ∈ F ↔ [x, m] ∈ T := by
  rw [h x m]
  exact ⟨fun z => z.elim id fun z => z.2.1, .inl⟩
theorem MidAt.row {T F : List (List Int)} {m s t : Int} (h : MidAt T F m s t) (y : Int) : [m, y] ∈ F ↔ [m, y] ∈ T := by
  rw [h m y]
  exact ⟨fun z => z.elim id fun z => z.2.2, .inl⟩
theorem MidAt.same {T F : List (List Int)} {m s t : Int} (h : MidAt T F m s t) (n : ¬ ([s, m] ∈ F ∧ [m, t] ∈ F) ∨ [s, t] ∈ F) : MidAt T F m s (t + 1) := fun x y => by
  rw [h x y]
  constructor
  · rintro (z | ⟨z1, z2⟩)
    · exact .inl z
    · exact .inr ⟨by omega, z2⟩
  · rintro (z | ⟨z1, z2⟩)
    · exact .inl z
    · by_cases c : x < s ∨ (x = s ∧ y < t)
      · exact .inr ⟨c, z2⟩
      · have e1 : x = s := by omega
        have e2 : y = t := by omega
        subst e1 e2
        rcases n with n | n
        · exact absurd ⟨(h.col x).mpr z2.1, (h.row y).mpr z2.2⟩ n
        · exact (h x y).mp n
theorem MidAt.put {T F : List (List Int)} {m s t : Int} (h : MidAt T F m s t) (h1 : [s, m] ∈ F) (h2 : [m, t] ∈ F) : MidAt T (F ++ [[s, t]]) m s (t + 1) := fun x y => by
  rw [List.mem_append, h x y]
  constructor
  · rintro ((z | ⟨z1, z2⟩) | z)
    · exact .inl z
    · exact .inr ⟨by omega, z2⟩
    · have z := List.mem_singleton.mp z
      injection z with e1 e2
      injection e2 with e2 _
      subst e1 e2
      exact .inr ⟨by omega, (h.col x).mp h1, (h.row y).mp h2⟩
  · rintro (z | ⟨z1, z2⟩)
    · exact .inl (.inl z)
    · by_cases c : x < s ∨ (x = s ∧ y < t)
      · exact .inl (.inr ⟨c, z2⟩)
      · have e1 : x = s := by omega
        have e2 : y = t := by omega
        subst e1 e2
        exact .inr (List.mem_singleton_self _)
/-- the next row: all pairs are below n -/
theorem MidAt.next {T F : List (List Int)} {m s n : Int} (h : MidAt T F m s n) (b : ∀ x y : Int, [x, y] ∈ T → y < n) (b0 : ∀ x y : Int, [x, y] ∈ T → 0 ≤ y) : MidAt T F m (s + 1) 0 := fun x y => by
  rw [h x y]
  constructor
  · rintro (z | ⟨z1, z2⟩)
    · exact .inl z
    · exact .inr ⟨by omega, z2⟩
  · rintro (z | ⟨z1, z2⟩)
    · exact .inl z
    · have := b _ _ z2.2
      have := b0 _ _ z2.2
      exact .inr ⟨by omega, z2⟩
theorem MidAt.zero {T : List (List Int)} {m : Int} (b : ∀ x y : Int, [x, y] ∈ T → 0 ≤ x ∧ 0 ≤ y) : MidAt T T m 0 0 := fun x y => ⟨.inl, fun z => z.elim id fun ⟨z1, z2⟩ => by
  have := b _ _ z2.1
  have := b _ _ z2.2
  omega⟩
theorem ClBy.next {T F : List (List Int)} {m n : Int} (h : ClBy m T) (hF : MidAt T F m n 0) (b : ∀ x y : Int, [x, y] ∈ T → x < n) : ClBy (m + 1) F := by
  have full : ∀ x y : Int, [x, m] ∈ T → [m, y] ∈ T → [x, y] ∈ F := fun x y h1 h2 => (hF x y).mpr (.inr ⟨.inl (b _ _ h1), h1, h2⟩)
  intro x y z z0 z1 h1 h2
  by_cases c : z = m
  · subst c
    exact full x y ((hF.col x).mp h1) ((hF.row y).mp h2)
  have zm : z < m := by omega
  rcases (hF x z).mp h1 with a1 | ⟨_, a1, a2⟩
  · rcases (hF z y).mp h2 with b1 | ⟨_, b1, b2⟩
    · exact (hF x y).mpr (.inl (h x y z z0 zm a1 b1))
    · exact full x y (h x m z z0 zm a1 b1) b2
  · rcases (hF z y).mp h2 with b1 | ⟨_, b1, b2⟩
    · exact full x y a1 (h m y z z0 zm a2 b1)
    · exact full x y a1 b2
/-- what pairs lead to by way of others -/
inductive Tr (B : List (List Int)) : Int → Int → Prop
  | base {a b : Int} : [a, b] ∈ B → Tr B a b
  | trans {a b c : Int} : Tr B a b → Tr B b c → Tr B a c
theorem Tr.sound {B T F : List (List Int)} {m s t : Int} (h : MidAt T F m s t) (hT : ∀ x y : Int, [x, y] ∈ T → Tr B x y) : ∀ x y : Int, [x, y] ∈ F → Tr B x y := fun x y hx => by
  rcases (h x y).mp hx with z | ⟨_, z1, z2⟩
  · exact hT x y z
  · exact (hT _ _ z1).trans (hT _ _ z2)
theorem Tr.full {B F : List (List Int)} {n : Int} (h : ClBy n F) (hb : ∀ x y : Int, [x, y] ∈ B → [x, y] ∈ F) (b : ∀ x y : Int, [x, y] ∈ F → 0 ≤ y ∧ y < n) : ∀ x y : Int, Tr B x y → [x, y] ∈ F := by
  intro x y t
  induction t with
  | base m => exact hb _ _ m
  | trans _ _ ih1 ih2 =>
    have z := b _ _ ih1
    exact h _ _ _ z.1 z.2 ih1 ih2
end L2
namespace L2
open PySem PySem.Spec PyProof.Rows Law
def addR (F : List (List Int)) (c : List Int) : List (List Int) := if c ∈ F then F else F ++ [c]
theorem addR_mem {F : List (List Int)} {c d : List Int} : d ∈ addR F c ↔ d ∈ F ∨ d = c := by
  unfold addR
  by_cases h : c ∈ F
  · rw [if_pos h]
    exact ⟨.inl, fun z => z.elim id fun e => by rw [e]; exact h⟩
  · rw [if_neg h, List.mem_append, List.mem_singleton]
theorem addR_nd {F : List (List Int)} {c : List Int} (h : F.Nodup) : (addR F c).Nodup := by
  unfold addR
  by_cases m : c ∈ F
  · rw [if_pos m]
    exact h
  · rw [if_neg m, List.nodup_append]
    refine ⟨h, by simp, fun u hu v hv e => ?_⟩
    rw [List.mem_singleton.mp hv] at e
    rw [e] at hu
    exact m hu
theorem put_keys {kvs : List (List Key × V)} {F : List (List Int)} {c : List Int} {v : V} (hK : kvs.map (·.1) = F.map keyL) : (putK kvs (keyL c) v).map (·.1) = (addR F c).map keyL := by
  have z := keys_has hK c
  unfold addR
  by_cases m : c ∈ F
  · rw [if_pos m, ← hK]
    unfold putK
    rw [valV_any, z, decide_eq_true m, if_pos rfl, List.map_map]
    refine List.map_congr_left fun kv _ => ?_
    show (if kv.1 = keyL c then (kv.1, v) else kv).1 = kv.1
    split <;> rfl
  · rw [if_neg m]
    rw [decide_eq_false m] at z
    have n : valV kvs (keyL c) = none := by
      cases h : valV kvs (keyL c) with
      | none => rfl
      | some _ => rw [h] at z; cases z
    rw [putK_new _ n, List.map_append, List.map_append, hK] <;> rfl
end L2
namespace Law
open PySem L2
structure TbI (H : Hp) (R : Addr) (many : Nat) (cs F : List (List Int)) (H' : Hp) : Prop where
  same : Same H H'
  dic : ∃ kvs : List (List Key × V), H' R = some (.dT kvs) ∧ kvs.map (·.1) = F.map keyL
  nd : F.Nodup
  inn : ∀ c ∈ F, ∃ a b : Int, c = [a, b] ∧ InN many [a, b]
  snd : ∀ x y : Int, [x, y] ∈ F → Tr cs x y
  bs : ∀ x y : Int, [x, y] ∈ cs → [x, y] ∈ F
theorem TbI.more {H : Hp} {R : Addr} {many : Nat} {cs F : List (List Int)} {H1 H2 : Hp} (h : TbI H R many cs F H1) (s : Same H1 H2) : TbI H R many cs F H2 := by
  obtain ⟨kvs, h1, h2⟩ := h.dic
  exact ⟨h.same.trans s, ⟨kvs, s _ _ h1, h2⟩, h.nd, h.inn, h.snd, h.bs⟩
theorem TbI.few {H : Hp} {R : Addr} {many : Nat} {cs F : List (List Int)} {H1 : Hp} (m12 : many ≤ 12) (h : TbI H R many cs F H1) : F.length ≤ 144 :=
  Nat.le_trans (List.Nodup.length_le_of_subset h.nd fun d hd => by
    obtain ⟨u, v, rfl, i⟩ := h.inn d hd
    exact allP_mem i) (allP_few m12)
theorem TbI.bd {H : Hp} {R : Addr} {many : Nat} {cs F : List (List Int)} {H1 : Hp} (h : TbI H R many cs F H1) {x y : Int} (m : [x, y] ∈ F) : 0 ≤ x ∧ x < (many : Int) ∧ 0 ≤ y ∧ y < (many : Int) := by
  obtain ⟨u, v, e, i⟩ := h.inn _ m
  cases e
  have a := i x List.mem_cons_self
  have b := i y (by simp)
  omega
section
variable {P : Program} {w : World} {K : PySem.W.Frag} {mg : Str → Option Value} {base : Heap}
def spLClosed (K : PySem.W.Frag) : Sp := fun vs H Q _ => ∃ (many : Nat) (pp : Addr) (ws : List V) (cs : List (List Int)), vs = [.int (many : Nat), .ref pp] ∧ many ≤ 12 ∧ SqL K H pp ws ∧ AllIn (RowE H) ws cs ∧ cs.length ≤ 4000 ∧ (∀ c ∈ cs, ∃ a b : Int, c = [a, b] ∧ InN many [a, b]) ∧
  ∀ (D : Addr) (ys : List V) (ds : List (List Int)) (H' : Hp), Same H H' → H' D = some (.lst ys) → AllIn (RowE H') ys ds → ds.Pairwise lexL → (∀ c ∈ ds, ∃ a b : Int, c = [a, b] ∧ InN many [a, b]) → (∀ x y : Int, [x, y] ∈ ds ↔ Tr cs x y) → Q (.ref D) H'
abbrev nLawClosed : List Str := ["_law_many", "_law_pairs", "_law_table", "_law_pair", "_law_middle", "_law_s", "_law_t"]
theorem scLawClosed : FnScope nLawClosed ["_law_many", "_law_pairs"] (defScope s_law_closed) := ⟨rfl, rfl, rfl, by decide +kernel, rfl, by decide +kernel, by decide +kernel⟩
theorem ok_closed {f : Addr} {fd : FuncData} (F : Fun K "_law_closed" "_law_closed" s_law_closed f fd) (T : NmA mg) : FnOk P w K mg base CX0 1 f fd ["_law_many", "_law_pairs"] (spLClosed K) := by
  refine F.ok scLawClosed (fun vs H Q E h => ?_) (fun cdv A' outer s H vs Q E hr h => ?_)
  · obtain ⟨many, pp, ws, cs, rfl, _⟩ := h
    rfl
  · obtain ⟨many, pp, ws, cs, rfl, m12, hS, hA, l1000, prs, k⟩ := h
    have hu := hu_of hr
    refine ⟨_, pss_cons (ps_set (i := 2) scLawClosed.nd rfl (Or.inl rfl) pe_dnewT)
      (pss_cons (ps_for PassesOwn.never rfl (pi_list (pv 1)) (pg_name (i := 3) scLawClosed.nd rfl (Or.inl rfl))
        (pss_one (ps_dput hu (pv 2) (pv 3) pe_bl rfl)))
      (pss_cons (ps_for PassesOwn.never rfl (pi_range1 (by rfl) T.range (pa_cons (pv 0) pa_nil)) (pg_name (i := 4) scLawClosed.nd rfl (Or.inl rfl))
        (pss_one (ps_for PassesOwn.never rfl (pi_range1 (by rfl) T.range (pa_cons (pv 0) pa_nil)) (pg_name (i := 5) scLawClosed.nd rfl (Or.inl rfl))
          (pss_one (ps_for PassesOwn.never rfl (pi_range1 (by rfl) T.range (pa_cons (pv 0) pa_nil)) (pg_name (i := 6) scLawClosed.nd rfl (Or.inl rfl))
            (pss_one (ps_if (PW.pt (pw_and (pt_cmp (pc_din hu (pe_tup (pa_cons (pv 5) (pa_cons (pv 4) pa_nil))) (pv 2))) (pw_and1 (pt_cmp (pc_din hu (pe_tup (pa_cons (pv 4) (pa_cons (pv 6) pa_nil))) (pv 2))))))
              (pss_one (ps_dput hu (pv 2) (pe_tup (pa_cons (pv 5) (pa_cons (pv 6) pa_nil))) pe_bl rfl)) pss_nil)))))))
      (pss_one (ps_ret (pe_callB (cr_sortDT rfl (units65 hr)) (by rfl) T.sorted (by decide +kernel) (pa_cons (pv 2) pa_nil)))))), ?_⟩
    refine fun R hR => ?_
    refine new_step hR fun H1 s1 e1 => ?_
    refine ⟨_, rfl, pp, rfl, ⟨_, s1.sqL hS⟩, ?_⟩
    refine for_list (K := K) (a := pp) (xs := ws) (fun i σ H' => Same H H' ∧ (∃ (kvs : List (List Key × V)) (F : List (List Int)), H' R = some (.dT kvs) ∧ kvs.map (·.1) = F.map keyL ∧ F.Nodup ∧ (∀ c, c ∈ F ↔ c ∈ cs.take i)) ∧ ∃ u3 u4 u5 u6 : Option V, σ = [some (.int (many : Int)), some (.ref pp), some (.ref R), u3, u4, u5, u6]) ⟨s1, ⟨[], [], e1, rfl, List.nodup_nil, fun c => Iff.rfl⟩, none, none, none, none, rfl⟩ (fun i σ H' _ h => h.1.sqL hS) ?_ ?_
    · rintro i x σ H2 hi ⟨s2, ⟨kvs, F, hk, hK, nd, hm⟩, u3, u4, u5, u6, rfl⟩
      obtain ⟨c, hc, a, rfl, ha⟩ := hA.2 i x hi
      have few : F.length ≤ 144 := by
        refine Nat.le_trans (List.Nodup.length_le_of_subset nd fun d hd => ?_) (allP_few m12)
        obtain ⟨u, v, rfl, h⟩ := prs d (List.mem_of_mem_take ((hm d).mp hd))
        exact allP_mem h
      have kl : kvs.length = F.length := by
        have z := congrArg List.length hK
        rw [List.length_map, List.length_map] at z
        exact z
      refine ⟨_, rfl, _, rfl, R, _, rfl, DPut.t (k := keyL c) hk (by rw [keyL_v]; exact s2 _ _ ha) (by rw [kl, sizeLine_eq]; omega), ?_⟩
      refine ⟨s2.mut hR, ⟨_, addR F c, upd_same, put_keys hK, addR_nd nd, fun d => ?_⟩, _, _, _, _, rfl⟩
      rw [addR_mem, hm d, List.take_add_one, hc, List.mem_append]
      show _ ↔ _ ∨ d ∈ [c]
      rw [List.mem_singleton]
    · rintro σ H2 ⟨s2, ⟨kvs, F, hk, hK, nd, hm⟩, u3, u4, u5, u6, rfl⟩
      rw [hA.1, List.take_length] at hm
      have I0 : TbI H R many cs F H2 := ⟨s2, ⟨kvs, hk, hK⟩, nd, fun c hc => prs c ((hm c).mp hc), fun x y h => .base ((hm _).mp h), fun x y h => (hm _).mpr h⟩
      have c0 : ClBy ((0 : Nat) : Int) F := fun x y z z0 z1 => by omega
      clear hk hK nd hm kvs
      refine ⟨_, rfl, (many : Int), rfl, by omega, by omega, ?_⟩
      rw [Int.toNat_natCast]
      refine for_range (lo := 0) (n := many) (fun i σ H' => (∃ F, TbI H R many cs F H' ∧ ClBy ((i : Nat) : Int) F) ∧ ∃ u3 u4 u5 u6 : Option V, σ = [some (.int (many : Int)), some (.ref pp), some (.ref R), u3, u4, u5, u6]) ⟨⟨F, I0, c0⟩, _, _, _, _, rfl⟩ ?_ ?_
      · rintro i σ H3 hi ⟨⟨T, I3, c3⟩, u3, u4, u5, u6, rfl⟩
        rw [Int.zero_add]
        refine ⟨_, rfl, (many : Int), rfl, by omega, by omega, ?_⟩
        rw [Int.toNat_natCast]
        refine for_range (lo := 0) (n := many) (fun j σ H' => (∃ F, TbI H R many cs F H' ∧ MidAt T F (i : Int) (j : Int) 0) ∧ ∃ u5 u6 : Option V, σ = [some (.int (many : Int)), some (.ref pp), some (.ref R), u3, some (.int (i : Int)), u5, u6]) ⟨⟨T, I3, MidAt.zero fun x y h => ⟨(I3.bd h).1, (I3.bd h).2.2.1⟩⟩, _, _, rfl⟩ ?_ ?_
        · rintro j σ H4 hj ⟨⟨F4, I4, c4⟩, u5, u6, rfl⟩
          rw [Int.zero_add]
          refine ⟨_, rfl, (many : Int), rfl, by omega, by omega, ?_⟩
          rw [Int.toNat_natCast]
          refine for_range (lo := 0) (n := many) (fun t σ H' => (∃ F, TbI H R many cs F H' ∧ MidAt T F (i : Int) (j : Int) (t : Int)) ∧ ∃ u6 : Option V, σ = [some (.int (many : Int)), some (.ref pp), some (.ref R), u3, some (.int (i : Int)), some (.int (j : Int)), u6]) ⟨⟨F4, I4, c4⟩, _, rfl⟩ ?_ ?_
          · rintro t σ H5 ht ⟨⟨F5, I5, c5⟩, u6, rfl⟩
            rw [Int.zero_add]
            have tn : ((t : Nat) : Int) + 1 = ((t + 1 : Nat) : Int) := by omega
            have same : ∀ H', TbI H R many cs F5 H' → (¬ ([(j : Int), (i : Int)] ∈ F5 ∧ [(i : Int), (t : Int)] ∈ F5) ∨ [(j : Int), (t : Int)] ∈ F5) → ∃ F, TbI H R many cs F H' ∧ MidAt T F (i : Int) (j : Int) ((t + 1 : Nat) : Int) := fun H' I' n => by
              rw [← tn]
              exact ⟨F5, I', c5.same n⟩
            refine ⟨_, rfl, _, rfl, by show 2 ≤ sizeLine; decide, fun p hp => ?_⟩
            refine new_step hp fun H6 s6 e6 => ?_
            have I6 := I5.more s6
            obtain ⟨kvs, hk, hK⟩ := I6.dic
            refine ⟨_, rfl, R, _, rfl, DGet.t (k := keyL [(j : Int), (i : Int)]) hk (by rw [keyL_v]; exact e6), _, rfl, ?_⟩
            rw [keys_has hK]
            refine ite2 (fun h1 => ?_) (fun h1 => ⟨same H6 I6 (.inl fun z => h1 (decide_eq_true z.1)), _, rfl⟩)
            have h1 := of_decide_eq_true h1
            refine ⟨_, rfl, _, rfl, by show 2 ≤ sizeLine; decide, fun p2 hp2 => ?_⟩
            refine new_step hp2 fun H7 s7 e7 => ?_
            have I7 := I6.more s7
            have hk7 := s7 _ _ hk
            refine ⟨_, rfl, R, _, rfl, DGet.t (k := keyL [(i : Int), (t : Int)]) hk7 (by rw [keyL_v]; exact e7), _, rfl, ?_⟩
            rw [keys_has hK]
            refine ite2 (fun h2 => ?_) (fun h2 => ⟨same H7 I7 (.inl fun z => h2 (decide_eq_true z.2)), _, rfl⟩)
            have h2 := of_decide_eq_true h2
            refine ⟨_, rfl, _, rfl, _, rfl, by show 2 ≤ sizeLine; decide, fun p3 hp3 => ?_⟩
            refine new_step hp3 fun H8 s8 e8 => ?_
            have I8 := I7.more s8
            have hk8 := s8 _ _ hk7
            have few := I8.few m12
            have kl : kvs.length = F5.length := by
              have z := congrArg List.length hK
              rw [List.length_map, List.length_map] at z
              exact z
            refine ⟨R, _, rfl, DPut.t (k := keyL [(j : Int), (t : Int)]) hk8 (by rw [keyL_v]; exact e8) (by rw [kl, sizeLine_eq]; omega), ?_⟩
            have b1 := I8.bd h1
            have b2 := I8.bd h2
            have I9 : TbI H R many cs (addR F5 [(j : Int), (t : Int)]) (upd H8 R (.dT (putK kvs (keyL [(j : Int), (t : Int)]) (.bl true)))) := {
              same := I8.same.mut hR
              dic := ⟨_, upd_same, put_keys hK⟩
              nd := addR_nd I8.nd
              inn := fun c hc => by
                rcases addR_mem.mp hc with h | rfl
                · exact I8.inn c h
                · refine ⟨_, _, rfl, fun z hz => ?_⟩
                  rcases List.mem_cons.mp hz with rfl | hz
                  · omega
                  · rw [List.mem_singleton.mp hz]
                    omega
              snd := fun x y h => by
                rcases addR_mem.mp h with h | h
                · exact I8.snd x y h
                · cases h
                  exact (I8.snd _ _ h1).trans (I8.snd _ _ h2)
              bs := fun x y h => addR_mem.mpr (.inl (I8.bs x y h)) }
            refine ⟨?_, _, rfl⟩
            by_cases m : [(j : Int), (t : Int)] ∈ F5
            · have e : addR F5 [(j : Int), (t : Int)] = F5 := if_pos m
              rw [e] at I9
              exact same _ I9 (.inr m)
            · have e : addR F5 [(j : Int), (t : Int)] = F5 ++ [[(j : Int), (t : Int)]] := if_neg m
              rw [e] at I9
              rw [← tn]
              exact ⟨_, I9, c5.put h1 h2⟩
          · rintro σ H5 ⟨⟨F5, I5, c5⟩, u6, rfl⟩
            have jn : ((j : Nat) : Int) + 1 = ((j + 1 : Nat) : Int) := by omega
            refine ⟨⟨F5, I5, ?_⟩, _, _, rfl⟩
            rw [← jn]
            exact c5.next (fun x y h => (I3.bd h).2.2.2) fun x y h => (I3.bd h).2.2.1
        · rintro σ H4 ⟨⟨F4, I4, c4⟩, u5, u6, rfl⟩
          have jn : ((i : Nat) : Int) + 1 = ((i + 1 : Nat) : Int) := by omega
          refine ⟨⟨F4, I4, ?_⟩, _, _, _, _, rfl⟩
          rw [← jn]
          exact c3.next c4 fun x y h => (I3.bd h).2.1
      · rintro σ H3 ⟨⟨F3, I3, c3⟩, u3, u4, u5, u6, rfl⟩
        obtain ⟨kvs, hk, hK⟩ := I3.dic
        refine ⟨_, rfl, R, kvs, F3, rfl, hk, hK, fun c hc z => ?_, fun ys ds p H4 s4 e4 A4 pm pw => ?_⟩
        · obtain ⟨a, b, e, _⟩ := I3.inn c hc
          rw [z] at e
          cases e
        · have nd : ds.Nodup := pm.nodup_iff.mpr I3.nd
          have inn : ∀ c ∈ ds, ∃ a b : Int, c = [a, b] ∧ InN many [a, b] := fun c hc => I3.inn c (pm.mem_iff.mp hc)
          refine k p ys ds H4 (I3.same.trans s4) e4 A4 ?_ inn fun x y => ?_
          · refine List.Pairwise.imp_of_mem (fun {x y} hx hy h => lex_of_le h.1 h.2 ?_ ?_) (List.Pairwise.and pw nd)
            · obtain ⟨a, b, rfl, _⟩ := inn x hx
              rfl
            · obtain ⟨a, b, rfl, _⟩ := inn y hy
              rfl
          · rw [pm.mem_iff]
            exact ⟨I3.snd x y, Tr.full c3 I3.bs (fun x y h => ⟨(I3.bd h).2.2.1, (I3.bd h).2.2.2⟩) x y⟩
end
end Law

namespace Law
open PySem L2
theorem erase_perm {α : Type} {ls : List α} {j : Nat} (hj : j < ls.length) : (ls[j] :: ls.eraseIdx j).Perm ls := by
  rw [List.eraseIdx_eq_take_drop_succ]
  refine List.perm_middle.symm.trans ?_
  rw [← List.drop_eq_getElem_cons hj, List.take_append_drop]
section
variable {P : Program} {w : World} {K : PySem.W.Frag} {mg : Str → Option Value} {base : Heap}
def spWeights : Sp := fun vs H Q _ => ∃ (p : Addr) (n : Nat), vs = [.ref p, .int (n : Nat)] ∧ HandAt H p ∧ 1 ≤ n ∧ n ≤ 24 ∧
  ∀ (l : Addr) (ws : List Int) (H' : Hp), Stp p H H' → H' l = some (.lst (ws.map V.int)) → ws.length = n → (∀ x ∈ ws, 1 ≤ x ∧ x ≤ 9) → Q (.ref l) H'
abbrev nLawWeights : List Str := ["_law_hand_here", "_law_many", "_law_turn"]
theorem scLawWeights : FnScope nLawWeights ["_law_hand_here", "_law_many"] (defScope s_law_weights) := ⟨rfl, rfl, rfl, by decide +kernel, rfl, by decide +kernel, by decide +kernel⟩
theorem ok_weights {f : Addr} {fd : FuncData} {fD : Addr} {fdD : FuncData} {fcAny : Addr} {fdcAny : FuncData} (F : Fun K "_law_weights" "_law_weights" s_law_weights f fd) (T : NmA mg) (D : Cl P w K mg base CX0 1 "_law_draw" fD fdD ["_law_hand_here", "_law_many"] spDraw) (cAny : Cl P w K mg base CX0 2 "_law_any" fcAny fdcAny ["_law_hand_here", "_law_things"] (spAny K)) : FnOk P w K mg base CX0 3 f fd ["_law_hand_here", "_law_many"] spWeights := by
  refine F.ok scLawWeights (fun vs H Q E h => ?_) (fun cdv A' outer s H vs Q E hr h => ?_)
  · obtain ⟨p, n, rfl, _⟩ := h
    rfl
  · obtain ⟨p, n, rfl, hH, n1, n24, k⟩ := h
    have hu := hu_of hr
    refine ⟨_, pss_one (ps_ret (pe_lc (own := [("_law_turn", 2)]) (g := (gName 2)) (tt := tYes) rfl scLawWeights.nd  (pi_range1 (by rfl) T.range (pa_cons (pv 1) pa_nil)) (blkOk_by (own := [("_law_turn", 2)]) (N := nLawWeights) (sc := defScope s_law_weights) (by decide +kernel)) (fun _ _ _ _ _ => (pg_name (i := 2) scLawWeights.nd rfl (Or.inl rfl))) (fun _ _ _ _ _ => pts_nil) (fun _ _ _ _ _ => (pe_op op_add pe_int (D.call (hr.mono (by decide)) (pa_cons (pv 0) (pa_cons (cAny.call (hr.mono (by decide)) (pa_cons (pv 0) (pa_cons (pe_lst (pa_cons pe_int (pa_cons pe_int (pa_cons pe_int pa_nil)))) pa_nil))) pa_nil))))))), ?_⟩
    refine ⟨_, rfl, (n : Int), rfl, by omega, by omega, fun D hD => ?_⟩
    have Dp : D ≠ p := ne_hand hH hD
    refine lc_range (lo := 0) (n := (n : Int).toNat) (fun i H' => Stp p H H' ∧ ∃ ws : List Int, H' D = some (.lst (ws.map V.int)) ∧ ws.length = i ∧ ∀ x ∈ ws, 1 ≤ x ∧ x ≤ 9) ⟨Stp.of hH (Same.new hD), [], upd_same, rfl, fun x hx => absurd hx List.not_mem_nil⟩ (fun i H1 hi g => ?_) fun H1 g => ?_
    · obtain ⟨S1, ws, d1, l1, b1⟩ := g
      refine ⟨rfl, _, rfl, _, rfl, by show 3 ≤ sizeLine; decide, fun L hL => ?_⟩
      refine new_step hL fun H2 s2 e2 => ?_
      have S2 := S1.post s2
      refine ⟨p, L, ([1, 3, 9] : List Int).map V.int, rfl, .inl (SqL.of e2), by decide, by decide, S2.hand, fun j x H3 hx S3 => ?_⟩
      rw [List.getElem?_map] at hx
      obtain ⟨v, hv, rfl⟩ := Option.map_eq_some_iff.mp hx
      have vb : 1 ≤ v ∧ v ≤ 9 := by
        have z := List.mem_of_getElem? hv
        simp at z
        omega
      refine ⟨p, v, rfl, by omega, by omega, S3.hand, fun d H4 d0 d1' S4 => ?_⟩
      have S34 := S3.trans S4
      refine ⟨_, _, rfl, rfl, _, S34.keep _ _ Dp (s2 _ _ d1), by rw [List.length_map, l1]; exact small1000 (by omega), (S2.trans S34).mut hH hD, ws ++ [1 + d], by rw [upd_same, List.map_append] <;> rfl, by rw [List.length_append, l1] <;> rfl, fun x hx => ?_⟩
      rcases List.mem_append.mp hx with h | h
      · exact b1 x h
      · rw [List.mem_singleton.mp h]
        omega
    · obtain ⟨S1, ws, d1, l1, b1⟩ := g
      exact k D ws H1 S1 d1 (by rw [l1, Int.toNat_natCast]) b1
def spAnyMap (K : PySem.W.Frag) : Sp := fun vs H Q _ => ∃ (p : Addr) (n : Nat), vs = [.ref p, .int (n : Nat)] ∧ HandAt H p ∧ 1 ≤ n ∧ n ≤ 12 ∧
  ∀ (l : Addr) (xs : List Int) (H' : Hp), Stp p H H' → SqT K H' l (xs.map V.int) → LdOk n xs → Q (.ref l) H'
abbrev nLawAnyMap : List Str := ["_law_hand_here", "_law_many", "_law_state"]
theorem scLawAnyMap : FnScope nLawAnyMap ["_law_hand_here", "_law_many"] (defScope s_law_any_map) := ⟨rfl, rfl, rfl, by decide +kernel, rfl, by decide +kernel, by decide +kernel⟩
theorem ok_any_map {f : Addr} {fd : FuncData} {fD : Addr} {fdD : FuncData} (F : Fun K "_law_any_map" "_law_any_map" s_law_any_map f fd) (T : NmA mg) (D : Cl P w K mg base CX0 1 "_law_draw" fD fdD ["_law_hand_here", "_law_many"] spDraw) : FnOk P w K mg base CX0 2 f fd ["_law_hand_here", "_law_many"] (spAnyMap K) := by
  refine F.ok scLawAnyMap (fun vs H Q E h => ?_) (fun cdv A' outer s H vs Q E hr h => ?_)
  · obtain ⟨p, n, rfl, _⟩ := h
    rfl
  · obtain ⟨p, n, rfl, hH, n1, n12, k⟩ := h
    have hu := hu_of hr
    refine ⟨_, pss_one (ps_ret (pe_callTy call_tuple_of (by rfl) T.tuple (by decide +kernel) (pa_cons (pe_lc (own := [("_law_state", 2)]) (g := (gName 2)) (tt := tYes) rfl scLawAnyMap.nd  (pi_range1 (by rfl) T.range (pa_cons (pv 1) pa_nil)) (blkOk_by (own := [("_law_state", 2)]) (N := nLawAnyMap) (sc := defScope s_law_any_map) (by decide +kernel)) (fun _ _ _ _ _ => (pg_name (i := 2) scLawAnyMap.nd rfl (Or.inl rfl))) (fun _ _ _ _ _ => pts_nil) (fun _ _ _ _ _ => (D.call (hr.mono (by decide)) (pa_cons (pv 0) (pa_cons (pv 1) pa_nil))))) pa_nil))), ?_⟩
    refine ⟨_, rfl, (n : Int), rfl, by omega, by omega, fun D hD => ?_⟩
    have Dp : D ≠ p := ne_hand hH hD
    refine lc_range (lo := 0) (n := (n : Int).toNat) (fun i H' => Stp p H H' ∧ ∃ ws : List Int, H' D = some (.lst (ws.map V.int)) ∧ ws.length = i ∧ ∀ x ∈ ws, 0 ≤ x ∧ x < (n : Int)) ⟨Stp.of hH (Same.new hD), [], upd_same, rfl, fun x hx => absurd hx List.not_mem_nil⟩ (fun i H1 hi g => ?_) fun H1 g => ?_
    · obtain ⟨S1, ws, d1, l1, b1⟩ := g
      refine ⟨rfl, _, rfl, _, rfl, p, (n : Int), rfl, by omega, by omega, S1.hand, fun d H4 d0 d1' S4 => ?_⟩
      refine ⟨_, S4.keep _ _ Dp d1, by rw [List.length_map, l1]; exact small1000 (by omega), (S1.trans S4).mut hH hD, ws ++ [d], by rw [upd_same, List.map_append] <;> rfl, by rw [List.length_append, l1] <;> rfl, fun x hx => ?_⟩
      rcases List.mem_append.mp hx with h | h
      · exact b1 x h
      · rw [List.mem_singleton.mp h]
        omega
    · obtain ⟨S1, ws, d1, l1, b1⟩ := g
      refine ⟨D, _, rfl, .inl ⟨SqL.of d1, fun T hT => ?_⟩⟩
      refine new_step hT fun H6 s6 e6 => ?_
      exact k T ws H6 (S1.post s6) (SqT.of e6) ⟨by rw [l1, Int.toNat_natCast], b1⟩
def spShuf (K : PySem.W.Frag) : Sp := fun vs H Q _ => ∃ (p l : Addr) (xs : List V), vs = [.ref p, .ref l] ∧ HandAt H p ∧ SqL K H l xs ∧ xs.length ≤ 12 ∧
  ∀ (r : Addr) (ys : List V) (H' : Hp), Stp p H H' → H' r = some (.lst ys) → xs.Perm ys → Q (.ref r) H'
abbrev nLawShuffled : List Str := ["_law_hand_here", "_law_things", "_law_pool", "_law_found", "_law_turn"]
theorem scLawShuffled : FnScope nLawShuffled ["_law_hand_here", "_law_things"] (defScope s_law_shuffled) := ⟨rfl, rfl, rfl, by decide +kernel, rfl, by decide +kernel, by decide +kernel⟩
theorem ok_shuffled {f : Addr} {fd : FuncData} {fD : Addr} {fdD : FuncData} (F : Fun K "_law_shuffled" "_law_shuffled" s_law_shuffled f fd) (T : NmA mg) (D : Cl P w K mg base CX0 1 "_law_draw" fD fdD ["_law_hand_here", "_law_many"] spDraw) : FnOk P w K mg base CX0 2 f fd ["_law_hand_here", "_law_things"] (spShuf K) := by
  refine F.ok scLawShuffled (fun vs H Q E h => ?_) (fun cdv A' outer s H vs Q E hr h => ?_)
  · obtain ⟨p, l, xs, rfl, _⟩ := h
    rfl
  · obtain ⟨p, l, xs, rfl, hH, hL, l12, k⟩ := h
    have hu := hu_of hr
    refine ⟨_, pss_cons (ps_par (i := 2) (j := 3) (by rfl) scLawShuffled.nd rfl rfl (by decide) rfl rfl (pa_cons (pe_callTy call_list_of (by rfl) T.list (by decide +kernel) (pa_cons (pv 1) pa_nil)) (pa_cons (pe_lst pa_nil) pa_nil)) (by rfl))
      (pss_cons (ps_for PassesOwn.never rfl (pi_range1 (by rfl) T.range (pa_cons (pe_callB call_len_seq (by rfl) T.len PySem.boot_len (pa_cons (pv 1) pa_nil)) pa_nil)) (pg_name (i := 4) scLawShuffled.nd rfl (Or.inl rfl))
        (pss_one (ps_expr (pe_bm PySem.F.plainAttrs_list PySem.F.slot_list_append PySem.F.type_list_append mt_append (pv 3) (pa_cons (pe_bm PySem.F.plainAttrs_list PySem.F.slot_list_pop PySem.F.type_list_pop mt_popAt (pv 2) (pa_cons (D.call (hr.mono (by decide)) (pa_cons (pv 0) (pa_cons (pe_callB call_len_seq (by rfl) T.len PySem.boot_len (pa_cons (pv 2) pa_nil)) pa_nil))) pa_nil)) pa_nil)))))
      (pss_one (ps_ret (pv 3)))), ?_⟩
    refine ⟨_, rfl, l, _, rfl, .inl hL, fun q hq => ?_⟩
    have nq : q ≠ p := ne_hand hH hq
    refine new_step hq fun H1 s1 e1 => ?_
    refine ⟨by show 0 ≤ sizeLine; decide, fun r hr' => ⟨_, _, rfl, ?_⟩⟩
    have qr : q ≠ r := ne_of_none e1 hr'
    have nr : r ≠ p := ne_hand (hH.same s1) hr'
    have rH : H r = none := s1.free hr'
    refine new_step hr' fun H2 s2 e2 => ?_
    have S2 : Stp p H H2 := Stp.of hH (s1.trans s2)
    refine ⟨_, rfl, l, _, rfl, .inl (S2.sqL hH hL), _, rfl, by omega, by omega, ?_⟩
    rw [Int.toNat_natCast]
    refine for_range (lo := 0) (n := xs.length) (fun i σ H' => Stp p H H' ∧ ∃ (ls ws : List V) (u : Option V), H' q = some (.lst ls) ∧ H' r = some (.lst ws) ∧ ls.length + i = xs.length ∧ ws.length = i ∧ xs.Perm (ls ++ ws) ∧
      σ = [some (.ref p), some (.ref l), some (.ref q), some (.ref r), u]) ⟨S2, xs, [], none, s2 _ _ e1, e2, rfl, rfl, by rw [List.append_nil], rfl⟩ ?_ ?_
    · rintro i σ H' hi ⟨S4, ls, ws, u, h1, h2, h3, h4, h5, rfl⟩
      refine ⟨_, rfl, .inl ⟨rfl, _, SqL.of h2⟩, _, rfl, .inl ⟨rfl, _, SqL.of h1⟩, _, rfl, _, rfl, q, _, rfl, .inl (SqL.of h1), p, _, rfl, by omega, by omega, S4.hand, fun d2 H5 e0 e1 S5 => ?_⟩
      obtain ⟨j, rfl⟩ := Int.eq_ofNat_of_zero_le e0
      have hj : j < ls.length := by omega
      have h1' := S5.keep _ _ nq h1
      have h2' := S5.keep _ _ nr h2
      refine ⟨q, _, (j : Int), j, ls[j], rfl, rfl, h1', by omega, by omega, ?_, ?_, ?_⟩
      · unfold seqIndex?
        rw [if_neg (show ¬ ((j : Int) < 0) by omega)]
        simp
        omega
      · rw [List.getElem?_eq_getElem hj] <;> rfl
      · have S6 : Stp p H (upd H5 q (.lst (ls.eraseIdx j))) := (S4.trans S5).mut hH hq
        refine ⟨r, _, _, rfl, rfl, by rw [upd_ne (Ne.symm qr)]; exact h2', by rw [h4]; exact small1000 (by omega), S6.mut hH rH, ls.eraseIdx j, ws ++ [ls[j]], _, ?_, ?_, ?_, ?_, ?_, rfl⟩
        · rw [upd_ne qr, upd_same]
        · rw [upd_same]
        · rw [List.length_eraseIdx, if_pos hj]
          omega
        · rw [List.length_append, h4] <;> rfl
        · have p1 : (ls[j] :: ls.eraseIdx j).Perm ls := erase_perm hj
          refine h5.trans ?_
          rw [← List.append_assoc]
          refine (List.Perm.append_right ws p1.symm).trans ?_
          rw [List.cons_append]
          exact (List.perm_append_singleton _ _).symm
    · rintro σ H' ⟨S4, ls, ws, u, h1, h2, h3, h4, h5, rfl⟩
      have l0 : ls = [] := List.eq_nil_of_length_eq_zero (by omega)
      rw [l0, List.nil_append] at h5
      exact ⟨_, rfl, k r ws H' S4 h2 h5⟩
end
end Law

namespace Law
open PySem L2
theorem lcm_dvd_fold : ∀ (fs : List Fr) (m n : Nat), n ∣ m → n ∣ fs.foldl (fun m f => Nat.lcm m f.2.natAbs) m
  | [], _, _, h => h
  | f :: fs, m, n, h => lcm_dvd_fold fs _ n (Nat.dvd_trans h (Nat.dvd_lcm_left _ _))
theorem dvd_fold : ∀ (fs : List Fr) (m : Nat) (f : Fr), f ∈ fs → f.2.natAbs ∣ fs.foldl (fun m f => Nat.lcm m f.2.natAbs) m
  | [], _, _, h => nomatch h
  | g :: fs, m, f, h => by
    rcases List.mem_cons.mp h with rfl | h
    · exact lcm_dvd_fold fs _ _ (Nat.dvd_lcm_right _ _)
    · exact dvd_fold fs _ f h
theorem dvd_lcmAll {fs : List Fr} {f : Fr} (h : f ∈ fs) : f.2.natAbs ∣ lcmAll fs := dvd_fold fs 1 f h
theorem sum_scale (S : Int) (g : Int → Int) (L : Int) : ∀ ws : List Int, (∀ x ∈ ws, S * g x = x * L) → S * (ws.map g).sum = ws.sum * L
  | [], _ => by simp
  | x :: ws, h => by
    rw [List.map_cons, List.sum_cons, List.sum_cons, Int.mul_add, Int.add_mul, h x List.mem_cons_self, sum_scale S g L ws fun y hy => h y (List.mem_cons_of_mem _ hy)]
theorem lowP_cross {t b : Int} (hb : 0 < b) : b * (lowP t b).1 = t * (lowP t b).2 := by
  have gp := gI_pos (t := t) hb
  have d1 : gI t b ∣ t := by
    unfold gI
    exact Int.ofNat_dvd_left.mpr (Nat.gcd_dvd_left _ _)
  have d2 : gI t b ∣ b := by
    unfold gI
    exact Int.ofNat_dvd_left.mpr (Nat.gcd_dvd_right _ _)
  show b * (t / gI t b) = t * (b / gI t b)
  rw [← Int.mul_ediv_assoc _ d1, ← Int.mul_ediv_assoc _ d2, Int.mul_comm]
theorem lowP_pos {t b : Int} (ht : 0 < t) (hb : 0 < b) : 0 < (lowP t b).1 ∧ 0 < (lowP t b).2 := by
  have gp := gI_pos (t := t) hb
  have d1 : gI t b ∣ t := by
    unfold gI
    exact Int.ofNat_dvd_left.mpr (Nat.gcd_dvd_left _ _)
  have d2 : gI t b ∣ b := by
    unfold gI
    exact Int.ofNat_dvd_left.mpr (Nat.gcd_dvd_right _ _)
  exact ⟨Int.ediv_pos_of_pos_of_dvd ht (Int.le_of_lt gp) d1, Int.ediv_pos_of_pos_of_dvd hb (Int.le_of_lt gp) d2⟩
theorem lowP_le {t b : Int} (ht : 0 ≤ t) (hb : 0 < b) : (lowP t b).1 ≤ t ∧ (lowP t b).2 ≤ b := ⟨Int.ediv_le_self _ ht, Int.ediv_le_self _ (Int.le_of_lt hb)⟩
theorem lowP_cop {t b : Int} (ht : 0 ≤ t) (hb : 0 < b) : Nat.gcd (lowP t b).1.natAbs (lowP t b).2.natAbs = 1 := by
  obtain ⟨a, rfl⟩ := Int.eq_ofNat_of_zero_le ht
  obtain ⟨c, rfl⟩ := Int.eq_ofNat_of_zero_le (Int.le_of_lt hb)
  have z : 0 < Nat.gcd a c := Nat.gcd_pos_of_pos_right _ (by omega)
  have e : ∀ x : Nat, ((x : Int) / gI (a : Int) (c : Int)).natAbs = x / Nat.gcd a c := fun x => by
    unfold gI
    rw [Int.natAbs_natCast, Int.natAbs_natCast, ← Int.natCast_ediv, Int.natAbs_natCast]
  show Nat.gcd ((a : Int) / gI (a : Int) (c : Int)).natAbs ((c : Int) / gI (a : Int) (c : Int)).natAbs = 1
  rw [e, e]
  exact Nat.coprime_div_gcd_div_gcd z
theorem sum_pos : ∀ ws : List Int, ws ≠ [] → (∀ x ∈ ws, 0 < x) → 0 < ws.sum ∧ ∀ x ∈ ws, x ≤ ws.sum
  | [], h, _ => absurd rfl h
  | [x], _, h => by
    have := h x List.mem_cons_self
    simp
    omega
  | x :: y :: ws, _, h => by
    obtain ⟨h1, h2⟩ := sum_pos (y :: ws) (by simp) fun z hz => h z (List.mem_cons_of_mem _ hz)
    have h3 := h x List.mem_cons_self
    rw [List.sum_cons]
    refine ⟨by omega, fun z hz => ?_⟩
    rcases List.mem_cons.mp hz with rfl | hz
    · omega
    · have := h2 z hz
      omega
theorem sum_le (B : Int) : ∀ ws : List Int, (∀ x ∈ ws, x ≤ B) → ws.sum ≤ (ws.length : Int) * B
  | [], _ => by simp
  | x :: ws, h => by
    have h1 := sum_le B ws fun z hz => h z (List.mem_cons_of_mem _ hz)
    have h2 := h x List.mem_cons_self
    rw [List.sum_cons, List.length_cons, Int.natCast_add, Int.add_mul]
    simp
    omega
/-- a weight's share: in lowest terms, of moderate size -/
theorem share_ok {t b : Int} (ht : 0 < t) (h1 : t ≤ b) (h2 : b < 2 ^ 40) : FrOk (lowP t b) ∧ 0 < (lowP t b).1 ∧ Nat.gcd (lowP t b).1.natAbs (lowP t b).2.natAbs = 1 := by
  have hb : 0 < b := by omega
  obtain ⟨p1, p2⟩ := lowP_pos ht hb
  obtain ⟨l1, l2⟩ := lowP_le (Int.le_of_lt ht) hb
  refine ⟨⟨p2, ?_, ?_⟩, p1, lowP_cop (Int.le_of_lt ht) hb⟩ <;> omega
theorem one_of {ws : List Int} (hn : ws ≠ []) (h : ∀ x ∈ ws, 0 < x) : OneOk (ws.map fun x => lowP x ws.sum) := by
  obtain ⟨s0, s1⟩ := sum_pos ws hn h
  unfold OneOk topsOf
  rw [List.map_map]
  have q := sum_scale ws.sum ((fun f : Fr => f.1 * (((lcmAll (ws.map fun x => lowP x ws.sum) : Nat) : Int) / f.2)) ∘ fun x => lowP x ws.sum) ((lcmAll (ws.map fun x => lowP x ws.sum) : Nat) : Int) ws fun x hx => by
    obtain ⟨p1, p2⟩ := lowP_pos (h x hx) s0
    have d : (lowP x ws.sum).2 ∣ ((lcmAll (ws.map fun x => lowP x ws.sum) : Nat) : Int) := by
      have d0 := dvd_lcmAll (List.mem_map.mpr ⟨x, hx, rfl⟩ : lowP x ws.sum ∈ ws.map fun x => lowP x ws.sum)
      exact Int.ofNat_dvd_right.mpr d0
    show ws.sum * ((lowP x ws.sum).1 * (_ / (lowP x ws.sum).2)) = _
    rw [← Int.mul_assoc, lowP_cross s0, Int.mul_assoc, Int.mul_ediv_cancel' d]
  exact Int.eq_of_mul_eq_mul_left (by omega) q
end Law
namespace Law
open PySem L2
/-! ### the frame -/
theorem f01 : ¬ ((Sum.inr ("wide" : Str) : Key) = Sum.inr ("high" : Str)) := sne (by decide +kernel)
theorem f02 : ¬ ((Sum.inr ("wide" : Str) : Key) = Sum.inr ("heights" : Str)) := sne (by decide +kernel)
theorem f12 : ¬ ((Sum.inr ("high" : Str) : Key) = Sum.inr ("heights" : Str)) := sne (by decide +kernel)
def frK (w h : Nat) (L : Addr) : List (Key × V) := [(Sum.inr ("wide" : Str), .int (w : Int)), (Sum.inr ("high" : Str), .int (h : Int)), (Sum.inr ("heights" : Str), .ref L)]
theorem fr_keys (w h : Nat) (L : Addr) : ((frK w h L).map (·.1)).Nodup := by
  show ([Sum.inr ("wide" : Str), Sum.inr ("high" : Str), Sum.inr ("heights" : Str)] : List Key).Nodup
  decide +kernel
theorem merge_fr (w h : Nat) (L : Addr) : mergeK [] (frK w h L) = frK w h L := merge_app _ [] (fr_keys w h L)
def gridP (w h : Nat) : List (List Int) := (upto w).flatMap fun a => (upto h).map fun b => [a, b]
structure FrmOk (w h : Nat) (cs : List (List Int)) : Prop where
  w1 : 1 ≤ w
  h1 : 1 ≤ h
  wh : w * h ≤ 12
  pm : (gridP w h).Perm cs
def FrmAt (H : Hp) (q : Addr) (w h : Nat) (cs : List (List Int)) : Prop := ∃ L vs, H q = some (.dK (frK w h L)) ∧ H L = some (.lst vs) ∧ AllIn (RowE H) vs cs
theorem fr_ne {H : Hp} {p q : Addr} {w h : Nat} {L : Addr} (hp : HandAt H p) (hq : H q = some (.dK (frK w h L))) : q ≠ p := by
  obtain ⟨ga, ca, small, s, t, hp, _⟩ := hp
  refine ne_of hq hp ?_
  intro z
  unfold frK hdK at z
  injection z with z
  have := congrArg List.length z
  cases this
theorem lst_ne {H : Hp} {p q : Addr} {vs : List V} (hp : HandAt H p) (hq : H q = some (.lst vs)) : q ≠ p := by
  obtain ⟨ga, ca, small, s, t, hp, _⟩ := hp
  exact ne_of hq hp (by intro z; cases z)
theorem tup_ne {H : Hp} {p q : Addr} {vs : List V} (hp : HandAt H p) (hq : H q = some (.tup vs)) : q ≠ p := by
  obtain ⟨ga, ca, small, s, t, hp, _⟩ := hp
  exact ne_of hq hp (by intro z; cases z)
theorem RowE.stp {H H' : Hp} {p : Addr} {v : V} {c : List Int} (hp : HandAt H p) (S : Stp p H H') (h : RowE H v c) : RowE H' v c := by
  obtain ⟨a, e, h⟩ := h
  exact ⟨a, e, S.keep _ _ (tup_ne hp h) h⟩
theorem RowE.updN {H : Hp} {v : V} {c : List Int} {D : Addr} {acc : List V} {o : HO} (hD : H D = some (.lst acc)) (h : RowE H v c) : RowE (upd H D o) v c := by
  obtain ⟨a, e, h⟩ := h
  refine ⟨a, e, ?_⟩
  rw [upd_ne (ne_of h hD (by intro z; cases z))]
  exact h
theorem RowAt.stp {K : PySem.W.Frag} {H H' : Hp} {p : Addr} {v : V} {c : List Int} (hp : HandAt H p) (S : Stp p H H') (h : RowAt K H v c) : RowAt K H' v c := by
  obtain ⟨a, e, h⟩ := h
  exact ⟨a, e, S.sqT hp h⟩
theorem FrmAt.stp {H H' : Hp} {p q : Addr} {w h : Nat} {cs : List (List Int)} (hp : HandAt H p) (S : Stp p H H') (f : FrmAt H q w h cs) : FrmAt H' q w h cs := by
  obtain ⟨L, vs, h1, h2, h3⟩ := f
  exact ⟨L, vs, S.keep _ _ (fr_ne hp h1) h1, S.keep _ _ (lst_ne hp h2) h2, h3.mono fun _ _ z => RowE.stp hp S z⟩
theorem FrmAt.same {H H' : Hp} {q : Addr} {w h : Nat} {cs : List (List Int)} (s : Same H H') (f : FrmAt H q w h cs) : FrmAt H' q w h cs := by
  obtain ⟨L, vs, h1, h2, h3⟩ := f
  exact ⟨L, vs, s _ _ h1, s _ _ h2, h3.mono fun _ _ z => RowE.same s z⟩
theorem gt_wide {H : Hp} {q L : Addr} {w h : Nat} (hq : H q = some (.dK (frK w h L))) : DGet H q (.str "wide") (some (.int (w : Int))) := by
  have := DGet.k (k := Sum.inr ("wide" : Str)) hq
  rw [show valV (frK w h L) (Sum.inr ("wide" : Str)) = some (.int (w : Int)) from valV_pos rfl] at this
  exact this
theorem gt_high {H : Hp} {q L : Addr} {w h : Nat} (hq : H q = some (.dK (frK w h L))) : DGet H q (.str "high") (some (.int (h : Int))) := by
  have := DGet.k (k := Sum.inr ("high" : Str)) hq
  rw [show valV (frK w h L) (Sum.inr ("high" : Str)) = some (.int (h : Int)) from (valV_neg f01).trans (valV_pos rfl)] at this
  exact this
theorem gt_heights {H : Hp} {q L : Addr} {w h : Nat} (hq : H q = some (.dK (frK w h L))) : DGet H q (.str "heights") (some (.ref L)) := by
  have := DGet.k (k := Sum.inr ("heights" : Str)) hq
  rw [show valV (frK w h L) (Sum.inr ("heights" : Str)) = some (.ref L) from (valV_neg f02).trans ((valV_neg f12).trans (valV_pos rfl))] at this
  exact this
theorem grid_mem {w h : Nat} {c : List Int} : c ∈ gridP w h ↔ ∃ a b : Int, c = [a, b] ∧ 0 ≤ a ∧ a < (w : Int) ∧ 0 ≤ b ∧ b < (h : Int) := by
  unfold gridP
  rw [List.mem_flatMap]
  constructor
  · rintro ⟨a, ha, hb⟩
    obtain ⟨b, hb0, rfl⟩ := List.mem_map.mp hb
    have := mem_upto.mp ha
    have := mem_upto.mp hb0
    exact ⟨a, b, rfl, by omega, by omega, by omega, by omega⟩
  · rintro ⟨a, b, rfl, a0, a1, b0, b1⟩
    exact ⟨a, mem_upto.mpr ⟨a0, a1⟩, List.mem_map.mpr ⟨b, mem_upto.mpr ⟨b0, b1⟩, rfl⟩⟩
theorem grid_nd (w h : Nat) : (gridP w h).Nodup := by
  unfold gridP
  have up : ∀ n, (upto n).Nodup := fun n => (upto_asc n).imp fun {a b} z => by omega
  refine List.pairwise_flatMap.mpr ⟨fun a _ => ?_, ?_⟩
  · refine List.Pairwise.map _ (fun x y n z => ?_) (up h)
    injection z with _ z
    injection z with z _
    exact n z
  · refine (up w).imp fun {a b} n => ?_
    intro c h1 d h2 e
    obtain ⟨x, _, rfl⟩ := List.mem_map.mp h1
    obtain ⟨y, _, rfl⟩ := List.mem_map.mp h2
    injection e with e _
    exact n e
theorem grid_len (w h : Nat) : (gridP w h).length = w * h := by
  unfold gridP
  rw [List.length_flatMap, List.map_congr_left (g := fun _ => h) fun a _ => by rw [List.length_map, upto_len], List.map_const', List.sum_replicate_nat, upto_len]
theorem FrmOk.len {w h : Nat} {cs : List (List Int)} (f : FrmOk w h cs) : cs.length = w * h := by rw [← f.pm.length_eq, grid_len]
theorem FrmOk.nd {w h : Nat} {cs : List (List Int)} (f : FrmOk w h cs) : cs.Nodup := f.pm.nodup_iff.mp (grid_nd w h)
theorem FrmOk.mem {w h : Nat} {cs : List (List Int)} (f : FrmOk w h cs) {c : List Int} (hc : c ∈ cs) : ∃ a b : Int, c = [a, b] ∧ 0 ≤ a ∧ a < (w : Int) ∧ 0 ≤ b ∧ b < (h : Int) := grid_mem.mp (f.pm.mem_iff.mpr hc)
theorem FrmOk.many {w h : Nat} {cs : List (List Int)} (f : FrmOk w h cs) : 1 ≤ cs.length ∧ cs.length ≤ 12 := by
  rw [f.len]
  have := Nat.mul_le_mul f.w1 f.h1
  have := f.wh
  omega
/-- lists and what they stand for, put in another order -/
theorem AllIn.perm {α : Type} {R : V → α → Prop} {vs us : List V} {l : List α} (h : AllIn R vs l) (p : us.Perm vs) : ∃ m, l.Perm m ∧ AllIn R us m := by
  have e : vs = (vs.zip l).map Prod.fst := by
    rw [List.map_fst_zip]
    exact Nat.le_of_eq h.1
  have e2 : l = (vs.zip l).map Prod.snd := by
    rw [List.map_snd_zip]
    exact Nat.le_of_eq h.1.symm
  obtain ⟨m, e3, pm⟩ := SW.perm_back (f := Prod.fst) (a := us) (b := vs) p (vs.zip l) e
  refine ⟨m.map Prod.snd, ?_, ?_, fun i v hv => ?_⟩
  · have := (pm.map Prod.snd).symm
    rw [← e2] at this
    exact this
  · rw [e3, List.length_map, List.length_map]
  · rw [e3, List.getElem?_map] at hv
    obtain ⟨z, hz, rfl⟩ := Option.map_eq_some_iff.mp hv
    refine ⟨z.2, by rw [List.getElem?_map, hz] <;> rfl, ?_⟩
    obtain ⟨j, hj⟩ := List.getElem?_of_mem (pm.mem_iff.mp (List.mem_of_getElem? hz))
    rw [List.getElem?_zip_eq_some] at hj
    obtain ⟨x, hx, r⟩ := h.2 j _ hj.1
    rw [hj.2] at hx
    cases hx
    exact r
theorem ints_ix {xs : List Int} {s z : Int} (hs : 0 ≤ s) (e : xs[s.toNat]? = some z) : atI (xs.map V.int) s = some (.int z) := by
  obtain ⟨j, rfl⟩ := Int.eq_ofNat_of_zero_le hs
  rw [Int.toNat_natCast] at e
  exact atI_nat (by rw [List.getElem?_map, e] <;> rfl)
end Law
namespace Law
open PySem L2
section
variable {P : Program} {w : World} {K : PySem.W.Frag} {mg : Str → Option Value} {base : Heap}
def spLMoves (K : PySem.W.Frag) : Sp := fun vs H Q _ => ∃ (p m : Addr) (n : Nat) (mws : List V) (Ls : List (List Int)), vs = [.ref p, .ref m] ∧ HandAt H p ∧ SqL K H m mws ∧ AllIn (RowAt K H) mws Ls ∧ LsOk n Ls ∧ 1 ≤ Ls.length ∧ Ls.length ≤ 24 ∧ 1 ≤ n ∧ n ≤ 12 ∧
  ∀ (a : Addr) (ms : List Mv) (H' : Hp), Stp p H H' → MvsAt K H' a ms → SysOk n ms → LsOf ms = Ls → Q (.ref a) H'
abbrev nLawMoves : List Str := ["_law_hand_here", "_law_maps_here", "_law_weights_here", "_law_at"]
theorem scLawMoves : FnScope nLawMoves ["_law_hand_here", "_law_maps_here"] (defScope s_law_moves) := ⟨rfl, rfl, rfl, by decide +kernel, rfl, by decide +kernel, by decide +kernel⟩
theorem ok_moves {f : Addr} {fd : FuncData} {fcWeights : Addr} {fdcWeights : FuncData} {fcLow : Addr} {fdcLow : FuncData} (F : Fun K "_law_moves" "_law_moves" s_law_moves f fd) (T : NmA mg) (cWeights : Cl P w K mg base CX0 3 "_law_weights" fcWeights fdcWeights ["_law_hand_here", "_law_many"] spWeights) (cLow : Cl P w K mg base CX0 1 "_law_low" fcLow fdcLow ["_law_top", "_law_bottom"] spLowS) : FnOk P w K mg base CX0 4 f fd ["_law_hand_here", "_law_maps_here"] (spLMoves K) := by
  refine F.ok scLawMoves (fun vs H Q E h => ?_) (fun cdv A' outer s H vs Q E hr h => ?_)
  · obtain ⟨p, m, n, mws, Ls, rfl, _⟩ := h
    rfl
  · obtain ⟨p, m, n, mws, Ls, rfl, hH, hM, hA, lsok, l1, l24, n1, n12, k⟩ := h
    have hu := hu_of hr
    refine ⟨_, pss_cons (ps_set (i := 2) scLawMoves.nd rfl (Or.inr rfl) (cWeights.call (hr.mono (by decide)) (pa_cons (pv 0) (pa_cons (pe_callB call_len_seq (by rfl) T.len PySem.boot_len (pa_cons (pv 1) pa_nil)) pa_nil))))
      (pss_one (ps_ret (pe_callTy call_tuple_of (by rfl) T.tuple (by decide +kernel) (pa_cons (pe_lc (own := [("_law_at", 3)]) (g := (gName 3)) (tt := tYes) rfl scLawMoves.nd  (pi_range1 (by rfl) T.range (pa_cons (pe_callB call_len_seq (by rfl) T.len PySem.boot_len (pa_cons (pv 1) pa_nil)) pa_nil)) (blkOk_by (own := [("_law_at", 3)]) (N := nLawMoves) (sc := defScope s_law_moves) (by decide +kernel)) (fun _ _ _ _ _ => (pg_name (i := 3) scLawMoves.nd rfl (Or.inl rfl))) (fun _ _ _ _ _ => pts_nil) (fun _ _ _ _ _ => (pe_tup (pa_cons (cLow.call (hr.mono (by decide)) (pa_cons (pe_ix (r := rIxL K) (show IxR _ (rIxL K) from ix_list) (pv 2) (pv 3) (fun _ _ => rfl)) (pa_cons (pe_callB (r := rSum K) (show CallR _ (.builtin "sum") (rSum K) from cr_sum rfl) (by rfl) T.sum (by decide +kernel) (pa_cons (pv 2) pa_nil)) pa_nil))) (pa_cons (pe_ix (r := rIxL K) (show IxR _ (rIxL K) from ix_list) (pv 1) (pv 3) (fun _ _ => rfl)) pa_nil))))) pa_nil)))), ?_⟩
    have ml := hA.1
    refine ⟨_, rfl, _, rfl, m, _, rfl, .inl hM, p, mws.length, rfl, hH, by omega, by omega, fun l ws H1 S1 h1 wl wb => ?_⟩
    have hM1 := S1.sqL hH hM
    have hA1 : AllIn (RowAt K H1) mws Ls := hA.mono fun _ _ z => RowAt.stp hH S1 z
    have wn : ws ≠ [] := fun z => by rw [z] at wl; have wl : 0 = mws.length := wl; omega
    have w0 : ∀ x ∈ ws, 0 < x := fun x hx => by have := wb x hx; omega
    obtain ⟨s0, sx⟩ := sum_pos ws wn w0
    have sl := sum_le 9 ws fun x hx => (wb x hx).2
    have shr : ∀ x ∈ ws, FrOk (lowP x ws.sum) ∧ 0 < (lowP x ws.sum).1 ∧ Nat.gcd (lowP x ws.sum).1.natAbs (lowP x ws.sum).2.natAbs = 1 := fun x hx => share_ok (w0 x hx) (sx x hx) (by omega)
    refine ⟨_, rfl, m, _, rfl, .inl hM1, _, rfl, by omega, by omega, fun D hD => ?_⟩
    rw [Int.toNat_natCast]
    refine lc_range (lo := 0) (n := mws.length) (fun i H' => Same H1 H' ∧ ∃ acc, H' D = some (.lst acc) ∧ MvsIn K H' acc (((ws.zip Ls).take i).map fun z => (lowP z.1 ws.sum, z.2))) ⟨Same.new hD, [], upd_same, rfl, fun i v hv => by simp at hv⟩ (fun i H2 hi g => ?_) fun H2 g => ?_
    · obtain ⟨s2, acc, e2, f2⟩ := g
      have iw : i < ws.length := by omega
      have im : i < mws.length := hi
      have iL : i < Ls.length := by omega
      have al : acc.length = i := by
        rw [f2.1, List.length_map, List.length_take, List.length_zip]
        omega
      have vm : ws[i] ∈ ws := List.getElem_mem iw
      obtain ⟨xs, hxs, la, hle, hla⟩ := hA1.2 i mws[i] (List.getElem?_eq_getElem im)
      refine ⟨rfl, _, rfl, _, rfl, l, _, _, _, rfl, rfl, SqL.of (s2 _ _ h1), ints_ix (by omega) (by rw [show ((0 : Int) + (i : Int)).toNat = i by omega]; exact List.getElem?_eq_getElem iw), _, rfl, l, ws, rfl, SqL.of (s2 _ _ h1), ws[i], ws.sum, rfl, Int.le_of_lt (w0 _ vm), s0, by omega, fun t ht => ?_⟩
      refine new_step ht fun H3 s3 e3 => ?_
      have s13 := s2.trans s3
      refine ⟨_, rfl, _, rfl, m, mws, _, mws[i], rfl, rfl, s13.sqL hM1, ?_, by show 2 ≤ sizeLine; decide, fun t2 ht2 => ?_⟩
      · rw [show ((0 : Int) + (i : Int)) = (i : Int) by omega]
        exact atI_nat (List.getElem?_eq_getElem im)
      refine new_step ht2 fun H4 s4 e4 => ?_
      have s14 := s13.trans s4
      have e2' := (s3.trans s4) _ _ e2
      refine ⟨acc, e2', by rw [sizeLine_eq]; omega, s14.mut hD, _, upd_same, ?_⟩
      have zi : (ws.zip Ls)[i]? = some (ws[i], xs) := List.getElem?_zip_eq_some.mpr ⟨List.getElem?_eq_getElem iw, hxs⟩
      rw [List.take_add_one, zi, List.map_append]
      rw [hle] at e4
      refine AllIn.snoc (R := MvAt K _) (⟨f2.1, fun j u hu => ?_⟩ : AllIn (MvAt K _) acc _) ⟨t2, t, la, rfl, sqT_updL e2' (SqT.of e4), sqT_updL e2' (s4.sqT (SqT.of e3)), sqT_updL e2' (s14.sqT hla)⟩
      obtain ⟨mv, g1, a, s, b, g2, g3, g4, g5⟩ := f2.2 j u hu
      have s24 := s3.trans s4
      exact ⟨mv, g1, a, s, b, g2, sqT_updL e2' (s24.sqT g3), sqT_updL e2' (s24.sqT g4), sqT_updL e2' (s24.sqT g5)⟩
    · obtain ⟨s2, acc, e2, f2⟩ := g
      have zl : (ws.zip Ls).length = mws.length := by rw [List.length_zip]; omega
      rw [List.take_of_length_le (Nat.le_of_eq zl)] at f2
      refine ⟨D, _, rfl, .inl ⟨SqL.of e2, fun T hT => ?_⟩⟩
      refine new_step hT fun H6 s6 e6 => ?_
      have fst : (ws.zip Ls).map Prod.fst = ws := List.map_fst_zip (by omega)
      have snd : (ws.zip Ls).map Prod.snd = Ls := List.map_snd_zip (by omega)
      refine k T _ H6 (S1.post (s2.trans s6)) ⟨acc, SqT.of e6, f2.1, fun j v hv => ?_⟩ ⟨n1, n12, by rw [List.length_map]; omega, by rw [List.length_map]; omega, fun mv hmv => ?_, ?_⟩ ?_
      · obtain ⟨mv, g1, a, s, b, g2, g3, g4, g5⟩ := f2.2 j v hv
        exact ⟨mv, g1, a, s, b, g2, s6.sqT g3, s6.sqT g4, s6.sqT g5⟩
      · obtain ⟨z, hz, rfl⟩ := List.mem_map.mp hmv
        have h1 := List.of_mem_zip (a := z.1) (b := z.2) hz
        obtain ⟨a1, a2, a3⟩ := shr z.1 h1.1
        obtain ⟨b1, b2⟩ := lsok z.2 h1.2
        exact ⟨a1, a2, a3, b1, b2⟩
      · rw [List.map_map]
        have : (ws.zip Ls).map (Prod.fst ∘ fun z : Int × List Int => (lowP z.1 ws.sum, z.2)) = ws.map fun x => lowP x ws.sum := by
          rw [show (Prod.fst ∘ fun z : Int × List Int => (lowP z.1 ws.sum, z.2)) = (fun x => lowP x ws.sum) ∘ Prod.fst from rfl, ← List.map_map, fst]
        show OneOk ((ws.zip Ls).map (Prod.fst ∘ fun z : Int × List Int => (lowP z.1 ws.sum, z.2)))
        rw [this]
        exact one_of wn w0
      · unfold LsOf
        rw [List.map_map]
        exact snd
end
end Law

namespace Law
open PySem L2
theorem Stp.free {p W : Addr} {H H' : Hp} (S : Stp p H H') (h : H' W = none) : H W = none := by
  by_cases e : W = p
  · obtain ⟨ga, ca, small, s, t, hp, _⟩ := S.hand
    rw [e, hp] at h
    cases h
  · cases q : H W with
    | none => rfl
    | some o =>
      rw [S.keep _ _ e q] at h
      cases h
/-- the ways of an expression joined by what they leave -/
def tJoin (t : TE) : TE := fun σ H Q => ∃ R : V → Hp → Prop, (∀ Q' : VK, (∀ x H1, R x H1 → Q' x H1) → t σ H Q') ∧ ∀ x H1, R x H1 → Q x H1
theorem pe_join {X : Cx} {e : Expr} {t : TE} (h : PE X e t) : PE X e (tJoin t) := ⟨fun pins s σ H Q I ⟨_, h1, h2⟩ => h.run pins s σ H Q I (h1 Q h2)⟩
def leH (a b : List Int) : Bool := decide (a.getD 0 0 ≤ b.getD 0 0) && decide (a.getD 1 0 ≤ b.getD 1 0)
def ordT (cs : List (List Int)) (s : Nat) (t : Int) : Bool := !((s : Int) == t) && leH (cs.getD s []) (cs.getD t.toNat [])
def ordRow (cs : List (List Int)) (s j : Nat) : List (List Int) := ((upto j).filter (ordT cs s)).map fun t => [(s : Int), t]
def ordI (cs : List (List Int)) (i : Nat) : List (List Int) := (List.range i).flatMap fun s => ordRow cs s cs.length
theorem ordRow_snoc (cs : List (List Int)) (s j : Nat) : ordRow cs s (j + 1) = if ordT cs s (j : Int) = true then ordRow cs s j ++ [[(s : Int), (j : Int)]] else ordRow cs s j := by
  unfold ordRow
  rw [upto_snoc, List.filter_append, List.map_append]
  by_cases h : ordT cs s (j : Int) = true
  · rw [if_pos h, List.filter_cons_of_pos h] <;> rfl
  · rw [if_neg h, List.filter_cons_of_neg h, List.filter_nil, List.map_nil, List.append_nil]
theorem ordI_snoc (cs : List (List Int)) (i : Nat) : ordI cs (i + 1) = ordI cs i ++ ordRow cs i cs.length := by
  unfold ordI
  rw [List.range_succ, List.flatMap_append, List.flatMap_singleton]
theorem ordRow_len (cs : List (List Int)) (s j : Nat) : (ordRow cs s j).length ≤ j := by
  unfold ordRow
  rw [List.length_map]
  exact Nat.le_trans (List.length_filter_le _ _) (Nat.le_of_eq (upto_len j))
theorem ordI_len (cs : List (List Int)) : ∀ i, (ordI cs i).length ≤ i * cs.length
  | 0 => Nat.zero_le _
  | i + 1 => by
    rw [ordI_snoc, List.length_append, Nat.add_mul, Nat.one_mul]
    exact Nat.add_le_add (ordI_len cs i) (ordRow_len cs i _)
theorem grid_snoc (i h : Nat) : gridP (i + 1) h = gridP i h ++ (upto h).map fun b => [(i : Int), b] := by
  unfold gridP
  rw [upto_snoc, List.flatMap_append, List.flatMap_singleton]
section
variable {P : Program} {w : World} {K : PySem.W.Frag} {mg : Str → Option Value} {base : Heap}
def spOrdOf : Sp := fun vs H Q _ => ∃ (q : Addr) (w h : Nat) (cs : List (List Int)), vs = [.ref q] ∧ FrmAt H q w h cs ∧ FrmOk w h cs ∧
  ∀ (D : Addr) (acc : List V) (H' : Hp), Same H H' → H' D = some (.lst acc) → AllIn (RowE H') acc (ordI cs cs.length) → Q (.ref D) H'
abbrev nLawOrderOf : List Str := ["_law_frame_here", "_law_heights", "_law_found", "_law_s", "_law_t"]
theorem scLawOrderOf : FnScope nLawOrderOf ["_law_frame_here"] (defScope s_law_order_of) := ⟨rfl, rfl, rfl, by decide +kernel, rfl, by decide +kernel, by decide +kernel⟩
theorem ok_order_of {f : Addr} {fd : FuncData} (F : Fun K "_law_order_of" "_law_order_of" s_law_order_of f fd) (T : NmA mg) : FnOk P w K mg base CX0 1 f fd ["_law_frame_here"] spOrdOf := by
  refine F.ok scLawOrderOf (fun vs H Q E h => ?_) (fun cdv A' outer s H vs Q E hr h => ?_)
  · obtain ⟨q, w, h, cs, rfl, _⟩ := h
    rfl
  · obtain ⟨q, w, h, cs, rfl, hF, ok, k⟩ := h
    have hu := hu_of hr
    refine ⟨_, pss_cons (ps_par (i := 1) (j := 2) (by rfl) scLawOrderOf.nd rfl rfl (by decide) rfl rfl (pa_cons (pe_dget hu (pv 0) pe_str (fun _ _ => rfl)) (pa_cons (pe_lst pa_nil) pa_nil)) (by rfl))
      (pss_cons (ps_for PassesOwn.never rfl (pi_range1 (by rfl) T.range (pa_cons (pe_callB call_len_seq (by rfl) T.len PySem.boot_len (pa_cons (pv 1) pa_nil)) pa_nil)) (pg_name (i := 3) scLawOrderOf.nd rfl (Or.inl rfl))
        (pss_one (ps_for PassesOwn.never rfl (pi_range1 (by rfl) T.range (pa_cons (pe_callB call_len_seq (by rfl) T.len PySem.boot_len (pa_cons (pv 1) pa_nil)) pa_nil)) (pg_name (i := 4) scLawOrderOf.nd rfl (Or.inl rfl))
          (pss_one (ps_if (PW.pt (pw_and (pt_cmpR op_ne (pv 3) (pv 4) (nomark _)) (pw_and (pt_cmpR op_le (pe_ix ix_tup (pe_ix ix_list (pv 1) (pv 3) (fun _ _ => rfl)) pe_int (fun _ _ => rfl)) (pe_ix ix_tup (pe_ix ix_list (pv 1) (pv 4) (fun _ _ => rfl)) pe_int (fun _ _ => rfl)) (nomark _)) (pw_and1 (pt_cmpR op_le (pe_ix ix_tup (pe_ix ix_list (pv 1) (pv 3) (fun _ _ => rfl)) pe_int (fun _ _ => rfl)) (pe_ix ix_tup (pe_ix ix_list (pv 1) (pv 4) (fun _ _ => rfl)) pe_int (fun _ _ => rfl)) (nomark _))))))
            (pss_one (ps_expr (pe_bm PySem.F.plainAttrs_list PySem.F.slot_list_append PySem.F.type_list_append mt_append (pv 2) (pa_cons (pe_tup (pa_cons (pv 3) (pa_cons (pv 4) pa_nil))) pa_nil)))) pss_nil)))))
      (pss_one (ps_ret (pv 2)))), ?_⟩
    obtain ⟨L, vs, hq, hL, hA⟩ := hF
    have vl := hA.1
    obtain ⟨m1, m12⟩ := ok.many
    have hat : ∀ i : Nat, i < cs.length → ∃ (a : Addr) (x y : Int), atI vs (i : Int) = some (.ref a) ∧ H a = some (.tup [.int x, .int y]) ∧ cs.getD i [] = [x, y] := fun i hi => by
      have hv : vs[i]? = some vs[i] := List.getElem?_eq_getElem (by omega)
      obtain ⟨c, hc, a, e, ha⟩ := hA.2 i _ hv
      obtain ⟨x, y, rfl, _⟩ := ok.mem (List.mem_of_getElem? hc)
      exact ⟨a, x, y, by rw [← e]; exact atI_nat hv, ha, by rw [List.getD_eq_getElem?_getD, hc] <;> rfl⟩
    refine ⟨_, rfl, q, _, rfl, gt_heights hq, by show 0 ≤ sizeLine; decide, fun R hR => ⟨_, _, rfl, ?_⟩⟩
    refine new_step hR fun H1 s1 e1 => ?_
    refine ⟨_, rfl, L, _, rfl, .inl (SqL.of (s1 _ _ hL)), _, rfl, by omega, by omega, ?_⟩
    rw [Int.toNat_natCast]
    refine for_range (lo := 0) (n := vs.length) (fun i σ H' => (Same H H' ∧ ∃ acc, H' R = some (.lst acc) ∧ AllIn (RowE H') acc (ordI cs i)) ∧ ∃ u3 u4 : Option V, σ = [some (.ref q), some (.ref L), some (.ref R), u3, u4]) ⟨⟨s1, [], e1, AllIn.nil⟩, none, none, rfl⟩ ?_ ?_
    · rintro i σ H2 hi ⟨⟨s2, acc, e2, A2⟩, u3, u4, rfl⟩
      rw [Int.zero_add]
      refine ⟨_, rfl, L, _, rfl, .inl (SqL.of (s2 _ _ hL)), _, rfl, by omega, by omega, ?_⟩
      rw [Int.toNat_natCast]
      refine for_range (lo := 0) (n := vs.length) (fun j σ H' => (Same H H' ∧ ∃ acc, H' R = some (.lst acc) ∧ AllIn (RowE H') acc (ordI cs i ++ ordRow cs i j)) ∧ ∃ u4 : Option V, σ = [some (.ref q), some (.ref L), some (.ref R), some (.int (i : Int)), u4]) ⟨⟨s2, acc, e2, by show AllIn _ _ (_ ++ []); rw [List.append_nil]; exact A2⟩, _, rfl⟩ ?_ ?_
      · rintro j σ H3 hj ⟨⟨s3, acc, e3, A3⟩, u4, rfl⟩
        rw [Int.zero_add]
        obtain ⟨a1, x1, y1, t1, o1, c1⟩ := hat i (by omega)
        obtain ⟨a2, x2, y2, t2, o2, c2⟩ := hat j (by omega)
        have tt : ordT cs i (j : Int) = (!((i : Int) == (j : Int)) && (decide (x1 ≤ x2) && decide (y1 ≤ y2))) := by
          unfold ordT leH
          rw [Int.toNat_natCast, c1, c2] <;> rfl
        have al : acc.length ≤ 1000 := by
          have z1 := ordI_len cs i
          have z2 := ordRow_len cs i j
          have z3 : i * cs.length ≤ 12 * 12 := Nat.mul_le_mul (by omega) m12
          rw [A3.1, List.length_append]
          omega
        have same : ∀ H', Same H3 H' → ordT cs i (j : Int) = false → (Same H H' ∧ ∃ acc, H' R = some (.lst acc) ∧ AllIn (RowE H') acc (ordI cs i ++ ordRow cs i (j + 1))) := fun H' s' z => by
          rw [ordRow_snoc, if_neg (by rw [z]; exact Bool.false_ne_true)]
          exact ⟨s3.trans s', acc, s' _ _ e3, A3.mono fun _ _ z => RowE.same s' z⟩
        refine ⟨_, rfl, _, rfl, rfl, _, rfl, ?_⟩
        rw [dec_int]
        refine ite2 (fun g1 => ?_) (fun g1 => ⟨same H3 (Same.refl _) (by rw [tt, Bool.eq_false_iff.mpr g1] <;> rfl), _, rfl⟩)
        refine ⟨_, rfl, _, rfl, L, vs, (i : Int), _, rfl, rfl, SqL.of (s3 _ _ hL), t1, a1, _, 0, _, rfl, rfl, SqT.of (s3 _ _ o1), rfl, _, rfl, _, rfl, L, vs, (j : Int), _, rfl, rfl, SqL.of (s3 _ _ hL), t2, a2, _, 0, _, rfl, rfl, SqT.of (s3 _ _ o2), rfl, _, _, rfl, rfl, _, rfl, ?_⟩
        refine ite2 (fun g2 => ?_) (fun g2 => ⟨same H3 (Same.refl _) (by rw [tt, Bool.eq_false_iff.mpr g2, Bool.false_and, Bool.and_false]), _, rfl⟩)
        refine ⟨_, rfl, _, rfl, L, vs, (i : Int), _, rfl, rfl, SqL.of (s3 _ _ hL), t1, a1, _, 1, _, rfl, rfl, SqT.of (s3 _ _ o1), rfl, _, rfl, _, rfl, L, vs, (j : Int), _, rfl, rfl, SqL.of (s3 _ _ hL), t2, a2, _, 1, _, rfl, rfl, SqT.of (s3 _ _ o2), rfl, _, _, rfl, rfl, _, rfl, ?_⟩
        refine ite2 (fun g3 => ?_) (fun g3 => ⟨same H3 (Same.refl _) (by rw [tt, Bool.eq_false_iff.mpr g3, Bool.and_false, Bool.and_false]), _, rfl⟩)
        refine ⟨_, rfl, .inl ⟨rfl, _, SqL.of e3⟩, _, rfl, _, rfl, by show 2 ≤ sizeLine; decide, fun p hp => ?_⟩
        refine new_step hp fun H4 s4 e4 => ?_
        have e3' := s4 _ _ e3
        have RH : H R = none := hR
        refine ⟨R, _, _, rfl, rfl, e3', by rw [sizeLine_eq]; omega, ⟨(s3.trans s4).mut RH, _, upd_same, ?_⟩, _, rfl⟩
        rw [ordRow_snoc, if_pos (by rw [tt, g1, g2, g3] <;> rfl), ← List.append_assoc]
        refine AllIn.snoc (A3.mono fun _ _ z => RowE.updN e3' (RowE.same s4 z)) ⟨p, rfl, ?_⟩
        rw [upd_ne (Ne.symm (ne_of_none e3 hp))]
        exact e4
      · rintro σ H3 ⟨⟨s3, acc, e3, A3⟩, u4, rfl⟩
        refine ⟨⟨s3, acc, e3, ?_⟩, _, _, rfl⟩
        rw [ordI_snoc, ← vl]
        exact A3
    · rintro σ H2 ⟨⟨s2, acc, e2, A2⟩, u3, u4, rfl⟩
      rw [vl] at A2
      exact ⟨_, rfl, k R acc H2 s2 e2 A2⟩
def spFrame : Sp := fun vs H Q _ => ∃ (p : Addr), vs = [.ref p] ∧ HandAt H p ∧ ∀ (q : Addr) (w h : Nat) (cs : List (List Int)) (H' : Hp), Stp p H H' → FrmAt H' q w h cs → FrmOk w h cs → Q (.ref q) H'
abbrev nLawFrame : List Str := ["_law_hand_here", "_law_wide", "_law_high", "_law_places", "_law_a", "_law_b"]
theorem scLawFrame : FnScope nLawFrame ["_law_hand_here"] (defScope s_law_frame) := ⟨rfl, rfl, rfl, by decide +kernel, rfl, by decide +kernel, by decide +kernel⟩
theorem ok_frame {f : Addr} {fd : FuncData} {fcAny : Addr} {fdcAny : FuncData} {fD : Addr} {fdD : FuncData} {fcShuf : Addr} {fdcShuf : FuncData} (F : Fun K "_law_frame" "_law_frame" s_law_frame f fd) (T : NmA mg) (cAny : Cl P w K mg base CX0 2 "_law_any" fcAny fdcAny ["_law_hand_here", "_law_things"] (spAny K)) (D : Cl P w K mg base CX0 1 "_law_draw" fD fdD ["_law_hand_here", "_law_many"] spDraw) (cShuf : Cl P w K mg base CX0 2 "_law_shuffled" fcShuf fdcShuf ["_law_hand_here", "_law_things"] (spShuf K)) : FnOk P w K mg base CX0 3 f fd ["_law_hand_here"] spFrame := by
  refine F.ok scLawFrame (fun vs H Q E h => ?_) (fun cdv A' outer s H vs Q E hr h => ?_)
  · obtain ⟨p, rfl, _⟩ := h
    rfl
  · obtain ⟨p, rfl, hH, k⟩ := h
    have hu := hu_of hr
    refine ⟨_, pss_cons (ps_set (i := 1) scLawFrame.nd rfl (Or.inl rfl) (cAny.call (hr.mono (by decide)) (pa_cons (pv 0) (pa_cons (pe_lst (pa_cons pe_int (pa_cons pe_int (pa_cons pe_int (pa_cons pe_int (pa_cons pe_int pa_nil)))))) pa_nil))))
      (pss_cons (ps_set (i := 2) scLawFrame.nd rfl (Or.inl rfl) (cAny.call (hr.mono (by decide)) (pa_cons (pv 0) (pa_cons (pe_join (pe_ifExp (pt_cmpR op_eq (pv 1) pe_int (nomark _)) (pe_lst (pa_cons pe_int (pa_cons pe_int (pa_cons pe_int (pa_cons pe_int pa_nil))))) (pe_lst (pa_cons pe_int (pa_cons pe_int (pa_cons pe_int pa_nil)))))) pa_nil))))
      (Evl.pss_cut (ps_if (pt_cmpR op_eq (D.call (hr.mono (by decide)) (pa_cons (pv 0) (pa_cons pe_int pa_nil))) pe_int (nomark _))
        (pss_one (ps_asg (cAny.call (hr.mono (by decide)) (pa_cons (pv 0) (pa_cons (pe_lst (pa_cons (pe_tup (pa_cons pe_int (pa_cons pe_int pa_nil))) (pa_cons (pe_tup (pa_cons pe_int (pa_cons pe_int pa_nil))) (pa_cons (pe_tup (pa_cons pe_int (pa_cons pe_int pa_nil))) pa_nil)))) pa_nil))) (pg_tup (by rfl) (pgs_cons (pg_name (i := 1) scLawFrame.nd rfl (Or.inl rfl)) (pgs_cons (pg_name (i := 2) scLawFrame.nd rfl (Or.inl rfl)) pgs_nil))))) pss_nil)
      (pss_cons (ps_set (i := 3) scLawFrame.nd rfl (Or.inl rfl) (pe_lst pa_nil))
      (pss_cons (ps_for PassesOwn.never rfl (pi_range1 (by rfl) T.range (pa_cons (pv 1) pa_nil)) (pg_name (i := 4) scLawFrame.nd rfl (Or.inr rfl))
        (pss_one (ps_expr (pe_bm PySem.F.plainAttrs_list PySem.F.slot_list_extend PySem.F.type_list_extend mt_extend (pv 3) (pa_cons (pe_lc (own := [("_law_b", 5)]) (g := (gName 5)) (tt := tYes) rfl scLawFrame.nd  (pi_range1 (by rfl) T.range (pa_cons (pv 2) pa_nil)) (blkOk_by (own := [("_law_b", 5)]) (N := nLawFrame) (sc := defScope s_law_frame) (by decide +kernel)) (fun _ _ _ _ _ => (pg_name (i := 5) scLawFrame.nd rfl (Or.inl rfl))) (fun _ _ _ _ _ => pts_nil) (fun _ _ _ _ _ => (pe_tup (pa_cons (pv 4) (pa_cons (pv 5) pa_nil))))) pa_nil)))))
      (pss_one (ps_ret (pe_disp (pps_cons pe_str (pv 1) (pps_cons pe_str (pv 2) (pps_cons pe_str (cShuf.call (hr.mono (by decide)) (pa_cons (pv 0) (pa_cons (pv 3) pa_nil))) pps_nil))) (by rfl) (by rfl) (fun z => by cases z) (by decide)))))))), ?_⟩
    refine ⟨_, rfl, by show 5 ≤ sizeLine; decide, fun L hL => ?_⟩
    refine new_step hL fun H1 s1 e1 => ?_
    refine ⟨p, L, ([1, 1, 2, 2, 3] : List Int).map V.int, rfl, .inl (SqL.of e1), by decide, by decide, hH.same s1, fun j x H2 hx S2 => ?_⟩
    rw [List.getElem?_map] at hx
    obtain ⟨wd, hv, rfl⟩ := Option.map_eq_some_iff.mp hx
    have wb : 1 ≤ wd ∧ wd ≤ 3 := by
      have z := List.mem_of_getElem? hv
      simp at z
      omega
    have S2 := S2.pre s1 hH
    refine ⟨_, rfl, fun v H' => ∃ (l : Addr) (hs : List Int), v = .ref l ∧ Same H2 H' ∧ H' l = some (.lst (hs.map V.int)) ∧ 0 < hs.length ∧ hs.length ≤ 4 ∧ ∀ x ∈ hs, 1 ≤ x ∧ x ≤ 4, fun Q' kq => ?_, ?_⟩
    · refine ⟨_, rfl, rfl, _, rfl, ite2 (fun _ => ?_) (fun _ => ?_)⟩
      · exact ⟨by show 4 ≤ sizeLine; decide, fun L hL => kq _ _ ⟨L, [1, 2, 3, 4], rfl, Same.new hL, upd_same, by decide, by decide, fun x hx => by simp at hx; omega⟩⟩
      · exact ⟨by show 3 ≤ sizeLine; decide, fun L hL => kq _ _ ⟨L, [2, 2, 3], rfl, Same.new hL, upd_same, by decide, by decide, fun x hx => by simp at hx; omega⟩⟩
    rintro v H3 ⟨l, hs, rfl, s3, e3, l0, l4, hb⟩
    refine ⟨p, l, hs.map V.int, rfl, .inl (SqL.of e3), by rw [List.length_map]; exact l0, by rw [List.length_map]; omega, S2.hand.same s3, fun j x H4 hx S4 => ?_⟩
    rw [List.getElem?_map] at hx
    obtain ⟨hg, hv, rfl⟩ := Option.map_eq_some_iff.mp hx
    have gb := hb hg (List.mem_of_getElem? hv)
    have S4 := (S2.post s3).trans S4
    obtain ⟨wn, rfl⟩ := Int.eq_ofNat_of_zero_le (show 0 ≤ wd by omega)
    obtain ⟨hn, rfl⟩ := Int.eq_ofNat_of_zero_le (show 0 ≤ hg by omega)
    refine ⟨fun σ' H' => Stp p H H' ∧ ∃ wn hn : Nat, 1 ≤ wn ∧ 1 ≤ hn ∧ wn * hn ≤ 12 ∧ σ' = [some (.ref p), some (.int (wn : Int)), some (.int (hn : Int)), none, none, none], ?_, ?_⟩
    · refine ⟨_, rfl, p, 12, rfl, by decide, by decide, S4.hand, fun d H5 _ _ S5 => ⟨rfl, _, rfl, ite2 (fun _ => ?_) (fun _ => ⟨S4.trans S5, wn, hn, by omega, by omega, Nat.le_trans (Nat.mul_le_mul (show wn ≤ 3 by omega) (show hn ≤ 4 by omega)) (by decide), rfl⟩)⟩⟩
      have S5 := S4.trans S5
      refine ⟨_, rfl, by show 2 ≤ sizeLine; decide, fun t1 ht1 => ?_⟩
      refine new_step ht1 fun G1 g1 o1 => ?_
      refine ⟨by show 2 ≤ sizeLine; decide, fun t2 ht2 => ?_⟩
      refine new_step ht2 fun G2 g2 o2 => ?_
      refine ⟨by show 2 ≤ sizeLine; decide, fun t3 ht3 => ?_⟩
      refine new_step ht3 fun G3 g3 o3 => ?_
      refine ⟨by show 3 ≤ sizeLine; decide, fun M hM => ?_⟩
      refine new_step hM fun G4 g4 o4 => ?_
      have S6 := S5.post (g1.trans (g2.trans (g3.trans g4)))
      refine ⟨p, M, [.ref t1, .ref t2, .ref t3], rfl, .inl (SqL.of o4), by show 0 < 3; decide, by show 3 < 1073741824; decide, S6.hand, fun j x H7 hx S7 => ?_⟩
      obtain ⟨t, a, b, rfl, ht, a1, b1, ab⟩ : ∃ (t : Addr) (a b : Nat), x = .ref t ∧ H7 t = some (.tup [.int (a : Int), .int (b : Int)]) ∧ 1 ≤ a ∧ 1 ≤ b ∧ a * b ≤ 12 := by
        have q1 := (g2.trans (g3.trans g4)) _ _ o1
        have q2 := (g3.trans g4) _ _ o2
        have q3 := g4 _ _ o3
        have hx := List.mem_of_getElem? hx
        rcases List.mem_cons.mp hx with rfl | hx
        · exact ⟨t1, 1, 12, rfl, S7.keep _ _ (tup_ne S6.hand q1) q1, by decide, by decide, by decide⟩
        rcases List.mem_cons.mp hx with rfl | hx
        · exact ⟨t2, 2, 6, rfl, S7.keep _ _ (tup_ne S6.hand q2) q2, by decide, by decide, by decide⟩
        · rw [List.mem_singleton.mp hx]
          exact ⟨t3, 3, 4, rfl, S7.keep _ _ (tup_ne S6.hand q3) q3, by decide, by decide, by decide⟩
      exact ⟨t, _, rfl, SqT.of ht, rfl, _, _, rfl, _, _, rfl, rfl, S6.trans S7, a, b, a1, b1, ab, rfl⟩
    rintro σ' H6 ⟨S6, a, b, a1, b1, ab, rfl⟩
    have a12 : a ≤ 12 := Nat.le_trans (by rw [← Nat.mul_one a]; exact Nat.mul_le_mul (by omega) b1) ab
    have b12 : b ≤ 12 := Nat.le_trans (by rw [← Nat.one_mul b]; exact Nat.mul_le_mul a1 (by omega)) ab
    refine ⟨by show 0 ≤ sizeLine; decide, fun R hR => ?_⟩
    refine new_step hR fun H7 s7 e7 => ?_
    refine ⟨_, rfl, (a : Int), rfl, by omega, by omega, ?_⟩
    rw [Int.toNat_natCast]
    refine for_range (lo := 0) (n := a) (fun i σ H' => (Same H6 H' ∧ ∃ acc, H' R = some (.lst acc) ∧ AllIn (RowE H') acc (gridP i b)) ∧ ∃ u4 u5 : Option V, σ = [some (.ref p), some (.int (a : Int)), some (.int (b : Int)), some (.ref R), u4, u5]) ⟨⟨s7, [], e7, AllIn.nil⟩, none, none, rfl⟩ ?_ ?_
    · rintro i σ H8 hi ⟨⟨s8, acc, e8, A8⟩, u4, u5, rfl⟩
      rw [Int.zero_add]
      refine ⟨_, rfl, .inl ⟨rfl, _, SqL.of e8⟩, _, rfl, (b : Int), rfl, by omega, by omega, fun D hD => ?_⟩
      rw [Int.toNat_natCast]
      have nDR : D ≠ R := Ne.symm (ne_of_none e8 hD)
      refine lc_range (lo := 0) (n := b) (fun j H' => Same H8 H' ∧ ∃ ac2, H' D = some (.lst ac2) ∧ AllIn (RowE H') ac2 ((upto j).map fun y => [(i : Int), y])) ⟨Same.new hD, [], upd_same, AllIn.nil⟩ (fun j H9 hj g => ?_) fun H9 g => ?_
      · obtain ⟨s9, ac2, e9, A9⟩ := g
        rw [Int.zero_add]
        have al : ac2.length ≤ 12 := by rw [A9.1, List.length_map, upto_len]; omega
        refine ⟨rfl, _, rfl, _, rfl, by show 2 ≤ sizeLine; decide, fun t ht => ?_⟩
        refine new_step ht fun H10 s10 e10 => ?_
        have e9' := s10 _ _ e9
        refine ⟨ac2, e9', by rw [sizeLine_eq]; omega, (s9.trans s10).mut hD, _, upd_same, ?_⟩
        rw [upto_snoc, List.map_append]
        refine AllIn.snoc (A9.mono fun _ _ z => RowE.updN e9' (RowE.same s10 z)) ⟨t, rfl, ?_⟩
        rw [upd_ne (Ne.symm (ne_of_none e9 ht))]
        exact e10
      · obtain ⟨s9, ac2, e9, A9⟩ := g
        have e8' := s9 _ _ e8
        have l1 : acc.length ≤ 144 := by
          rw [A8.1, grid_len]
          exact Nat.mul_le_mul (show i ≤ 12 by omega) b12
        have l2 : ac2.length ≤ 12 := by rw [A9.1, List.length_map, upto_len]; omega
        refine ⟨R, D, acc, ac2, rfl, rfl, e8', e9, by rw [sizeLine_eq]; omega, ⟨(s8.trans s9).mut hR, _, upd_same, ?_⟩, _, _, rfl⟩
        rw [grid_snoc]
        exact AllIn.app (A8.mono fun _ _ z => RowE.updN e8' (RowE.same s9 z)) (A9.mono fun _ _ z => RowE.updN e8' z)
    · rintro σ H8 ⟨⟨s8, acc, e8, A8⟩, u4, u5, rfl⟩
      have S8 := S6.post s8
      have al : acc.length ≤ 12 := by rw [A8.1, grid_len]; exact ab
      refine fun q hq => ?_
      have e8' := (Same.new (o := .dK []) hq) _ _ e8
      refine ⟨_, rfl, _, rfl, _, rfl, _, rfl, p, R, acc, rfl, S8.hand.same (Same.new hq), SqL.of e8', al, fun r ys H9 S9 hr9 pm => ?_⟩
      have S10 := (S8.post (Same.new hq)).trans S9
      have qp : q ≠ p := ne_hand S8.hand hq
      have hq9 := S9.keep _ _ qp upd_same
      refine ⟨hq9, frK a b r, rfl, (show 3 ≤ 15 by decide), ?_⟩
      rw [merge_fr]
      have A8' : AllIn (RowE H9) acc (gridP a b) := A8.mono fun _ _ z => RowE.stp (S8.hand.same (Same.new hq)) S9 (RowE.same (Same.new hq) z)
      obtain ⟨m, pm2, Am⟩ := AllIn.perm A8' pm.symm
      have rq : r ≠ q := fun z => by
        rw [z, hq9] at hr9
        cases hr9
      refine k q a b m _ (S10.mut hH (S8.free hq)) ⟨r, ys, upd_same, by rw [upd_ne rq]; exact hr9, Am.mono fun v c z => ?_⟩ ⟨a1, b1, ab, pm2⟩
      obtain ⟨t, e, ht⟩ := z
      exact ⟨t, e, by rw [upd_ne (ne_of ht hq9 (by intro z; cases z))]; exact ht⟩
end
end Law

namespace SW
open PySem PySem.Spec PyProof.Rows L2
section
variable {P : Program} {w : World} {A : Around} {E : Value → Shared → Prop} {s : Shared} {a : Addr} {L : List (Addr × List Int)} {es : Array (Int × Value)} {ep : Nat} {t : SetTable}
/-- a set of tuples, as many as its table holds -/
structure SetW (P : Program) (w : World) (h : Heap) (a : Addr) (L : List (Addr × List Int)) (es : Array (Int × Value)) (ep : Nat) (t : SetTable) : Prop where
  obj : ∃ o, h.get? a = some o ∧ o.ExactSet ∧ o.data = .set es ep t
  ents : es.toList = rowsOf P w L
  tb : TabOk t (L.map fun p => thash P w p.2)
  one : (L.map (·.2)).Nodup
  tups : ∀ p ∈ L, IsT P w h p.2 p.1
  pl : t.plain = true
  lead : w.params.followText "set-order" = true ∨ t.led = true
  free : L.length * 5 < t.mask * 3
theorem SetW.of (R : SetTR P w s.heap a L es ep t) : SetW P w s.heap a L es ep t := ⟨R.ob, R.rows, R.tab, R.nd, R.tup, R.plain, R.led, R.room⟩
theorem SetW.small (R : SetW P w s.heap a L es ep t) (h : L.length < 64) : SetTR P w s.heap a L es ep t := ⟨R.obj, R.ents, R.tb, R.one, R.tups, R.pl, R.lead, R.free, h⟩
theorem SetW.cnt (R : SetW P w s.heap a L es ep t) : es.size = L.length := by
  rw [← Array.length_toList, R.ents]
  unfold rowsOf
  rw [List.length_map]
theorem SetW.ok (R : SetW P w s.heap a L es ep t) : t.fits es.size = true := by
  have q1 := R.tb.sz
  rw [List.length_map] at q1
  have q2 := R.cnt
  have q3 := R.free
  unfold SetTable.fits SetTable.fill
  rw [R.tb.dm, Bool.and_eq_true, beq_iff_eq, decide_eq_true_eq]
  refine ⟨by omega, ?_⟩
  show t.place.size + 0 ≤ t.mask
  omega
theorem SetW.ent (R : SetW P w s.heap a L es ep t) {i : Nat} {p : Addr × List Int} (h : L[i]? = some p) : es[i]? = some (thash P w p.2, Value.ref p.1) := by
  have z : es.toList[i]? = some (thash P w p.2, Value.ref p.1) := by
    rw [R.ents]
    unfold rowsOf
    rw [List.getElem?_map, h] <;> rfl
  simpa using z
theorem SetW.gv (R : SetW P w s.heap a L es ep t) : ¬ t.gaveWay = true := by
  unfold SetTable.gaveWay
  rw [mask_odd R.tb.mok]
  decide
/-- the c-th place looked at -/
def pos (t : SetTable) (h : Int) (c : Nat) : SetTable.Probe := nth t.mask (t.probeStart h) c
theorem pos_way (t : SetTable) (h : Int) (c : Nat) : (pos t h c).j = way t.mask h c := rfl
theorem pos_add (t : SetTable) (h : Int) (c d : Nat) : nth t.mask (pos t h c) d = pos t h (c + d) := (nth_add t.mask c _ d).symm
theorem nth_dummy (m : Nat) : ∀ (n : Nat) (p : SetTable.Probe), p.dummy = none → (nth m p n).dummy = none
  | 0, _, h => h
  | n + 1, p, h => by
    refine nth_dummy m n (adv m p) ?_
    unfold adv
    split
    · exact h
    · exact h
theorem find_from (R : SetW P w s.heap a L es ep t) {x : Addr} {k : List Int} (hx : IsT P w s.heap k x) (hu : A.units < cLine) {K : Nat} (kf : K < 10 * SetTable.turns t.mask)
    (out : way t.mask (thash P w k) K ∉ t.place.toList) (inn : ∀ c, c < K → way t.mask (thash P w k) c ∈ t.place.toList) {Q : SetFound → Shared → Prop}
    (yes : k ∈ L.map (·.2) → Q (.there none) s) (no : k ∉ L.map (·.2) → Q (.free (way t.mask (thash P w k) K) false) s) :
    ∀ (f c : Nat) (o : Option SetTable.Probe), o.getD (t.probeStart (thash P w k)) = pos t (thash P w k) c → c ≤ K → K < c + f →
      (∀ (i : Nat) (p : Addr × List Int), L[i]? = some p → p.2 = k → ∃ d, c ≤ d ∧ d < K ∧ t.place.toList[i]? = some (way t.mask (thash P w k) d)) →
      wpAny (model P w) A (setSearchFrom a (.ref x) (thash P w k) true f o) Q E s := by
  obtain ⟨ob, gob, exo, dat⟩ := R.obj
  have tabl := R.tb
  intro f
  induction f with
  | zero => intro c o _ h1 h2; exact absurd h2 (by omega)
  | succ f ih =>
    intro c o ho hc hf past
    have sameHash : ∀ (i : Nat) (p : Addr × List Int), L[i]? = some p → (es[i]?.map (·.1)).getD 0 = thash P w p.2 := fun i p hp => by
      rw [R.ent hp] <;> rfl
    rw [setSearchFrom_succ]
    refine wpAny_bind (wpAny_setState_of gob dat R.ok ?_)
    refine wp_if_neg R.gv ?_
    have spec := go_spec t tabl.ris tabl.dm (fun i => (es[i]?.map (·.1)).getD 0) (thash P w k) (10 * SetTable.turns t.mask) (K - c) (pos t (thash P w k) c) (nth_dummy _ c _ rfl) (by omega)
      (fun d hd => by rw [pos_add, pos_way]; exact inn _ (by omega)) (by rw [pos_add, pos_way, show c + (K - c) = K by omega]; exact out)
    rcases spec with ⟨d, i, hd, hi, _, skip, hp⟩ | ⟨skip, hp⟩
    · rw [pos_add, pos_way] at hi
      rw [pos_add, pos_add, pos_way] at hp
      have found : t.probe (fun i => (es[i]?.map (·.1)).getD 0) (thash P w k) (o.getD (t.probeStart (thash P w k))) = some (.candidate (way t.mask (thash P w k) (c + d)) i (pos t (thash P w k) (c + (d + 1)))) := by
        rw [ho]
        exact hp
      rw [found]
      dsimp only
      have il : i < L.length := by
        have z1 := (List.getElem?_eq_some_iff.mp hi).1
        have z2 := tabl.sz
        rw [List.length_map] at z2
        rw [Array.length_toList] at z1
        omega
      obtain ⟨p, hpi⟩ : ∃ p, L[i]? = some p := ⟨_, List.getElem?_eq_getElem il⟩
      have pm : p ∈ L := List.mem_of_getElem? hpi
      have here : t.slot (way t.mask (thash P w k) (c + d)) = .live i := slot_live tabl.ris hi
      have rest : wpAny (model P w) A (searchRest a (.ref x) (thash P w k) true f es t (way t.mask (thash P w k) (c + d)) i (pos t (thash P w k) (c + (d + 1)))) Q E s := by
        unfold searchRest
        rw [R.ent hpi]
        dsimp only
        refine wpAny_bind (wpAny_holding (wpAny_eqBool_tuple hu (R.tups p pm) hx ?_))
        refine wpAny_bind (wpAny_setState_of gob dat R.ok ?_)
        dsimp only
        by_cases e : p.2 = k
        · refine wp_if_pos (by simp [e]) (wpAny_pure (yes ?_))
          exact List.mem_map.mpr ⟨p, pm, e⟩
        · refine wp_if_neg (by simp [e]) ?_
          rw [sameMem]
          simp only [if_true, here, R.ent hpi]
          refine wpAny_bind (wpAny_isSame_ref_self (wpAny_bind (wpAny_pure ?_)))
          simp only [if_true]
          refine wp_if_neg (by simp [e]) ?_
          refine ih (c + (d + 1)) _ rfl (by omega) (by omega) fun i0 p0 h0 e0 => ?_
          obtain ⟨d0, z1, z2, z3⟩ := past i0 p0 h0 e0
          refine ⟨d0, ?_, z2, z3⟩
          have hh : (es[i0]?.map (·.1)).getD 0 = thash P w k := by rw [sameHash i0 p0 h0, e0]
          rcases Nat.lt_trichotomy d0 (c + d) with y | y | y
          · refine absurd hh (skip (d0 - c) i0 (by omega) ?_)
            rw [pos_add, pos_way, show c + (d0 - c) = d0 by omega]
            exact z3
          · rw [y] at z3
            have live := slot_live tabl.ris z3
            rw [here] at live
            injection live with ei
            rw [← ei, hpi] at h0
            cases h0
            exact absurd e0 e
          · omega
      by_cases hl : t.led = true
      · exact wp_if_neg (by simp [hl]) rest
      · refine wp_if_pos (by simp [hl]) ?_
        refine wpAny_bind (seen_tup hx (fun y hy => ?_) ?_)
        · obtain ⟨e, he, rfl⟩ := List.mem_map.mp hy
          have e1 : e ∈ es ∧ e.1 = thash P w k := by simpa using he
          have e2 : e ∈ es.toList := by simpa using e1.1
          rw [R.ents] at e2
          obtain ⟨p2, hp2, rfl⟩ := List.mem_map.mp e2
          exact ⟨p2.2, p2.1, rfl, R.tups p2 hp2⟩
        · exact wp_if_neg (by decide) rest
    · rw [pos_add, show c + (K - c) = K by omega, pos_way] at hp
      have found : t.probe (fun i => (es[i]?.map (·.1)).getD 0) (thash P w k) (o.getD (t.probeStart (thash P w k))) = some (.empty (way t.mask (thash P w k) K) none) := by
        rw [ho]
        exact hp
      rw [found]
      refine wpAny_pure (no fun hm => ?_)
      obtain ⟨p0, h0, e0⟩ := List.mem_map.mp hm
      obtain ⟨i0, g0⟩ := List.mem_iff_getElem?.mp h0
      obtain ⟨d0, z1, z2, z3⟩ := past i0 p0 g0 e0
      refine skip (d0 - c) i0 (by omega) ?_ (by rw [sameHash i0 p0 g0, e0])
      rw [pos_add, pos_way, show c + (d0 - c) = d0 by omega]
      exact z3
end
end SW
namespace SW
open PySem PySem.Spec PyProof.Rows L2
section
variable {P : Program} {w : World} {A : Around} {E : Value → Shared → Prop} {s : Shared} {a : Addr} {L : List (Addr × List Int)} {es : Array (Int × Value)} {ep : Nat} {t : SetTable}
theorem find_at (R : SetW P w s.heap a L es ep t) {x : Addr} {k : List Int} (hx : IsT P w s.heap k x) (hu : A.units < cLine) {Q : SetFound → Shared → Prop} (yes : k ∈ L.map (·.2) → Q (.there none) s)
    (no : ∀ K, k ∉ L.map (·.2) → way t.mask (thash P w k) K ∉ t.place.toList → (∀ c, c < K → way t.mask (thash P w k) c ∈ t.place.toList) → Q (.free (way t.mask (thash P w k) K) false) s) :
    wpAny (model P w) A (setSearch a (.ref x) (thash P w k) true) Q E s := by
  have fr := R.free
  obtain ⟨K, kf, out, inn⟩ := R.tb.first (by rw [List.length_map]; omega) (thash P w k)
  have few : K < 100000 := by
    have z : SetTable.turns t.mask ≤ 142 := by
      unfold SetTable.turns
      rcases R.tb.mok with e | e | e <;> omega
    omega
  unfold setSearch
  refine find_from R hx hu kf out inn yes (fun h => no K h out inn) 100000 0 none rfl (Nat.zero_le _) (by omega) fun i p hp e => ?_
  have g1 : (L.map fun p => thash P w p.2)[i]? = some (thash P w k) := by rw [List.getElem?_map, hp, ← e] <;> rfl
  have il : i < t.place.toList.length := by
    have z1 := (List.getElem?_eq_some_iff.mp hp).1
    have z2 := R.tb.sz
    rw [List.length_map] at z2
    rw [Array.length_toList]
    omega
  obtain ⟨j, hj⟩ : ∃ j, t.place.toList[i]? = some j := ⟨_, List.getElem?_eq_getElem il⟩
  obtain ⟨c, hc, ec⟩ := R.tb.before out g1 hj
  exact ⟨c, Nat.zero_le _, hc, by rw [hj, ec]⟩
theorem put_in (R : SetW P w s.heap a L es ep t) {x : Addr} {k : List Int} (hx : IsT P w s.heap k x) (hu : A.units < cLine) (rm : (L.length + 1) * 5 < t.mask * 3) {Q : Bool → Shared → Prop}
    (hQ : ∀ b h' L' es' ep' t', Heap.SameBut a s.heap h' → SetW P w h' a L' es' ep' t' → (k ∈ L.map (·.2) → L' = L) → (k ∉ L.map (·.2) → L'.Perm ((x, k) :: L)) → Q b { s with heap := h' }) :
    wpAny (model P w) A (setAddHashed a (.ref x) (thash P w k)) Q E s := by
  obtain ⟨ob, gob, exo, dat⟩ := R.obj
  unfold setAddHashed
  refine wpAny_holding ?_
  rw [show (100000 : Nat) = 99999 + 1 from rfl, setAddHashedIn_succ]
  refine wpAny_bind (wpAny_setState_of gob dat R.ok ?_)
  refine wp_if_neg (by simp [byScan, Value.scannable]) ?_
  refine wpAny_bind (find_at R hx hu (fun hm => wpAny_pure (hQ false s.heap L es ep t (Heap.SameBut.refl a s.heap) R (fun _ => rfl) fun z => absurd hm z)) fun K hm out inn => ?_)
  refine wpAny_bind (wpAny_setState_of gob dat R.ok ?_)
  obtain ⟨c1, c2, c3, c4, c5, c6, c7, c8, c9⟩ := R.tb.put out inn
  dsimp only
  have pl1 : (t.put (way t.mask (thash P w k) K)).1.plain = true := by rw [c6]; exact R.pl
  generalize hput : t.put (way t.mask (thash P w k) K) = pp at c1 c3 c4 c5 c6 c7 c8 c9 pl1 ⊢
  obtain ⟨t1, j⟩ := pp
  dsimp only at c1 c3 c4 c5 c6 c7 c8 c9 pl1 ⊢
  subst c1
  refine wp_if_pos pl1 (wpAny_bind (hashBy_tup hx ?_))
  simp only [if_true]
  have rows1 : (SetTable.insertAt es (SetTable.below t.place (way t.mask (thash P w k) K)) (thash P w k, Value.ref x)).toList = rowsOf P w (L.take (SetTable.below t.place (way t.mask (thash P w k) K)) ++ (x, k) :: L.drop (SetTable.below t.place (way t.mask (thash P w k) K))) := by
    rw [SetTable.toList_insertAt, rows_put, R.ents]
  generalize SetTable.below t.place (way t.mask (thash P w k) K) = j at c2 c3 rows1 ⊢
  have perm1 := put_perm L j (x, k)
  have len1 : (L.take j ++ (x, k) :: L.drop j).length = L.length + 1 := perm1.length_eq
  have tb1 : TabOk t1 ((L.take j ++ (x, k) :: L.drop j).map fun p => thash P w p.2) := by
    rw [List.map_append, List.map_cons, List.map_take, List.map_drop]
    exact c3
  have one1 : ((L.take j ++ (x, k) :: L.drop j).map (·.2)).Nodup := by
    rw [(perm1.map (·.2)).nodup_iff, List.map_cons, List.nodup_cons]
    exact ⟨hm, R.one⟩
  generalize SetTable.insertAt es j (thash P w k, Value.ref x) = es1 at rows1 ⊢
  generalize L.take j ++ (x, k) :: L.drop j = L1 at perm1 len1 tb1 one1 rows1
  have cnt1 : es1.size = L.length + 1 := by
    rw [← Array.length_toList, rows1]
    unfold rowsOf
    rw [List.length_map, len1]
  refine wpAny_bind (wpAny_storeSet_of gob dat ?_ (by rw [cnt1, sizeLine_eq]; have := R.tb.mok; rcases this with e | e | e <;> omega))
  have sb : Heap.SameBut a s.heap (s.heap.update a (Obj.putSet es1 t1)) := Heap.SameBut.update ..
  have st := store_at (es' := es1) (t' := t1) gob dat
  generalize s.heap.update a (Obj.putSet es1 t1) = h1 at sb st ⊢
  have notfull : ¬ t1.tooFull = true := by
    unfold SetTable.tooFull
    rw [decide_eq_true_eq, c9, c4, List.length_map]
    omega
  refine wp_if_neg (by simp [notfull]) ?_
  refine wpAny_pure (hQ true h1 L1 es1 (ep + 1) t1 sb ⟨⟨_, st, ⟨exo.1, exo.2.1, exo.2.2⟩, rfl⟩, rows1, tb1, one1, fun p hp => ?_, pl1, by rw [c5]; exact R.lead, by rw [len1, c4]; exact rm⟩ (fun z => absurd z hm) fun _ => perm1)
  rcases List.mem_cons.mp (perm1.mem_iff.mp hp) with e | e
  · rw [e]
    exact isT_same hx gob dat sb
  · exact isT_same (R.tups p e) gob dat sb
theorem add_any (R : SetW P w s.heap a L es ep t) {x : Addr} {k : List Int} (hx : IsT P w s.heap k x) (hu : A.units < cLine) (hl : L.length ≤ 72) {Q : Bool → Shared → Prop}
    (hQ : ∀ b h' L' es' ep' t', Heap.SameBut a s.heap h' → SetW P w h' a L' es' ep' t' → (k ∈ L.map (·.2) → L' = L) → (k ∉ L.map (·.2) → L'.Perm ((x, k) :: L)) → Q b { s with heap := h' }) :
    wpAny (model P w) A (setAddHashed a (.ref x) (thash P w k)) Q E s := by
  by_cases c : L.length + 1 < 64
  · exact add_at (R.small (by omega)) hx hu c fun b h' L' es' ep' t' h1 h2 => hQ b h' L' es' ep' t' h1 (SetW.of (s := { s with heap := h' }) h2)
  · refine put_in R hx hu ?_ hQ
    have fr := R.free
    rcases R.tb.mok with e | e | e <;> rw [e] at fr ⊢ <;> omega
end
end SW
namespace SW
open PySem PySem.Spec PyProof.Rows L2
section
variable {P : Program} {w : World} {A : Around} {E : Value → Shared → Prop} {s : Shared}
theorem SetW.keep {h h' : Heap} {a : Addr} {L : List (Addr × List Int)} {es : Array (Int × Value)} {ep : Nat} {t : SetTable} (R : SetW P w h a L es ep t) (st : ∀ o, h.get? a = some o → h'.get? a = some o) (tt : ∀ p ∈ L, IsT P w h' p.2 p.1) : SetW P w h' a L es ep t :=
  let ⟨o, ho, r⟩ := R.obj
  ⟨⟨o, st o ho, r⟩, R.ents, R.tb, R.one, tt, R.pl, R.lead, R.free⟩
def News0 (P : Program) (w : World) (Z : Addr) (ks : List (Addr × List Int)) (i : Nat) (h : Heap) : Prop := ∃ L es ep t, SetW P w h Z L es ep t ∧ Got ks i L
/-- the loop of set.update, for up to 72 tuples -/
theorem upd_loop {I : Addr} {fp wr : List Addr} {G : Array GenState → Array GenState → Prop} {n : Nat} {Pv : Nat → Value → Prop} {St : Nat → Shared → Prop} {R : Result → Shared → Prop}
    (Wk : WalksS P w A.in1 I fp wr G n Pv St) (Z : Addr) (zf : Z ∉ fp) (ks : List (Addr × List Int)) (en : n = ks.length) (few : ks.length ≤ 72) (val : ∀ i v, Pv i v → ∃ p, ks[i]? = some p ∧ v = .ref p.1)
    (h0 : Heap) (kt : ∀ p ∈ ks, IsT P w h0 p.2 p.1) (z0 : h0.get? Z = none) (w0 : ∀ b ∈ wr, h0.get? b = none) (hu : A.in1.units < cLine) :
    ∀ (m i : Nat) (s : Shared), i + m = n → St i s → (∀ b o, h0.get? b = some o → s.heap.get? b = some o) → News0 P w Z ks i s.heap →
      (∀ s', Moved (Z :: wr) G s s' → News0 P w Z ks n s'.heap → (∀ b o, h0.get? b = some o → s'.heap.get? b = some o) → R (.ok (.ret .none)) s') →
      codeAny (model P w) A (.builtin "set.update.loop" ⟨[.ref Z, .ref I], []⟩) R s := by
  have zw : Z ∉ wr := fun h => zf (Wk.sub _ h)
  have wider : ∀ b ∈ wr, b ∈ Z :: wr := fun b hb => List.mem_cons_of_mem _ hb
  have still : ∀ {s s' : Shared}, Moved wr G s s' → (∀ b o, h0.get? b = some o → s.heap.get? b = some o) → ∀ b o, h0.get? b = some o → s'.heap.get? b = some o := by
    intro s s' mv kp b o e
    refine mv.heap b o (fun hb => ?_) (kp b o e)
    rw [w0 b hb] at e
    cases e
  intro m
  induction m with
  | zero =>
    intro i s im st kp ⟨L, es, ep, t, hS, g⟩ fin
    have ei : i = n := im
    subst ei
    refine codeAny_builtin F.entry_set_update_loop ?_
    rw [Around.under_plainId F.plain_set_update_loop _]
    show wpAny _ A.in1 (pyNext (.ref I) >>= _) _ _ s
    refine wpAny_bind (Wk.done s _ _ st fun s' mv => ?_)
    have kp' := still mv kp
    show wpAny _ A.in1 (ret Value.none) _ _ s'
    exact wpAny_pure (fin s' (mv.mono wider) ⟨L, es, ep, t, hS.keep (fun o e => mv.heap Z o zw e) fun p hp => isT_keep (kt p (List.mem_of_mem_take (g.sub p hp))) kp', g⟩ kp')
  | succ m ih =>
    intro i s im st kp ⟨L, es, ep, t, hS, g⟩ fin
    have less : i < n := by omega
    refine codeAny_builtin F.entry_set_update_loop ?_
    rw [Around.under_plainId F.plain_set_update_loop _]
    show wpAny _ A.in1 (pyNext (.ref I) >>= _) _ _ s
    refine wpAny_bind (Wk.item i s _ _ less st fun v s1 hP st1 mv => ?_)
    obtain ⟨p, hp, rfl⟩ := val i v hP
    have kp1 := still mv kp
    have hS1 : SetW P w s1.heap Z L es ep t := hS.keep (fun o e => mv.heap Z o zw e) fun q hq => isT_keep (kt q (List.mem_of_mem_take (g.sub q hq))) kp1
    have ip : IsT P w s1.heap p.2 p.1 := isT_keep (kt p (List.mem_of_getElem? hp)) kp1
    show wpAny _ A.in1 (holding [Value.ref p.1] (setAdd Z (.ref p.1)) >>= _) _ _ s1
    refine wpAny_bind (wpAny_holding ?_)
    unfold setAdd
    refine wpAny_holding (wpAny_bind (wpAny_pyHash_tuple hu ip ?_))
    have gl := g.len
    refine add_any (s := { s1 with toks := s1.toks + (p.2.length + 1) }) hS1 ip hu (by omega) fun b h2 L2 es2 ep2 t2 sb hS2 c1 c2 => ?_
    have g2 : Got ks (i + 1) L2 := by
      by_cases c : p.2 ∈ L.map (·.2)
      · rw [c1 c]
        exact g.same hp c
      · exact g.more hp (c2 c)
    have kp2 : ∀ b o, h0.get? b = some o → h2.get? b = some o := fun b o e => by
      rw [sb.2 b fun z => ?_]
      · exact kp1 b o e
      · rw [z, z0] at e
        cases e
    refine wpAny_pure ⟨plainId_quiet F.plain_set_update_loop _, ih (i + 1) _ (by omega) (Wk.frame _ s1 _ _ st1 (Nat.le_add_right _ _) fun b hb o e => ?_) kp2 ⟨L2, es2, ep2, t2, hS2, g2⟩ fun s3 mv3 n3 kp3 => fin s3 (Moved.trans Wk.gtrans ((mv.mono wider).then_heap (Nat.le_add_right _ _) fun b o hb e => ?_) mv3) n3 kp3⟩
    · rw [sb.2 b fun z => zf (z ▸ hb)]
      exact e
    · rw [sb.2 b fun z => hb (z ▸ List.mem_cons_self)]
      exact e
end
end SW
namespace SW
open PySem PySem.Spec PyProof.Rows L2
section
variable {P : Program} {w : World} {A : Around} {E : Value → Shared → Prop} {s : Shared}
set_option maxRecDepth 100000 in
set_option maxHeartbeats 3200000 in
/-- set(xs), xs a list of up to 72 tuples of ints -/
theorem call_setLst {l : Addr} {items : Array Value} (ks : List (Addr × List Int)) {Q : Value → Shared → Prop} (hh : A.handled = none) (hl : s.heap.IsList l items) (hit : items.toList = ks.map fun p => Value.ref p.1)
    (kt : ∀ p ∈ ks, IsT P w s.heap p.2 p.1) (few : ks.length ≤ 72) (hu : A.units + 3 < cLine)
    (h : ∀ (h' : Heap) (tk : Nat), News0 P w s.heap.objs.size ks ks.length h' → (∀ b o, s.heap.get? b = some o → h'.get? b = some o) → Q (.ref s.heap.objs.size) { s with heap := h', toks := tk }) :
    wpAny (model P w) A (call (.type "set") [Value.ref l]) Q E s := by
  have hisz : items.size = ks.length := by
    have q := congrArg List.length hit; rw [Array.length_toList, List.length_map] at q; exact q
  obtain ⟨c, tl, hmro⟩ := F.called_set.mro; have hmade := F.called_set.made; have hsub := F.called_set.sub
  refine wpAny_call (codeAny_of_tree ?_)
  show wpAny _ _ (callAny (.type "set") _) _ _ _
  refine wpAny_pure ⟨Code.quiet_builtin _ (show _ by decide +kernel), codeAny_builtin F.entry_type_call ?_⟩
  rw [Around.under_plain (weight_type_call_type "set" [Value.ref l] []) rfl]
  have h1 := F.called_set.notType; have h2 := F.called_set.canCreate; have hct := F.typeCall_set_1 (.ref l)
  repeat (any_goals (first | (assumption) | (wp_step)))
  refine codeAny_mono (code_set_led1 (.ref l) (E := E) (Q₁ := fun obj s₁ => obj = .ref s.heap.objs.size ∧ s₁ = { s with heap := s.heap.push (freshSet w) }) ⟨rfl, rfl⟩) fun r s₁ hr => ?_
  rcases r with e | fl
  · exact hr
  · cases fl with
    | ret obj =>
      obtain ⟨rfl, rfl⟩ := hr
      have hS : (s.heap.push (freshSet w)).get? s.heap.objs.size = some (freshSet w) := Heap.get?_push_size _ rfl
      have hT : Shared.TypeIs { s with heap := s.heap.push (freshSet w) } (.ref s.heap.objs.size) "set" := ⟨_, hS, rfl⟩
      have hli := F.called_set.init.lookup; have hbi := F.called_set.init.bind (.ref s.heap.objs.size)
      repeat (any_goals (first | (assumption) | (wp_step)))
      refine codeAny_mono (codeAny_call_builtin (R := wants (fun r s₂ => r = .none ∧ ∃ h' tk, s₂ = { s with heap := h', toks := tk } ∧ News0 P w s.heap.objs.size ks ks.length h' ∧ (∀ b o, s.heap.get? b = some o → h'.get? b = some o)) E)
        F.called_set.init.plain F.entry_set_init (check_set_init_1 hT ?_)) fun r₂ s₂ hr₂ => ?_
      · obtain ⟨⟨ocls, odict, odata, oslots⟩, hol, hcl, nl, hdl⟩ := hl
        simp only at hcl hdl
        subst hcl hdl
        have hol' : (s.heap.push (freshSet w)).get? l = some { cls := .type "list", dict := odict, data := .seq items nl, slots := oslots } := Heap.get?_push_of_some _ hol
        have hsls := F.sub_list_set; have hslf := F.sub_list_frozenset
        have hne : (Value.type "list" == Value.type "dict") = false := show _ by decide
        have hl1 : (s.heap.push (freshSet w)).IsList l items := ⟨_, hol', rfl, nl, rfl⟩
        unfold Builtin.«set.__init__»; unfold noKeywords; unfold Builtin.Frozenset.updateFrom
        generalize hPI : pyIter = PI
        wp_walk; subst hPI
        refine wpAny_pyIter_list hl1 ?_; refine wpAny_bind (wpAny_runValue ?_)
        have hlS : l < s.heap.objs.size := Heap.lt_size hol
        have hh3 : A.in1.in1.in1.handled = none := by simp [hh]
        have hneI : l ≠ (s.heap.push (freshSet w)).objs.size := by
          rw [Heap.size_push]; exact (Nat.ne_of_lt (Nat.lt_succ_of_lt hlS))
        have hSf : s.heap.objs.size ∉ [(s.heap.push (freshSet w)).objs.size, l] := by
          rw [Heap.size_push]; simp only [List.mem_cons, List.mem_singleton, List.not_mem_nil, or_false, not_or]; exact ⟨Nat.ne_of_lt (Nat.lt_succ_self _), Nat.ne_of_gt hlS⟩
        have none_of : ∀ b, s.heap.objs.size ≤ b → s.heap.get? b = none := fun b hb => by
          cases q : s.heap.get? b with
          | none => rfl
          | some o => exact absurd (Heap.lt_size q) (Nat.not_lt.mpr hb)
        have hval : ∀ (i : Nat) (v : Value), items[i]? = some v → ∃ p, ks[i]? = some p ∧ v = .ref p.1 := fun i v hv => by
          have q : items.toList[i]? = some v := by rw [Array.getElem?_toList]; exact hv
          rw [hit, List.getElem?_map] at q
          obtain ⟨p, hp, e⟩ := Option.map_eq_some_iff.mp q
          exact ⟨p, hp, e.symm⟩
        refine upd_loop ((Walks.list hh3 _ l hneI items).toS) s.heap.objs.size hSf ks hisz few hval s.heap kt (none_of _ (Nat.le_refl _)) (fun b hb => none_of b (by rw [List.mem_singleton.mp hb, Heap.size_push]; exact Nat.le_succ _)) hu
          items.size 0 _ (Nat.zero_add _) ⟨⟨_, Heap.get?_push_size _ rfl, rfl, rfl⟩, (hl1.push _)⟩ (fun b o e => Heap.get?_push_of_some _ (Heap.get?_push_of_some _ e)) ?hS0 ?hR
        case hS0 =>
          have hget : ((s.heap.push (freshSet w)).push { cls := .type "list_iterator", data := .fields #[.ref l, .int 0 0] }).get? s.heap.objs.size = some (freshSet w) := Heap.get?_push_of_some _ hS
          exact ⟨[], #[], 0, _, SetW.of (s := { s with heap := (s.heap.push (freshSet w)).push { cls := .type "list_iterator", data := .fields #[.ref l, .int 0 0] } }) (setTR_fresh hget), Got.zero ks⟩
        case hR =>
          intro s' hm nw kp
          obtain ⟨h', g2, d', tk', os'⟩ := s'
          have eg : g2 = s.gens := hm.gens; have ed : d' = s.drawn := hm.drawn; have eo : os' = s.os := hm.os
          subst eg ed eo
          show wpAny _ _ _ _ _ _; refine wpAny_pure ?_
          show wpAny _ _ (ret Value.none) _ _ _; rw [hisz] at nw
          exact wpAny_pure ⟨rfl, h', tk', rfl, nw, kp⟩
      · rcases r₂ with e | fl₂
        · exact hr₂
        · cases fl₂ with
          | ret r =>
            obtain ⟨rfl, h', tk, rfl, nw, kp⟩ := hr₂
            repeat (any_goals (first | (assumption) | (wp_step)))
            exact h _ _ nw kp
          | _ => exact (hr₂.elim)
    | _ => exact (hr.elim)
end
end SW
namespace SW
open PySem PySem.Spec PyProof.Rows L2 Law PySem.W
section
variable {P : Program} {w : World} {A : Around} {E : Value → Shared → Prop} {s : Shared}
theorem sorted_setW {a : Addr} {L : List (Addr × List Int)} {es : Array (Int × Value)} {ep : Nat} {t : SetTable} {Q : Value → Shared → Prop} (R : SetW P w s.heap a L es ep t) (hh : A.handled = none) (hu : A.units + 5 < cLine)
    (nn : ∀ p ∈ L, p.2 ≠ []) (l72 : L.length ≤ 100)
    (hQ : ∀ s' p (M : List (Addr × List Int)) (c : Nat), (∀ b o, s.heap.get? b = some o → s'.heap.get? b = some o) → s'.gens = s.gens → s'.os = s.os → s.heap.objs.size ≤ p →
      s'.heap.get? p = some (seqObj "list" (M.map fun q => Value.ref q.1).toArray c) → M.Perm L → M.Pairwise (fun a b => dataLt (tupD b.2) (tupD a.2) = false) → Q (.ref p) s') :
    wpAny (model P w) A (call (.builtin "sorted") [.ref a]) Q E s := by
  obtain ⟨o, ho, hex, hd⟩ := R.obj
  have cnt := R.cnt
  refine Calls.call_function_entry kind_sorted plain_sorted entry_sorted (args_sorted1 _) ?_
  unfold Builtin.«sorted»
  refine wpAny_bind (m := checkCount "sorted" 1 1 _) (wpAny_pure ?_)
  refine wpAny_bind (collect_set (A := A.in1) hh ⟨o, ho, hex.1, hd⟩ R.ok (by unfold scanBound; omega) R.tb.ris R.lead fun s1 vs k1 hz g1 o1 pm => ?_)
  have hes : es.toList.map (·.2) = L.map fun q => Value.ref q.1 := by
    rw [R.ents]
    unfold L2.rowsOf
    rw [List.map_map] <;> rfl
  rw [hes] at pm
  obtain ⟨L1, rfl, p1⟩ := perm_back pm L rfl
  have len1 := p1.length_eq
  refine wpAny_bind (wpAny_newList ?_ (by rw [sizeLine_eq, List.length_map]; omega))
  have kp : ∀ b u, s.heap.get? b = some u → (s1.heap.push (seqObj "list" (L1.map fun q => Value.ref q.1).toArray 0)).get? b = some u := fun b u e => Heap.get?_push_of_some _ (k1 b u e)
  have hoL : (s1.heap.push (seqObj "list" (L1.map fun q => Value.ref q.1).toArray 0)).get? s1.heap.objs.size = some (seqObj "list" (L1.map fun q => Value.ref q.1).toArray 0) := Heap.get?_push_size _ rfl
  have enc : ∀ d ∈ L1.map (fun b => tupD b.2), ∃ b ∈ L, d = tupD b.2 := fun d hd => by
    obtain ⟨b, hb, rfl⟩ := List.mem_map.mp hd
    exact ⟨b, p1.mem_iff.mp hb, rfl⟩
  refine wpAny_bind (wpAny_holding (list_sort_data (s := { s1 with heap := s1.heap.push (seqObj "list" (L1.map fun q => Value.ref q.1).toArray 0) }) (bs := L1) (enc := fun b => tupD b.2) hoL (refs_each L1)
    (each_with (refs_each L1) fun v b hb e => ⟨[], ?_, List.not_mem_nil⟩) (fun d hd d' hd' => ?_) (.inl fun d hd => ?_) (by rw [sizeLine_eq]; omega) (fun b hb => ?_) fun out lo eo => ?_))
  · rw [e]
    exact reads_isT (P := P) (w := w) (isT_keep (R.tups b (p1.mem_iff.mp hb)) kp)
  · obtain ⟨b, _, rfl⟩ := enc d hd
    obtain ⟨b', _, rfl⟩ := enc d' hd'
    exact alike_tupD _ _
  · obtain ⟨b, hb, rfl⟩ := enc d hd
    have z := nn b hb
    unfold tupD
    cases h : b.2 with
    | nil => exact absurd h z
    | cons x r => exact ⟨_, _, rfl⟩
  · have z := (lay_tupD b.2).2
    have := Around.in1_units A
    omega
  · obtain ⟨c, hc⟩ := sortedHeap_at (vs := L1.map fun q => Value.ref q.1) (out := out.toArray) hoL
    have eout := each_refs eo
    rw [eout] at hc
    have pM := List.mergeSort_perm L1 (dataLe false fun b => tupD b.2)
    refine wpAny_pure ⟨_, rfl, hQ _ s1.heap.objs.size (L1.mergeSort (dataLe false fun b => tupD b.2)) c (fun b u e => ?_) g1 o1 hz (by rw [eout]; exact hc) (pM.trans p1) (merge_le L1)⟩
    have q := k1 b u e
    have lt := Heap.lt_size q
    show (sortedHeap (s1.heap.push (seqObj "list" (L1.map fun q => Value.ref q.1).toArray 0)) s1.heap.objs.size (L1.map fun q => Value.ref q.1) out.toArray).get? b = some u
    rw [sortedHeap_old (Nat.ne_of_lt lt) (by rw [size_push']; exact Nat.lt_succ_of_lt lt)]
    exact kp b u e
end
end SW
namespace L2
open PySem PySem.Spec PyProof.Rows Law
/-- sorted(set(xs)), xs a list of pairs -/
def tSortSetL (K : PySem.W.Frag) (te : TE) : TE := fun σ H Q => te σ H fun x H1 => ∃ (s : Addr) (ws : List V) (cs : List (List Int)), x = .ref s ∧ SqL K H1 s ws ∧ AllIn (RowAt K H1) ws cs ∧ cs.length ≤ 70 ∧ (∀ c ∈ cs, c.length = 2 ∧ ∀ y ∈ c, 0 ≤ y ∧ y < 64) ∧
  ∀ (p : Addr) (us : List V) (ds : List (List Int)) (H2 : Hp), Same H1 H2 → H2 p = some (.lst us) → AllIn (RowAt K H2) us ds → ds.Pairwise lexL → (∀ c, c ∈ ds ↔ c ∈ cs) → Q (.ref p) H2
end L2
namespace L2
open PySem PySem.Spec PyProof.Rows Law PySem.W
theorem rows_keys {K : PySem.W.Frag} {H : Hp} : ∀ {ws : List V} {cs : List (List Int)}, AllIn (RowAt K H) ws cs → ∃ ks : List (Addr × List Int), ws = ks.map (fun p => V.ref p.1) ∧ cs = ks.map (·.2) ∧ ∀ p ∈ ks, SqT K H p.1 (p.2.map V.int)
  | [], [], _ => ⟨[], rfl, rfl, fun p hp => absurd hp List.not_mem_nil⟩
  | [], _ :: _, h => by cases h.1
  | _ :: _, [], h => by cases h.1
  | x :: ws, c :: cs, h => by
    obtain ⟨d, hd, a, rfl, ha⟩ := h.2 0 x rfl
    cases hd
    obtain ⟨ks, e1, e2, hk⟩ := rows_keys (K := K) (H := H) (ws := ws) (cs := cs) ⟨Nat.succ.inj h.1, fun i y hy => h.2 (i + 1) y hy⟩
    refine ⟨(a, c) :: ks, by rw [List.map_cons, e1], by rw [List.map_cons, e2], fun p hp => ?_⟩
    rcases List.mem_cons.mp hp with rfl | hp
    · exact ha
    · exact hk p hp
theorem keys_rows {K : PySem.W.Frag} {H : Hp} {ks : List (Addr × List Int)} (hk : ∀ p ∈ ks, SqT K H p.1 (p.2.map V.int)) : AllIn (RowAt K H) (ks.map fun p => V.ref p.1) (ks.map (·.2)) := by
  refine ⟨by rw [List.length_map, List.length_map], fun i x hx => ?_⟩
  rw [List.getElem?_map] at hx
  obtain ⟨p, hp, rfl⟩ := Option.map_eq_some_iff.mp hx
  exact ⟨p.2, by rw [List.getElem?_map, hp] <;> rfl, p.1, rfl, hk p (List.mem_of_getElem? hp)⟩
theorem pe_sortSetL {X : Cx} {e : Expr} {te : TE} {p p2 pos pos2 : Pos} (hc : X.calm = true) (hu : X.A.units + 65 < cLine) (hg : Gl X "set") (hm : X.mg "set" = none) (hg2 : Gl X "sorted") (hm2 : X.mg "sorted" = none) (he : PE X e te)
    (na : starEach [e] X.env = (false, eval e X.env) :: starEach [] X.env := by rfl) :
    PE X (.Call (.Name "sorted" p) [.Call (.Name "set" p2) [e] [] pos2] [] pos) (tSortSetL X.K te) := by
  refine ⟨fun pins s σ H Q I h => ?_⟩
  refine Call_ (ld_blt I hg2 hm2 PyProof.Rows.boot_sorted ?_)
  refine PyProof.Rows.callWith_builtin1 (PyProof.Rows.args_cons ?_ rfl) rfl rfl
  refine Call_ (ld_blt I hg hm PyProof.Rows.boot_set ?_)
  refine PyProof.Rows.callWith_type1 (PyProof.Rows.args_cons (thn (he.run pins s σ H _ I h) fun v s1 ⟨x, H1, I1, r1, q1⟩ => PyProof.Rows.args_nil ?_) na) na rfl
  obtain ⟨a, ws, cs, rfl, ht, hA, l70, two, q⟩ := q1
  cases r1
  obtain ⟨its, rv, pt, _⟩ := I1.list ht
  obtain ⟨ks, rfl, rfl, hk⟩ := rows_keys hA
  rw [List.length_map] at l70
  refine SW.call_setLst (P := X.prog) (w := X.w) ks (I1.ok.hd hc) pt.isList (by simpa using refs_of_vals rv) (fun p hp => I1.isT (hk p hp)) (by omega) (by omega) fun h' tk nw k => ?_
  obtain ⟨L, es, ep, t, R, g⟩ := nw
  refine PyProof.Rows.args_nil ?_
  have sub : ∀ p ∈ L, p ∈ ks := fun p hp => List.mem_of_mem_take (g.sub p hp)
  have all : ∀ p ∈ ks, p.2 ∈ L.map (·.2) := fun p hp => g.all p (by rw [List.take_length]; exact hp)
  have gl := g.len
  have I2 : Inv X pins σ H1 { s1 with heap := h', toks := tk } := I1.kept fun b o e => k b o e
  refine SW.sorted_setW (s := { s1 with heap := h', toks := tk }) R (I2.ok.hd hc) (by omega) (fun p hp z => ?_) (by omega) fun s' p M c kp eg eo hp hout pm pw => ?_
  · have := (two p.2 (List.mem_map.mpr ⟨p, sub p hp, rfl⟩)).1
    rw [z] at this
    cases this
  · have hn : H1 p = none := I2.hok.fresh hp
    have lM : M.length ≤ ks.length := by rw [pm.length_eq]; omega
    have hlen : (M.map fun q => V.ref q.1).length ≤ sizeLine := by rw [List.length_map, sizeLine_eq]; omega
    have J : Inv X pins σ (upd H1 p (.lst (M.map fun q => V.ref q.1))) { { s1 with heap := h', toks := tk } with heap := s'.heap, gens := s'.gens, drawn := s'.drawn, toks := s'.toks } :=
      I2.call (ch := []) (Un.laid kp hp hn) (I2.hok.laid kp hp ⟨hlen, _, c, vals_of_refs M, hout⟩) (by rw [eg]; exact I2.bare) (fun _ z => nomatch z)
    have e : s' = { { s1 with heap := h', toks := tk } with heap := s'.heap, gens := s'.gens, drawn := s'.drawn, toks := s'.toks } := by
      cases s'
      cases s1
      cases eo
      rfl
    rw [e]
    have inK : ∀ q ∈ M, q ∈ ks := fun q hq => sub q (pm.mem_iff.mp hq)
    have nd : (M.map (·.2)).Nodup := (pm.map (·.2)).nodup_iff.mpr R.one
    refine ⟨.ref p, _, J, rfl, q p (M.map fun q => V.ref q.1) (M.map (·.2)) _ (Same.new hn) upd_same (keys_rows fun q hq => (Same.new hn).sqT (hk q (inK q hq))) ?_ fun c => ?_⟩
    · have both := List.Pairwise.and pw (List.pairwise_map.mp nd)
      rw [List.pairwise_map]
      refine List.Pairwise.imp_of_mem (fun {a b} ha hb h => lex_of_le h.1 h.2 ?_ ?_) both
      · exact (two a.2 (List.mem_map.mpr ⟨a, inK a ha, rfl⟩)).1
      · exact (two b.2 (List.mem_map.mpr ⟨b, inK b hb, rfl⟩)).1
    · constructor
      · intro h
        obtain ⟨q, hq, rfl⟩ := List.mem_map.mp h
        exact List.mem_map.mpr ⟨q, inK q hq, rfl⟩
      · intro h
        obtain ⟨q, hq, rfl⟩ := List.mem_map.mp h
        exact (pm.map (·.2)).mem_iff.mpr (all q hq)
end L2
namespace Law
open PySem L2
theorem rgV_up (n : Nat) : rgV 0 (n : Int) = (upto n).map V.int := by
  unfold rgV upto
  rw [List.map_map, show ((n : Int) - 0).toNat = n by omega]
  refine List.map_congr_left fun i _ => ?_
  show V.int (0 + (i : Nat)) = V.int (i : Int)
  rw [Int.zero_add]
theorem nd_ix {α : Type} {l : List α} (h : l.Nodup) {i j : Nat} {a : α} (hi : l[i]? = some a) (hj : l[j]? = some a) : i = j := by
  obtain ⟨i1, e1⟩ := List.getElem?_eq_some_iff.mp hi
  obtain ⟨j1, e2⟩ := List.getElem?_eq_some_iff.mp hj
  have h := List.pairwise_iff_getElem.mp h
  rcases Nat.lt_trichotomy i j with z | z | z
  · exact absurd (e1.trans e2.symm) (h i j i1 j1 z)
  · exact z
  · exact absurd (e2.trans e1.symm) (h j i j1 i1 z)
/-- a side of the frame: where each height is led -/
def SideAt (S : Addr) (H : Hp) (v : V) (n : Nat) : Prop := ∃ l xs, v = .ref l ∧ l ≠ S ∧ H l = some (.lst (xs.map V.int)) ∧ LdOk n xs ∧ xs.Pairwise (· ≤ ·)
theorem pw_snoc {l : List Int} {v : Int} (h : l.Pairwise (· ≤ ·)) (g : ∀ x ∈ l, x ≤ v) : (l ++ [v]).Pairwise (· ≤ ·) := List.pairwise_append.mpr ⟨h, List.pairwise_singleton _ _, fun x hx y hy => by rw [List.mem_singleton.mp hy]; exact g x hx⟩
/-- a map by sides that never fall -/
def Kept (w h : Nat) (cs : List (List Int)) (xs : List Int) : Prop := ∃ f g : List Int, LdOk w f ∧ f.Pairwise (· ≤ ·) ∧ LdOk h g ∧ g.Pairwise (· ≤ ·) ∧ ∀ (s : Nat) (a b : Int), cs[s]? = some [a, b] → cs[(stepS xs (s : Int)).toNat]? = some [stepS f a, stepS g b]
theorem SideAt.stp {S : Addr} {H H' : Hp} {p : Addr} {v : V} {n : Nat} (hp : HandAt H p) (s : Stp p H H') (h : SideAt S H v n) : SideAt S H' v n := by
  obtain ⟨l, xs, e, h1, h2, h3⟩ := h
  exact ⟨l, xs, e, h1, s.keep _ _ (lst_ne hp h2) h2, h3⟩
theorem SideAt.same {S : Addr} {H H' : Hp} {v : V} {n : Nat} (s : Same H H') (h : SideAt S H v n) : SideAt S H' v n := by
  obtain ⟨l, xs, e, h1, h2, h3⟩ := h
  exact ⟨l, xs, e, h1, s _ _ h2, h3⟩
theorem SideAt.updS {S : Addr} {H : Hp} {v : V} {n : Nat} {o : HO} (h : SideAt S H v n) : SideAt S (upd H S o) v n := by
  obtain ⟨l, xs, e, h1, h2, h3⟩ := h
  exact ⟨l, xs, e, h1, by rw [upd_ne h1]; exact h2, h3⟩
def SideV (S p : Addr) (H0 H : Hp) (v : V) (n : Nat) : Prop := Stp p H0 H ∧ SideAt S H v n
def KJ (p q S : Addr) (n : Nat) (kd : Int) (H0 : Hp) (σ : L2.St) (H : Hp) : Prop := Stp p H0 H ∧ ∃ v u6 u7 u8 u9 u10, SideAt S H v n ∧ σ = [some (.ref p), some (.ref q), some (.ref S), some (.int (n : Int)), some (.int kd), some v, u6, u7, u8, u9, u10]
theorem upto_ld (n : Nat) : LdOk n (upto n) := ⟨upto_len n, fun _ hx => mem_upto.mp hx⟩
theorem flat_one {α : Type} (x : α) (n : Nat) : (List.replicate n [x]).flatten = List.replicate n x := by
  induction n with
  | zero => rfl
  | succ n ih => rw [List.replicate_succ, List.flatten_cons, ih, List.replicate_succ] <;> rfl
section
variable {P : Program} {w : World} {K : PySem.W.Frag} {mg : Str → Option Value} {base : Heap}
def spKept (K : PySem.W.Frag) : Sp := fun vs H Q _ => ∃ (p q : Addr) (w h : Nat) (cs : List (List Int)), vs = [.ref p, .ref q] ∧ HandAt H p ∧ FrmAt H q w h cs ∧ FrmOk w h cs ∧
  ∀ (l : Addr) (xs : List Int) (H' : Hp), Stp p H H' → SqT K H' l (xs.map V.int) → LdOk cs.length xs → Kept w h cs xs → Q (.ref l) H'
abbrev nLawKeptMap : List Str := ["_law_hand_here", "_law_frame_here", "_law_sides", "_law_size", "_law_kind", "_law_side", "_law_heights", "_law_turn", "_law_height", "_law_a", "_law_b"]
theorem scLawKeptMap : FnScope nLawKeptMap ["_law_hand_here", "_law_frame_here"] (defScope s_law_kept_map) := ⟨rfl, rfl, rfl, by decide +kernel, rfl, by decide +kernel, by decide +kernel⟩
theorem ok_kept_map {f : Addr} {fd : FuncData} {fD : Addr} {fdD : FuncData} (F : Fun K "_law_kept_map" "_law_kept_map" s_law_kept_map f fd) (T : NmA mg) (D : Cl P w K mg base CX0 1 "_law_draw" fD fdD ["_law_hand_here", "_law_many"] spDraw) : FnOk P w K mg base CX0 2 f fd ["_law_hand_here", "_law_frame_here"] (spKept K) := by
  refine F.ok scLawKeptMap (fun vs H Q E h => ?_) (fun cdv A' outer s H vs Q E hr h => ?_)
  · obtain ⟨p, q, w, h, cs, rfl, _⟩ := h
    rfl
  · obtain ⟨p, q, w, h, cs, rfl, hH, hF, ok, k⟩ := h
    have hu := hu_of hr
    refine ⟨_, pss_cons (ps_set (i := 2) scLawKeptMap.nd rfl (Or.inr rfl) (pe_lst pa_nil))
      (pss_cons (ps_for PassesOwn.never rfl (pi_list (pe_lst (pa_cons (pe_dget hu (pv 1) pe_str (fun _ _ => rfl)) (pa_cons (pe_dget hu (pv 1) pe_str (fun _ _ => rfl)) pa_nil)))) (pg_name (i := 3) scLawKeptMap.nd rfl (Or.inr rfl))
        (pss_cons (ps_set (i := 4) scLawKeptMap.nd rfl (Or.inl rfl) (D.call (hr.mono (by decide)) (pa_cons (pv 0) (pa_cons pe_int pa_nil))))
        (pss_cons (ps_set (i := 5) scLawKeptMap.nd rfl (Or.inl rfl) (pe_callB cr_sortedI (by rfl) T.sorted (by decide +kernel) (pa_cons (pe_lc (own := [("_law_turn", 7)]) (g := (gName 7)) (tt := tYes) rfl scLawKeptMap.nd  (pi_range1 (by rfl) T.range (pa_cons (pv 3) pa_nil)) (blkOk_by (own := [("_law_turn", 7)]) (N := nLawKeptMap) (sc := defScope s_law_kept_map) (by decide +kernel)) (fun _ _ _ _ _ => (pg_name (i := 7) scLawKeptMap.nd rfl (Or.inl rfl))) (fun _ _ _ _ _ => pts_nil) (fun _ _ _ _ _ => (D.call (hr.mono (by decide)) (pa_cons (pv 0) (pa_cons (pv 3) pa_nil))))) pa_nil)))
        (Evl.pss_cut (ps_if (pt_cmpR op_lt (pv 4) pe_int (nomark _))
          (pss_one (ps_set (i := 5) scLawKeptMap.nd rfl (Or.inl rfl) (pe_listRg (by rfl) (by rfl) T.list (prg_1 (by rfl) T.range (pv 3))))) pss_nil)
        (Evl.pss_cut (ps_if (pt_cmpR op_in_seq (pv 4) (pe_lst (pa_cons pe_int (pa_cons pe_int pa_nil))) (by rfl))
          (pss_one (ps_setLc (i := 5) (own := [("_law_height", 8)]) (g := (gName 8)) (tt := tYes) (by rfl) scLawKeptMap.nd rfl rfl (sw_true rfl rfl rfl (by decide +kernel)) (pi_range1 (by rfl) T.range (pa_cons (pv 3) pa_nil)) (blkOk_by (own := [("_law_height", 8)]) (N := nLawKeptMap) (sc := defScope s_law_kept_map) (by decide +kernel)) (fun _ _ _ _ _ => (pg_name (i := 8) scLawKeptMap.nd rfl (Or.inl rfl))) (fun _ _ _ _ _ => pts_nil) (fun _ _ _ _ _ => (pe_callB (call_max2 rfl) (by rfl) T.max (by decide +kernel) (pa_cons pe_int (pa_cons (pe_op op_sub (pv 8) pe_int) pa_nil)))))) pss_nil)
        (Evl.pss_cut (ps_if (pt_cmpR op_in_seq (pv 4) (pe_lst (pa_cons pe_int (pa_cons pe_int pa_nil))) (by rfl))
          (pss_one (ps_setLc (i := 5) (own := [("_law_height", 8)]) (g := (gName 8)) (tt := tYes) (by rfl) scLawKeptMap.nd rfl rfl (sw_true rfl rfl rfl (by decide +kernel)) (pi_range1 (by rfl) T.range (pa_cons (pv 3) pa_nil)) (blkOk_by (own := [("_law_height", 8)]) (N := nLawKeptMap) (sc := defScope s_law_kept_map) (by decide +kernel)) (fun _ _ _ _ _ => (pg_name (i := 8) scLawKeptMap.nd rfl (Or.inl rfl))) (fun _ _ _ _ _ => pts_nil) (fun _ _ _ _ _ => (pe_callB (call_min2 rfl) (by rfl) T.min (by decide +kernel) (pa_cons (pe_op op_sub (pv 3) pe_int) (pa_cons (pe_op op_add (pv 8) pe_int) pa_nil)))))) pss_nil)
        (Evl.pss_cut (ps_if (pt_cmpR op_eq (pv 4) pe_int (nomark _))
          (pss_one (ps_set (i := 5) scLawKeptMap.nd rfl (Or.inl rfl) (pe_op op_rep (pe_lst (pa_cons (D.call (hr.mono (by decide)) (pa_cons (pv 0) (pa_cons (pv 3) pa_nil))) pa_nil)) (pv 3)))) pss_nil)
        (pss_one (ps_expr (pe_bm PySem.F.plainAttrs_list PySem.F.slot_list_append PySem.F.type_list_append mt_append (pv 2) (pa_cons (pv 5) pa_nil)))))))))))
      (pss_cons (ps_set (i := 6) scLawKeptMap.nd rfl (Or.inr rfl) (pe_dget hu (pv 1) pe_str (fun _ _ => rfl)))
      (pss_one (ps_ret (pe_callTy call_tuple_of (by rfl) T.tuple (by decide +kernel) (pa_cons (pe_lc (own := [("_law_a", 9), ("_law_b", 10)]) (g := (gTup K 2 (gCons (gName 9) (gCons (gName 10) gNil)))) (tt := tYes) rfl scLawKeptMap.nd  (pi_list (pv 6)) (blkOk_by (own := [("_law_a", 9), ("_law_b", 10)]) (N := nLawKeptMap) (sc := defScope s_law_kept_map) (by decide +kernel)) (fun _ _ _ _ _ => (pg_tup (by rfl) (pgs_cons (pg_name (i := 9) scLawKeptMap.nd rfl (Or.inl rfl)) (pgs_cons (pg_name (i := 10) scLawKeptMap.nd rfl (Or.inl rfl)) pgs_nil)))) (fun _ _ _ _ _ => pts_nil) (fun _ _ _ _ _ => (show PE _ _ (tBM K "list" (rIndexD K) (tVar 6) _) from pe_bm (r := rIndexD K) PySem.F.plainAttrs_list PySem.F.slot_list_index PySem.F.type_list_index (show MtR _ "list.index" (rIndexD K) from mt_indexD (units65 hr)) (pv 6) (pa_cons (pe_tup (pa_cons (pe_ix (r := rIxL K) (show IxR _ (rIxL K) from ix_list) (pe_ix (r := rIxL K) (show IxR _ (rIxL K) from ix_list) (pv 2) pe_int (fun _ _ => rfl)) (pv 9) (fun _ _ => rfl)) (pa_cons (pe_ix (r := rIxL K) (show IxR _ (rIxL K) from ix_list) (pe_ix (r := rIxL K) (show IxR _ (rIxL K) from ix_list) (pv 2) pe_int (fun _ _ => rfl)) (pv 10) (fun _ _ => rfl)) pa_nil))) pa_nil)))) pa_nil)))))), ?_⟩
    obtain ⟨L, vs, hq, hL, hA⟩ := id hF
    have w12 : w ≤ 12 := Nat.le_trans (by rw [← Nat.mul_one w]; exact Nat.mul_le_mul (by omega) ok.h1) ok.wh
    have h12 : h ≤ 12 := Nat.le_trans (by rw [← Nat.one_mul h]; exact Nat.mul_le_mul ok.w1 (by omega)) ok.wh
    have w1 := ok.w1
    have h1 := ok.h1
    have qp : q ≠ p := fr_ne hH hq
    refine ⟨by show 0 ≤ sizeLine; decide, fun S hS => ?_⟩
    have Sp : S ≠ p := ne_hand hH hS
    refine new_step hS fun H1 s1 e1 => ?_
    have hq1 := s1 _ _ hq
    refine ⟨_, rfl, q, _, rfl, gt_wide hq1, _, rfl, q, _, rfl, gt_high hq1, by show 2 ≤ sizeLine; decide, fun M hM => ?_⟩
    have MS : M ≠ S := Ne.symm (ne_of_none e1 hM)
    have Mp : M ≠ p := ne_hand (hH.same s1) hM
    refine new_step hM fun H2 s2 e2 => ?_
    have S2 : Stp p H H2 := Stp.of hH (s1.trans s2)
    have e2 : H2 M = some (.lst (([w, h] : List Nat).map fun n : Nat => V.int (n : Int))) := e2
    refine ⟨M, rfl, ⟨_, SqL.of e2⟩, ?_⟩
    refine for_list (K := K) (a := M) (xs := ([w, h] : List Nat).map fun n : Nat => V.int (n : Int)) (fun i σ H' => (Stp p H H' ∧ H' M = some (.lst (([w, h] : List Nat).map fun n : Nat => V.int (n : Int))) ∧ ∃ acc, H' S = some (.lst acc) ∧ AllIn (SideAt S H') acc (([w, h] : List Nat).take i)) ∧ ∃ u3 u4 u5 u6 u7 u8 u9 u10 : Option V, σ = [some (.ref p), some (.ref q), some (.ref S), u3, u4, u5, u6, u7, u8, u9, u10]) ⟨⟨S2, e2, [], s2 _ _ e1, AllIn.nil⟩, none, none, none, none, none, none, none, none, rfl⟩ (fun i σ H' _ h => SqL.of h.1.2.1) ?_ ?_
    · rintro i x σ H3 hi ⟨⟨S3, e3, acc, a3, A3⟩, u3, u4, u5, u6, u7, u8, u9, u10, rfl⟩
      rw [List.getElem?_map] at hi
      obtain ⟨n, hn, rfl⟩ := Option.map_eq_some_iff.mp hi
      have nb : 1 ≤ n ∧ n ≤ 12 := by
        have z := List.mem_of_getElem? hn
        simp at z
        rcases z with rfl | rfl
        · exact ⟨w1, w12⟩
        · exact ⟨h1, h12⟩
      have rgok : RgOk 0 (n : Int) := RgOk.of_le (by decide) (by omega) (by decide) (by omega)
      refine ⟨_, rfl, p, 9, rfl, by decide, by decide, S3.hand, fun kd H4 k0 k1 S4 => ?_⟩
      have S4' := S3.trans S4
      refine ⟨_, rfl, (n : Int), rfl, by omega, by omega, fun D hD => ?_⟩
      rw [Int.toNat_natCast]
      have Dp : D ≠ p := ne_hand S4'.hand hD
      have DH : H4 D = none := hD
      refine lc_range (lo := 0) (n := n) (fun i H' => Stp p H4 H' ∧ ∃ ws : List Int, H' D = some (.lst (ws.map V.int)) ∧ ws.length = i ∧ ∀ x ∈ ws, 0 ≤ x ∧ x < (n : Int)) ⟨Stp.of S4.hand (Same.new hD), [], upd_same, rfl, fun x hx => absurd hx List.not_mem_nil⟩ (fun i H5 hi g => ?_) fun H5 g => ?_
      · obtain ⟨S5, ws, d5, l5, b5⟩ := g
        refine ⟨rfl, _, rfl, _, rfl, p, (n : Int), rfl, by omega, by omega, S5.hand, fun d H6 d0 d1 S6 => ?_⟩
        refine ⟨_, S6.keep _ _ Dp d5, by rw [List.length_map, l5]; exact small1000 (by omega), (S5.trans S6).mut S4.hand DH, ws ++ [d], by rw [upd_same, List.map_append] <;> rfl, by rw [List.length_append, l5] <;> rfl, fun x hx => ?_⟩
        rcases List.mem_append.mp hx with h | h
        · exact b5 x h
        · rw [List.mem_singleton.mp h]
          omega
      obtain ⟨S5, ws, d5, l5, b5⟩ := g
      refine ⟨D, ws, rfl, SqL.of d5, fun ns l pm pw hl => ?_⟩
      have lS : l ≠ S := Ne.symm (ne_of_none (S5.keep _ _ Sp (S4.keep _ _ Sp a3)) hl)
      refine new_step hl fun H6 s6 e6 => ?_
      have S6 : Stp p H3 H6 := (S4.trans S5).post s6
      have ld : LdOk n ns := ⟨by rw [pm.length_eq, l5], fun x hx => b5 x (pm.mem_iff.mp hx)⟩
      have fresh : ∀ {H' : Hp} {a : Addr}, Stp p H3 H' → H' a = none → a ≠ S := fun S' ha => Ne.symm (ne_of_none (S'.keep _ _ Sp a3) ha)
      refine ⟨KJ p q S n kd H3, ?_, ?_⟩
      · have stay : KJ p q S n kd H3 [some (.ref p), some (.ref q), some (.ref S), some (.int (n : Int)), some (.int kd), some (.ref l), u6, u7, u8, u9, u10] H6 := ⟨S6, _, _, _, _, _, _, ⟨l, ns, rfl, lS, e6, ld, pw⟩, rfl⟩
        refine ⟨_, rfl, _, _, rfl, rfl, _, rfl, ite2 (fun _ => ?_) (fun _ => stay)⟩
        refine ⟨_, rfl, (n : Int), rfl, rgok, fun g hg => ?_⟩
        have gS := fresh S6 hg
        refine new_step hg fun H7 s7 e7 => ?_
        rw [rgV_up] at e7
        exact ⟨S6.post s7, _, _, _, _, _, _, ⟨g, upto n, rfl, gS, e7, upto_ld n, (upto_asc n).imp Int.le_of_lt⟩, rfl⟩
      rintro σ H7 ⟨S7, v, u6, u7, u8, u9, u10, side, rfl⟩
      refine ⟨KJ p q S n kd H3, ?_, ?_⟩
      · refine ⟨_, rfl, by show 2 ≤ sizeLine; decide, fun N hN => ?_⟩
        refine new_step hN fun H8 s8 e8 => ?_
        have S8 := S7.post s8
        refine ⟨N, _, rfl, .inl (SqL.of e8), rfl, rfl, _, rfl, ite2 (fun _ => ?_) (fun _ => ⟨S8, _, _, _, _, _, _, side.same s8, rfl⟩)⟩
        refine ⟨_, rfl, (n : Int), rfl, by omega, by omega, fun E hE => ?_⟩
        rw [Int.toNat_natCast]
        have ES := fresh S8 hE
        refine lc_range (lo := 0) (n := n) (fun i H' => Same H8 H' ∧ ∃ ws : List Int, H' E = some (.lst (ws.map V.int)) ∧ ws.length = i ∧ (∀ x ∈ ws, 0 ≤ x ∧ x < (n : Int)) ∧ ws.Pairwise (· ≤ ·) ∧ ∀ x ∈ ws, x ≤ 0 ∨ x + 1 ≤ (i : Int)) ⟨Same.new hE, [], upd_same, rfl, fun x hx => absurd hx List.not_mem_nil, List.Pairwise.nil, fun x hx => absurd hx List.not_mem_nil⟩ (fun i H9 hi g => ?_) fun H9 g => ?_
        · obtain ⟨s9, ws, d9, l9, b9, pw9, c9⟩ := g
          refine ⟨rfl, _, rfl, _, _, rfl, rfl, _, _, rfl, ?_⟩
          refine ⟨_, d9, by rw [List.length_map, l9]; exact small1000 (by omega), s9.mut hE, ws ++ [_], by rw [upd_same, List.map_append] <;> rfl, by rw [List.length_append, l9] <;> rfl, fun x hx => ?_, pw_snoc pw9 fun x hx => ?_, fun x hx => ?_⟩
          · rcases List.mem_append.mp hx with h | h
            · exact b9 x h
            · rw [List.mem_singleton.mp h]
              split <;> omega
          · have := c9 x hx
            split <;> omega
          · rcases List.mem_append.mp hx with h | h
            · have := c9 x h
              omega
            · rw [List.mem_singleton.mp h]
              split <;> omega
        obtain ⟨s9, ws, d9, l9, b9, pw9, c9⟩ := g
        exact ⟨S8.post s9, _, _, _, _, _, _, ⟨E, ws, rfl, ES, d9, ⟨l9, b9⟩, pw9⟩, rfl⟩
      rintro σ H8 ⟨S8, v, u6, u7, u8, u9, u10, side, rfl⟩
      refine ⟨KJ p q S n kd H3, ?_, ?_⟩
      · refine ⟨_, rfl, by show 2 ≤ sizeLine; decide, fun N hN => ?_⟩
        refine new_step hN fun H9 s9 e9 => ?_
        have S9 := S8.post s9
        refine ⟨N, _, rfl, .inl (SqL.of e9), rfl, rfl, _, rfl, ite2 (fun _ => ?_) (fun _ => ⟨S9, _, _, _, _, _, _, side.same s9, rfl⟩)⟩
        refine ⟨_, rfl, (n : Int), rfl, by omega, by omega, fun E hE => ?_⟩
        rw [Int.toNat_natCast]
        have ES := fresh S9 hE
        refine lc_range (lo := 0) (n := n) (fun i H' => Same H9 H' ∧ ∃ ws : List Int, H' E = some (.lst (ws.map V.int)) ∧ ws.length = i ∧ (∀ x ∈ ws, 0 ≤ x ∧ x < (n : Int)) ∧ ws.Pairwise (· ≤ ·) ∧ ∀ x ∈ ws, x ≤ (i : Int)) ⟨Same.new hE, [], upd_same, rfl, fun x hx => absurd hx List.not_mem_nil, List.Pairwise.nil, fun x hx => absurd hx List.not_mem_nil⟩ (fun i H10 hi g => ?_) fun H10 g => ?_
        · obtain ⟨s10, ws, d10, l10, b10, pw10, c10⟩ := g
          refine ⟨rfl, _, rfl, _, _, rfl, rfl, _, rfl, _, _, rfl, rfl, _, _, rfl, ?_⟩
          refine ⟨_, d10, by rw [List.length_map, l10]; exact small1000 (by omega), s10.mut hE, ws ++ [_], by rw [upd_same, List.map_append] <;> rfl, by rw [List.length_append, l10] <;> rfl, fun x hx => ?_, pw_snoc pw10 fun x hx => ?_, fun x hx => ?_⟩
          · rcases List.mem_append.mp hx with h | h
            · exact b10 x h
            · rw [List.mem_singleton.mp h]
              split <;> omega
          · have := c10 x hx
            have := b10 x hx
            split <;> omega
          · rcases List.mem_append.mp hx with h | h
            · have := c10 x h
              omega
            · rw [List.mem_singleton.mp h]
              split <;> omega
        obtain ⟨s10, ws, d10, l10, b10, pw10, c10⟩ := g
        exact ⟨S9.post s10, _, _, _, _, _, _, ⟨E, ws, rfl, ES, d10, ⟨l10, b10⟩, pw10⟩, rfl⟩
      rintro σ H9 ⟨S9, v, u6, u7, u8, u9, u10, side, rfl⟩
      refine ⟨KJ p q S n kd H3, ?_, ?_⟩
      · refine ⟨_, rfl, rfl, _, rfl, ite2 (fun _ => ?_) (fun _ => ⟨S9, _, _, _, _, _, _, side, rfl⟩)⟩
        refine ⟨_, rfl, _, rfl, p, (n : Int), rfl, by omega, by omega, S9.hand, fun d H10 d0 d1 S10 => ?_⟩
        refine ⟨by show 1 ≤ sizeLine; decide, fun E hE => ?_⟩
        refine new_step hE fun H11 s11 e11 => ?_
        refine ⟨_, rfl, E, (n : Int), _, rfl, rfl, e11, by omega, by omega, by rw [sizeLine_eq, Int.toNat_natCast]; show 1 * n ≤ _; omega, fun T hT => ?_⟩
        have S11 := (S9.trans S10).post s11
        have TS := fresh S11 hT
        refine new_step hT fun H12 s12 e12 => ?_
        rw [Int.toNat_natCast, flat_one] at e12
        exact ⟨S11.post s12, _, _, _, _, _, _, ⟨T, List.replicate n d, rfl, TS, by rw [e12, List.map_replicate], ⟨List.length_replicate, fun x hx => by rw [List.eq_of_mem_replicate hx]; exact ⟨d0, d1⟩⟩, List.pairwise_replicate.mpr (.inr (Int.le_refl d))⟩, rfl⟩
      rintro σ H10 ⟨S10, v, u6, u7, u8, u9, u10, side, rfl⟩
      have a10 := S10.keep _ _ Sp a3
      have al : acc.length ≤ 2 := by
        rw [A3.1, List.length_take]
        exact Nat.min_le_right _ _
      refine ⟨_, rfl, .inl ⟨rfl, _, SqL.of a10⟩, _, rfl, S, acc, _, rfl, rfl, a10, by rw [sizeLine_eq]; omega, ⟨(S3.trans S10).mut hH hS, by rw [upd_ne MS]; exact S10.keep _ _ Mp e3, _, upd_same, ?_⟩, _, _, _, _, _, _, _, _, rfl⟩
      rw [List.take_add_one, hn]
      exact AllIn.snoc (A3.mono fun _ _ z => SideAt.updS (SideAt.stp S3.hand S10 z)) (SideAt.updS side)
    · rintro σ H3 ⟨⟨S3, e3, acc, a3, A3⟩, u3, u4, u5, u6, u7, u8, u9, u10, rfl⟩
      have hF3 := FrmAt.stp hH S3 hF
      obtain ⟨L, vs, hq, hL, hA⟩ := hF3
      have A3 : AllIn (SideAt S H3) acc [w, h] := A3
      have al : acc.length = 2 := A3.1
      obtain ⟨v0, v1, rfl⟩ : ∃ v0 v1, acc = [v0, v1] := match acc, al with | [a, b], _ => ⟨a, b, rfl⟩
      obtain ⟨n0, hn0, l0, xs0, rfl, z0, g0, ld0, pw0⟩ := A3.2 0 _ rfl
      obtain ⟨n1, hn1, l1, xs1, rfl, z1, g1, ld1, pw1⟩ := A3.2 1 _ rfl
      cases hn0
      cases hn1
      refine ⟨_, rfl, q, _, rfl, gt_heights hq, ?_⟩
      refine ⟨_, rfl, L, rfl, ⟨_, SqL.of hL⟩, fun D hD => ?_⟩
      refine lc_list (K := K) (a := L) (xs := vs) (fun i H' => Same H3 H' ∧ ∃ ws : List Int, H' D = some (.lst (ws.map V.int)) ∧ ws.length = i ∧ (∀ x ∈ ws, 0 ≤ x ∧ x < (cs.length : Int)) ∧ ∀ (s : Nat) (a b : Int), s < i → cs[s]? = some [a, b] → cs[(stepS ws (s : Int)).toNat]? = some [stepS xs0 a, stepS xs1 b]) ⟨Same.new hD, [], upd_same, rfl, fun x hx => absurd hx List.not_mem_nil, fun s a b h => absurd h (Nat.not_lt_zero _)⟩ (fun i H' _ h => SqL.of (h.1 _ _ hL)) (fun i x H4 hi g => ?_) fun H4 g => ?_
      · obtain ⟨s4, ws, d4, l4, b4, m4⟩ := g
        obtain ⟨c, hc, t, rfl, ht⟩ := hA.2 i x hi
        obtain ⟨a, b, rfl, a0, a1, b0, b1⟩ := ok.mem (List.mem_of_getElem? hc)
        have vl := hA.1
        have il := (List.getElem?_eq_some_iff.mp hi).1
        have m12 := ok.many.2
        refine ⟨t, _, rfl, SqT.of (s4 _ _ ht), rfl, _, _, rfl, _, _, rfl, rfl, ?_⟩
        have i0 : stepS xs0 a = stepS xs0 a := rfl
        have q0 := stepS_in ld0 ⟨a0, a1⟩
        have q1 := stepS_in ld1 ⟨b0, b1⟩
        have a3' := s4 _ _ a3
        refine ⟨rfl, _, rfl, .inl ⟨rfl, _, SqL.of (s4 _ _ hL)⟩, _, rfl, S, _, 0, _, rfl, rfl, SqL.of a3', rfl, _, rfl, l0, _, a, _, rfl, rfl, SqL.of (s4 _ _ g0), step_at ld0 ⟨a0, a1⟩, _, rfl, S, _, 1, _, rfl, rfl, SqL.of a3', rfl, _, rfl, l1, _, b, _, rfl, rfl, SqL.of (s4 _ _ g1), step_at ld1 ⟨b0, b1⟩, by show 2 ≤ sizeLine; decide, fun T hT => ?_⟩
        refine new_step hT fun H5 s5 e5 => ?_
        have mem : [stepS xs0 a, stepS xs1 b] ∈ cs := ok.pm.mem_iff.mp (grid_mem.mpr ⟨_, _, rfl, q0.1, q0.2, q1.1, q1.2⟩)
        obtain ⟨j, hj⟩ := List.getElem?_of_mem mem
        have jl := (List.getElem?_eq_some_iff.mp hj).1
        have s45 := s4.trans s5
        have rT : RowAt K H5 (.ref T) [stepS xs0 a, stepS xs1 b] := ⟨T, rfl, SqT.of e5⟩
        have hA5 : AllIn (RowAt K H5) vs cs := hA.mono fun _ _ z => (RowE.same s45 z).at_
        have d4' := s5 _ _ d4
        refine ⟨L, .ref T, tupD [stepS xs0 a, stepS xs1 b], cs.map tupD, j, tupD [stepS xs0 a, stepS xs1 b], rfl, rfl, .lst (SqL.of (s45 _ _ hL)) (dp_all (g := tupD) (R := RowAt K H5) (fun _ _ => dp_row) hA5), dp_row rT, sh_lst _, sh_tup _, by rw [List.getElem?_map, hj] <;> rfl, by rw [eqv_tupD, decide_eq_true rfl], fun m z' hm hz => ?_, ?_⟩
        · rw [List.getElem?_map] at hz
          obtain ⟨c', hc', rfl⟩ := Option.map_eq_some_iff.mp hz
          rw [eqv_tupD]
          refine decide_eq_false fun e => ?_
          rw [e] at hc'
          have := nd_ix ok.nd hc' hj
          omega
        · refine ⟨_, d4', by rw [List.length_map, l4]; exact small1000 (by omega), s45.mut hD, ws ++ [(j : Int)], by rw [upd_same, List.map_append] <;> rfl, by rw [List.length_append, l4] <;> rfl, fun x hx => ?_, fun s a' b' hs hcs => ?_⟩
          · rcases List.mem_append.mp hx with h | h
            · exact b4 x h
            · rw [List.mem_singleton.mp h]
              omega
          · unfold stepS
            rw [Int.toNat_natCast, List.getD_eq_getElem?_getD]
            by_cases z : s = i
            · subst z
              rw [hc] at hcs
              cases hcs
              rw [List.getElem?_append_right (by omega), l4, Nat.sub_self]
              exact hj
            · rw [List.getElem?_append_left (by omega), ← List.getD_eq_getElem?_getD]
              have := m4 s a' b' (by omega) hcs
              unfold stepS at this
              rw [Int.toNat_natCast] at this
              exact this
      · obtain ⟨s4, ws, d4, l4, b4, m4⟩ := g
        refine ⟨D, _, rfl, .inl ⟨SqL.of d4, fun T hT => ?_⟩⟩
        refine new_step hT fun H6 s6 e6 => ?_
        exact k T ws H6 (S3.post (s4.trans s6)) (SqT.of e6) ⟨by rw [l4, hA.1], b4⟩ ⟨xs0, xs1, ld0, pw0, ld1, pw1, fun s a b hs => m4 s a b (by have := (List.getElem?_eq_some_iff.mp hs).1; rw [hA.1]; exact this) hs⟩
end
end Law

namespace Law
open PySem L2
section
variable {P : Program} {w : World} {K : PySem.W.Frag} {mg : Str → Option Value} {base : Heap}
def spMaps (K : PySem.W.Frag) : Sp := fun vs H Q _ => ∃ (p q : Addr) (w h : Nat) (cs : List (List Int)) (b : Bool), vs = [.ref p, .ref q, .bl b] ∧ HandAt H p ∧ FrmAt H q w h cs ∧ FrmOk w h cs ∧
  ∀ (l : Addr) (mws : List V) (Ls : List (List Int)) (H' : Hp), Stp p H H' → H' l = some (.lst mws) → AllIn (RowAt K H') mws Ls → LsOk cs.length Ls → 1 ≤ Ls.length → Ls.length ≤ 24 → (b = true → ∀ xs ∈ Ls, Kept w h cs xs) → Q (.ref l) H'
abbrev nLawMaps : List Str := ["_law_hand_here", "_law_frame_here", "_law_is_kept", "_law_many", "_law_found", "_law_turn", "_law_is_wild"]
theorem scLawMaps : FnScope nLawMaps ["_law_hand_here", "_law_frame_here", "_law_is_kept"] (defScope s_law_maps) := ⟨rfl, rfl, rfl, by decide +kernel, rfl, by decide +kernel, by decide +kernel⟩
theorem ok_maps {f : Addr} {fd : FuncData} {fcAny : Addr} {fdcAny : FuncData} {fD : Addr} {fdD : FuncData} {fcAnyMap : Addr} {fdcAnyMap : FuncData} {fcKept : Addr} {fdcKept : FuncData} (F : Fun K "_law_maps" "_law_maps" s_law_maps f fd) (T : NmA mg) (cAny : Cl P w K mg base CX0 2 "_law_any" fcAny fdcAny ["_law_hand_here", "_law_things"] (spAny K)) (D : Cl P w K mg base CX0 1 "_law_draw" fD fdD ["_law_hand_here", "_law_many"] spDraw) (cAnyMap : Cl P w K mg base CX0 2 "_law_any_map" fcAnyMap fdcAnyMap ["_law_hand_here", "_law_many"] (spAnyMap K)) (cKept : Cl P w K mg base CX0 2 "_law_kept_map" fcKept fdcKept ["_law_hand_here", "_law_frame_here"] (spKept K)) : FnOk P w K mg base CX0 3 f fd ["_law_hand_here", "_law_frame_here", "_law_is_kept"] (spMaps K) := by
  refine F.ok scLawMaps (fun vs H Q E h => ?_) (fun cdv A' outer s H vs Q E hr h => ?_)
  · obtain ⟨p, q, w, h, cs, b, rfl, _⟩ := h
    rfl
  · obtain ⟨p, q, w, h, cs, b, rfl, hH, hF, ok, k⟩ := h
    have hu := hu_of hr
    refine ⟨_, pss_cons (ps_set (i := 3) scLawMaps.nd rfl (Or.inl rfl) (pe_callB call_len_seq (by rfl) T.len PySem.boot_len (pa_cons (pe_dget hu (pv 1) pe_str (fun _ _ => rfl)) pa_nil)))
      (pss_cons (ps_set (i := 4) scLawMaps.nd rfl (Or.inl rfl) (pe_lst pa_nil))
      (pss_cons (ps_for PassesOwn.never rfl (pi_range1 (by rfl) T.range (pa_cons (cAny.call (hr.mono (by decide)) (pa_cons (pv 0) (pa_cons (pe_lst (pa_cons pe_int (pa_cons pe_int (pa_cons pe_int (pa_cons pe_int (pa_cons pe_int (pa_cons (pe_join (pe_ifExp (pt_cmpR op_eq (D.call (hr.mono (by decide)) (pa_cons (pv 0) (pa_cons pe_int pa_nil))) pe_int (nomark _)) pe_int pe_int)) pa_nil))))))) pa_nil))) pa_nil)) (pg_name (i := 5) scLawMaps.nd rfl (Or.inl rfl))
        (pss_cons (ps_set (i := 6) scLawMaps.nd rfl (Or.inl rfl) (pe_join (pe_and (pe_not (pv 2)) (pe_one (pe_cmpR op_eq (D.call (hr.mono (by decide)) (pa_cons (pv 0) (pa_cons pe_int pa_nil))) pe_int (nomark _))))))
        (pss_one (ps_expr (pe_bm PySem.F.plainAttrs_list PySem.F.slot_list_append PySem.F.type_list_append mt_append (pv 4) (pa_cons (pe_ifExp (pt_val (pv 6)) (cAnyMap.call (hr.mono (by decide)) (pa_cons (pv 0) (pa_cons (pv 3) pa_nil))) (cKept.call (hr.mono (by decide)) (pa_cons (pv 0) (pa_cons (pv 1) pa_nil)))) pa_nil))))))
      (pss_one (ps_ret (pv 4))))), ?_⟩
    obtain ⟨L, vs, hq, hL, hA⟩ := id hF
    have vl := hA.1
    obtain ⟨m1, m12⟩ := ok.many
    refine ⟨_, rfl, q, _, rfl, gt_heights hq, L, _, rfl, .inl (SqL.of hL), ?_⟩
    refine ⟨by show 0 ≤ sizeLine; decide, fun R hR => ?_⟩
    have Rp : R ≠ p := ne_hand hH hR
    refine new_step hR fun H1 s1 e1 => ?_
    have S1 := Stp.of hH s1
    refine ⟨_, rfl, fun v H' => Stp p H1 H' ∧ ∃ n : Int, v = .int n ∧ 1 ≤ n ∧ n ≤ 24, fun Q' kq => ⟨_, rfl, p, 12, rfl, by decide, by decide, S1.hand, fun d H2 _ _ S2 => ⟨rfl, _, rfl, ite2 (fun _ => kq _ _ ⟨S2, 24, rfl, by decide, by decide⟩) (fun _ => kq _ _ ⟨S2, 3, rfl, by decide, by decide⟩)⟩⟩, ?_⟩
    rintro v H2 ⟨S2, n, rfl, n1, n24⟩
    refine ⟨by show 6 ≤ sizeLine; decide, fun M hM => ?_⟩
    refine new_step hM fun H3 s3 e3 => ?_
    have S3 := (S1.trans S2).post s3
    refine ⟨p, M, ([1, 2, 2, 3, 4, n] : List Int).map V.int, rfl, .inl (SqL.of e3), by show 0 < 6; decide, by show 6 < 1073741824; decide, S3.hand, fun j x H4 hx S4 => ?_⟩
    rw [List.getElem?_map] at hx
    obtain ⟨m, hv, rfl⟩ := Option.map_eq_some_iff.mp hx
    have mb : 1 ≤ m ∧ m ≤ 24 := by
      have z := List.mem_of_getElem? hv
      simp at z
      omega
    refine ⟨m, rfl, by omega, by omega, ?_⟩
    have S4' := S3.trans S4
    have e4 := S4.keep _ _ Rp (s3 _ _ (S2.keep _ _ Rp e1))
    refine for_range (lo := 0) (n := m.toNat) (fun i σ H' => (Stp p H H' ∧ ∃ (mws : List V) (Ls : List (List Int)), H' R = some (.lst mws) ∧ AllIn (RowAt K H') mws Ls ∧ LsOk cs.length Ls ∧ Ls.length = i ∧ (b = true → ∀ xs ∈ Ls, Kept w h cs xs)) ∧ ∃ u5 u6 : Option V, σ = [some (.ref p), some (.ref q), some (.bl b), some (.int (vs.length : Nat)), some (.ref R), u5, u6]) ⟨⟨S4', [], [], e4, AllIn.nil, fun x hx => absurd hx List.not_mem_nil, rfl, fun _ x hx => absurd hx List.not_mem_nil⟩, none, none, rfl⟩ ?_ ?_
    · rintro i σ H5 hi ⟨⟨S5, mws, Ls, e5, A5, lsok, ll, kp⟩, u5, u6, rfl⟩
      refine ⟨fun v H' => Stp p H5 H' ∧ ∃ c : Bool, v = .bl c ∧ (b = true → c = false), fun Q' kq => ⟨_, rfl, _, rfl, _, rfl, ite2 (fun nb => ⟨_, rfl, p, 3, rfl, by decide, by decide, S5.hand, fun d H6 _ _ S6 => ⟨rfl, kq _ _ ⟨S6, _, rfl, fun z => by rw [z] at nb; cases nb⟩⟩⟩) (fun _ => kq _ _ ⟨Stp.refl S5.hand, _, rfl, fun _ => rfl⟩)⟩, ?_⟩
      rintro v H6 ⟨S6, c, rfl, cb⟩
      have S56 := S5.trans S6
      have e6 := S6.keep _ _ Rp e5
      have al : mws.length ≤ 24 := by
        rw [A5.1, ll]
        omega
      have fin : ∀ (l : Addr) (xs : List Int) (H7 : Hp), Stp p H6 H7 → SqT K H7 l (xs.map V.int) → LdOk cs.length xs → (b = true → Kept w h cs xs) → H7 R = some (.lst mws) ∧ (Stp p H (upd H7 R (.lst (mws ++ [.ref l]))) ∧ ∃ (mws' : List V) (Ls' : List (List Int)), (upd H7 R (.lst (mws ++ [.ref l]))) R = some (.lst mws') ∧ AllIn (RowAt K (upd H7 R (.lst (mws ++ [.ref l])))) mws' Ls' ∧ LsOk cs.length Ls' ∧ Ls'.length = i + 1 ∧ (b = true → ∀ xs ∈ Ls', Kept w h cs xs)) := fun l xs H7 S7 hl ld kx => by
        have e7 := S7.keep _ _ Rp e6
        refine ⟨e7, (S56.trans S7).mut hH hR, _, Ls ++ [xs], upd_same, ?_, fun x hx => ?_, by rw [List.length_append, ll] <;> rfl, fun z x hx => ?_⟩
        · exact AllIn.snoc (A5.mono fun _ _ z => (RowAt.stp S5.hand (S6.trans S7) z).upd e7) ⟨l, rfl, sqT_updL e7 hl⟩
        · rcases List.mem_append.mp hx with h | h
          · exact lsok x h
          · rw [List.mem_singleton.mp h]
            exact ld
        · rcases List.mem_append.mp hx with h | h
          · exact kp z x h
          · rw [List.mem_singleton.mp h]
            exact kx z
      refine ⟨_, rfl, .inl ⟨rfl, _, SqL.of e6⟩, _, rfl, _, rfl, ite2 (fun cc => ?_) (fun _ => ?_)⟩
      · refine ⟨_, rfl, _, rfl, p, vs.length, rfl, S56.hand, by omega, by omega, fun l xs H7 S7 hl ld => ?_⟩
        rw [vl] at ld
        obtain ⟨f1, f2⟩ := fin l xs H7 S7 hl ld fun z => by rw [cb z] at cc; cases cc
        exact ⟨R, mws, _, rfl, rfl, f1, by rw [sizeLine_eq]; omega, f2, _, _, rfl⟩
      · refine ⟨_, rfl, _, rfl, p, q, w, h, cs, rfl, S56.hand, FrmAt.stp hH S56 hF, ok, fun l xs H7 S7 hl ld kx => ?_⟩
        obtain ⟨f1, f2⟩ := fin l xs H7 S7 hl ld fun _ => kx
        exact ⟨R, mws, _, rfl, rfl, f1, by rw [sizeLine_eq]; omega, f2, _, _, rfl⟩
    · rintro σ H5 ⟨⟨S5, mws, Ls, e5, A5, lsok, ll, kp⟩, u5, u6, rfl⟩
      exact ⟨_, rfl, k R mws Ls H5 S5 e5 A5 lsok (by omega) (by omega) kp⟩
end
end Law

namespace Law
open PySem L2
def PrIn (n : Nat) (cs : List (List Int)) : Prop := ∀ c ∈ cs, ∃ a b : Int, c = [a, b] ∧ InN n [a, b]
theorem PrIn.prs {n : Nat} {cs : List (List Int)} (h : PrIn n cs) : Prs cs := fun c hc => by
  obtain ⟨a, b, e, _⟩ := h c hc
  exact ⟨a, b, e⟩
theorem PrIn.len {n : Nat} {cs : List (List Int)} (h : PrIn n cs) (nd : cs.Nodup) : cs.length ≤ n * n := by
  rw [← grid_len n n]
  refine List.Nodup.length_le_of_subset nd fun c hc => ?_
  obtain ⟨a, b, rfl, i⟩ := h c hc
  exact allP_mem i
def offP (n : Nat) : List (List Int) := (allP n).filter fun c => !(c.getD 0 0 == c.getD 1 0)
theorem offP_few {n : Nat} (h : n ≤ 12) : (offP n).length ≤ 132 := by
  have z : (List.range 13).all (fun n => decide ((offP n).length ≤ 132)) = true := by decide +kernel
  rw [List.all_eq_true] at z
  exact of_decide_eq_true (z n (List.mem_range.mpr (by omega)))
/-- pairs that go one way are few -/
theorem few66 {n : Nat} {cs : List (List Int)} (m12 : n ≤ 12) (h : PrIn n cs) (nd : cs.Nodup) (one : ∀ a b : Int, [a, b] ∈ cs → a ≠ b ∧ [b, a] ∉ cs) : cs.length ≤ 66 := by
  have rv : ∀ a b : Int, [a, b] ∈ cs.map (fun c => [c.getD 1 0, c.getD 0 0]) → [b, a] ∈ cs := fun a b hm => by
    obtain ⟨c, hc, e⟩ := List.mem_map.mp hm
    obtain ⟨x, y, rfl, _⟩ := h c hc
    have e : [y, x] = [a, b] := e
    cases e
    exact hc
  have nd2 : (cs.map fun c => [c.getD 1 0, c.getD 0 0]).Nodup := by
    rw [List.nodup_iff_pairwise_ne, List.pairwise_map]
    refine List.Pairwise.imp_of_mem (fun {c d} hc hd n e => n ?_) (List.nodup_iff_pairwise_ne.mp nd)
    obtain ⟨x, y, rfl, _⟩ := h c hc
    obtain ⟨x', y', rfl, _⟩ := h d hd
    have e : [y, x] = [y', x'] := e
    cases e
    rfl
  have all : (cs ++ cs.map fun c => [c.getD 1 0, c.getD 0 0]).Nodup := by
    rw [List.nodup_append]
    refine ⟨nd, nd2, fun c hc d hd e => ?_⟩
    subst e
    obtain ⟨x, y, rfl, _⟩ := h c hc
    exact (one x y hc).2 (rv x y hd)
  have sub : ∀ c ∈ cs ++ cs.map (fun c => [c.getD 1 0, c.getD 0 0]), c ∈ offP n := fun c hc => by
    rcases List.mem_append.mp hc with hc | hc
    · obtain ⟨x, y, rfl, i⟩ := h c hc
      refine List.mem_filter.mpr ⟨allP_mem i, ?_⟩
      have := (one x y hc).1
      show (!(x == y)) = true
      rw [beq_eq_false_iff_ne.mpr this] <;> rfl
    · obtain ⟨d, hd, rfl⟩ := List.mem_map.mp hc
      obtain ⟨x, y, rfl, i⟩ := h d hd
      have := (one x y hd).1
      refine List.mem_filter.mpr ⟨allP_mem (a := y) (b := x) fun z hz => ?_, ?_⟩
      · rcases List.mem_cons.mp hz with rfl | hz
        · exact i _ (by simp)
        · rw [List.mem_singleton.mp hz]
          exact i _ (by simp)
      · show (!(y == x)) = true
        rw [beq_eq_false_iff_ne.mpr (Ne.symm this)] <;> rfl
  have l := Nat.le_trans (List.Nodup.length_le_of_subset all sub) (offP_few m12)
  rw [List.length_append, List.length_map] at l
  omega
theorem lexL_nd {cs : List (List Int)} (h : cs.Pairwise lexL) : cs.Nodup := h.imp fun {a b} l e => by
  rw [e] at l
  exact lexL_irr _ l
def movR (ds : List (List Int)) (xs : List Int) : List (List Int) := (ds.filter fun d => !(stepS xs (d.getD 0 0) == stepS xs (d.getD 1 0))).map (ledP xs)
def movF (Ls ds : List (List Int)) (i : Nat) : List (List Int) := (Ls.take i).flatMap (movR ds)
theorem movF_snoc {Ls ds : List (List Int)} {i : Nat} {xs : List Int} (h : Ls[i]? = some xs) : movF Ls ds (i + 1) = movF Ls ds i ++ movR ds xs := by
  unfold movF
  rw [List.take_add_one, h, List.flatMap_append]
  show _ ++ List.flatMap _ [xs] = _
  rw [List.flatMap_singleton]
def movJ (ds : List (List Int)) (xs : List Int) (j : Nat) : List (List Int) := movR (ds.take j) xs
theorem movJ_snoc {ds : List (List Int)} {xs d : List Int} {j : Nat} (h : ds[j]? = some d) : movJ ds xs (j + 1) = if (!(stepS xs (d.getD 0 0) == stepS xs (d.getD 1 0))) = true then movJ ds xs j ++ [ledP xs d] else movJ ds xs j := by
  unfold movJ movR
  rw [List.take_add_one, h, List.filter_append, List.map_append]
  show _ ++ List.map _ (List.filter _ [d]) = _
  rw [List.filter_cons, List.filter_nil]
  by_cases z : (!(stepS xs (d.getD 0 0) == stepS xs (d.getD 1 0))) = true
  · rw [if_pos z, if_pos z] <;> rfl
  · rw [if_neg z, if_neg z, List.map_nil, List.append_nil]
theorem movJ_len (ds : List (List Int)) (xs : List Int) (j : Nat) : (movJ ds xs j).length ≤ j := by
  unfold movJ movR
  rw [List.length_map]
  refine Nat.le_trans (List.length_filter_le _ _) ?_
  rw [List.length_take]
  exact Nat.min_le_left _ _
theorem movF_len {Ls ds : List (List Int)} : ∀ i, (movF Ls ds i).length ≤ i * ds.length
  | 0 => Nat.zero_le _
  | i + 1 => by
    have ih := movF_len (Ls := Ls) (ds := ds) i
    cases h : Ls[i]? with
    | none =>
      have e : movF Ls ds (i + 1) = movF Ls ds i := by
        unfold movF
        rw [List.take_add_one, h]
        show List.flatMap _ (_ ++ []) = _
        rw [List.append_nil]
      rw [e, Nat.add_mul]
      omega
    | some xs =>
      rw [movF_snoc h, List.length_append, Nat.add_mul]
      have := movJ_len ds xs ds.length
      unfold movJ at this
      rw [List.take_length] at this
      omega
theorem mov_in {n : Nat} {Ls ds : List (List Int)} (hL : LsOk n Ls) (h : PrIn n ds) (i : Nat) : PrIn n (movF Ls ds i) := fun c hc => by
  unfold movF at hc
  obtain ⟨xs, hxs, hc⟩ := List.mem_flatMap.mp hc
  obtain ⟨d, hd, rfl⟩ := List.mem_map.mp hc
  obtain ⟨a, b, rfl, k⟩ := h d (List.mem_filter.mp hd).1
  have ok := hL xs (List.mem_of_mem_take hxs)
  have s1 := stepS_in ok (k a (by simp))
  have s2 := stepS_in ok (k b (by simp))
  refine ⟨_, _, rfl, fun z hz => ?_⟩
  rcases List.mem_cons.mp hz with rfl | hz
  · exact s1
  · rw [List.mem_singleton.mp hz]
    exact s2
theorem mov_mem {Ls ds : List (List Int)} {x y : Int} (hp : Prs ds) : [x, y] ∈ movF Ls ds Ls.length ↔ ∃ xs ∈ Ls, ∃ a b : Int, [a, b] ∈ ds ∧ stepS xs a ≠ stepS xs b ∧ x = stepS xs a ∧ y = stepS xs b := by
  unfold movF
  rw [List.take_length, List.mem_flatMap]
  constructor
  · rintro ⟨xs, hxs, h⟩
    obtain ⟨d, hd, e⟩ := List.mem_map.mp h
    obtain ⟨hd, hne⟩ := List.mem_filter.mp hd
    obtain ⟨a, b, rfl⟩ := hp d hd
    have e : [stepS xs a, stepS xs b] = [x, y] := e
    cases e
    have hne : (!(stepS xs a == stepS xs b)) = true := hne
    exact ⟨xs, hxs, a, b, hd, (fun z => by rw [z, beq_self_eq_true] at hne; cases hne), rfl, rfl⟩
  · rintro ⟨xs, hxs, a, b, hd, ne, rfl, rfl⟩
    refine ⟨xs, hxs, List.mem_map.mpr ⟨[a, b], List.mem_filter.mpr ⟨hd, ?_⟩, rfl⟩⟩
    show (!(stepS xs a == stepS xs b)) = true
    rw [beq_eq_false_iff_ne.mpr ne] <;> rfl
theorem Tr.tc {Ls B cs : List (List Int)} (h : ∀ a b : Int, [a, b] ∈ cs → Tc Ls B a b) {x y : Int} (t : Tr cs x y) : Tc Ls B x y := by
  induction t with
  | base m => exact h _ _ m
  | trans _ _ h1 h2 => exact h1.trans h2
/-- one round: closed, led on, closed again -/
structure Rnd (Ls B F ds es : List (List Int)) : Prop where
  d : ∀ x y : Int, [x, y] ∈ ds ↔ Tr F x y
  e : ∀ x y : Int, [x, y] ∈ es ↔ Tr (ds ++ movF Ls ds Ls.length) x y
  pd : Prs ds
theorem Rnd.tc {Ls B F ds es : List (List Int)} (r : Rnd Ls B F ds es) (hF : ∀ a b : Int, [a, b] ∈ F → Tc Ls B a b) : ∀ a b : Int, [a, b] ∈ es → Tc Ls B a b := fun a b h => by
  have hd : ∀ a b : Int, [a, b] ∈ ds → Tc Ls B a b := fun a b h => Tr.tc hF ((r.d a b).mp h)
  refine Tr.tc (fun a b h => ?_) ((r.e a b).mp h)
  rcases List.mem_append.mp h with h | h
  · exact hd a b h
  · obtain ⟨xs, hxs, s, t, hst, ne, rfl, rfl⟩ := (mov_mem r.pd).mp h
    exact (hd s t hst).step hxs ne
theorem Rnd.grow {Ls B F ds es : List (List Int)} (r : Rnd Ls B F ds es) {a b : Int} (h : [a, b] ∈ F) : [a, b] ∈ es :=
  (r.e a b).mpr (.base (List.mem_append_left _ ((r.d a b).mpr (.base h))))
theorem Rnd.trans {Ls B F ds es : List (List Int)} (r : Rnd Ls B F ds es) {a b c : Int} (h : [a, b] ∈ es) (g : [b, c] ∈ es) : [a, c] ∈ es :=
  (r.e a c).mpr (.trans ((r.e a b).mp h) ((r.e b c).mp g))
theorem Rnd.done {Ls B F ds es : List (List Int)} (r : Rnd Ls B F ds es) (hB : ∀ a b : Int, [a, b] ∈ B → [a, b] ∈ F) (same : ∀ c, c ∈ es ↔ c ∈ F) {a b : Int} (t : Tc Ls B a b) : [a, b] ∈ es := by
  induction t with
  | base m => exact r.grow (hB _ _ m)
  | step _ hxs ne ih =>
    have h1 := (r.d _ _).mpr (Tr.base ((same _).mp ih))
    exact (r.e _ _).mpr (.base (List.mem_append_right _ ((mov_mem r.pd).mpr ⟨_, hxs, _, _, h1, ne, rfl, rfl⟩)))
  | trans _ _ h1 h2 => exact r.trans h1 h2
end Law
namespace Law
open PySem L2
theorem fl_len (f : Int → Bool) (g : Int → List Int) (j : Nat) : (((upto j).filter f).map g).length ≤ j := by
  rw [List.length_map]
  exact Nat.le_trans (List.length_filter_le _ _) (Nat.le_of_eq (upto_len j))
structure LI (H : Hp) (fl : Addr) (many : Nat) (Ls B : List (List Int)) (i : Nat) (F : List (List Int)) (H' : Hp) : Prop where
  same : Same H H'
  lst : ∃ acc, H' fl = some (.lst acc) ∧ AllIn (RowE H') acc F
  few : F.length ≤ 70
  inn : PrIn many F
  tc : ∀ a b : Int, [a, b] ∈ F → Tc Ls B a b
  bs : ∀ a b : Int, [a, b] ∈ B → [a, b] ∈ F
  cnt : ∃ G : List (List Int), G.Nodup ∧ i ≤ G.length ∧ ∀ c ∈ G, c ∈ F
def eqB (c : List Int) : Bool := c.getD 0 0 == c.getD 1 0
section
variable {P : Program} {w : World} {K : PySem.W.Frag} {mg : Str → Option Value} {base : Heap}
def spLLeast (K : PySem.W.Frag) : Sp := fun vs H Q _ => ∃ (many : Nat) (mp : Addr) (mws : List V) (Ls : List (List Int)) (lo hi : Int), vs = [.int (many : Nat), .ref mp, .int lo, .int hi] ∧ many ≤ 12 ∧ SqL K H mp mws ∧ AllIn (RowAt K H) mws Ls ∧ LsOk many Ls ∧ Ls.length ≤ 24 ∧ 0 ≤ lo ∧ lo < (many : Int) ∧ 0 ≤ hi ∧ hi < (many : Int) ∧
  ∀ (x : V) (r : Option (List (List Int))) (H' : Hp), Same H H' → LeastR Ls (iniF many lo hi) r → LstV K H' x r → Q x H'
abbrev nLawLeastOrder : List Str := ["_law_many", "_law_maps_here", "_law_low_here", "_law_high", "_law_found", "_law_turn", "_law_later", "_law_more", "_law_leads", "_law_s", "_law_t"]
theorem scLawLeastOrder : FnScope nLawLeastOrder ["_law_many", "_law_maps_here", "_law_low_here", "_law_high"] (defScope s_law_least_order) := ⟨rfl, rfl, rfl, by decide +kernel, rfl, by decide +kernel, by decide +kernel⟩
theorem ok_lleast {f : Addr} {fd : FuncData} {fcLClosed : Addr} {fdcLClosed : FuncData} (F : Fun K "_law_least_order" "_law_least_order" s_law_least_order f fd) (T : NmA mg) (cLClosed : Cl P w K mg base CX0 1 "_law_closed" fcLClosed fdcLClosed ["_law_many", "_law_pairs"] (spLClosed K)) : FnOk P w K mg base CX0 2 f fd ["_law_many", "_law_maps_here", "_law_low_here", "_law_high"] (spLLeast K) := by
  refine F.ok scLawLeastOrder (fun vs H Q E h => ?_) (fun cdv A' outer s H vs Q E hr h => ?_)
  · obtain ⟨many, mp, mws, Ls, lo, hi, rfl, _⟩ := h
    rfl
  · obtain ⟨many, mp, mws, Ls, lo, hi, rfl, m12, hM0, hA, lsok, l24, l0, l1, h0, h1, k⟩ := h
    have hu := hu_of hr
    refine ⟨_, pss_cons (ps_set (i := 4) scLawLeastOrder.nd rfl (Or.inl rfl) (pe_op op_cat (pe_lc (own := [("_law_s", 9)]) (g := (gName 9)) (tt := _) rfl scLawLeastOrder.nd  (pi_range1 (by rfl) T.range (pa_cons (pv 0) pa_nil)) (blkOk_by (own := [("_law_s", 9)]) (N := nLawLeastOrder) (sc := defScope s_law_least_order) (by decide +kernel)) (fun _ _ _ _ _ => (pg_name (i := 9) scLawLeastOrder.nd rfl (Or.inl rfl))) (fun _ _ _ _ _ => (pts_one (pt_cmpR op_ne (pv 9) (pv 2) (nomark _)))) (fun _ _ _ _ _ => (pe_tup (pa_cons (pv 2) (pa_cons (pv 9) pa_nil))))) (pe_lc (own := [("_law_s", 9)]) (g := (gName 9)) (tt := _) rfl scLawLeastOrder.nd  (pi_range1 (by rfl) T.range (pa_cons (pv 0) pa_nil)) (blkOk_by (own := [("_law_s", 9)]) (N := nLawLeastOrder) (sc := defScope s_law_least_order) (by decide +kernel)) (fun _ _ _ _ _ => (pg_name (i := 9) scLawLeastOrder.nd rfl (Or.inl rfl))) (fun _ _ _ _ _ => (pts_one (pt_cmpR op_ne (pv 9) (pv 3) (nomark _)))) (fun _ _ _ _ _ => (pe_tup (pa_cons (pv 9) (pa_cons (pv 3) pa_nil)))))))
      (pss_cons (ps_for PassesOwn.never rfl (pi_range1 (by rfl) T.range (pa_cons (pe_op op_add (pe_op op_mul (pv 0) (pv 0)) pe_int) pa_nil)) (pg_name (i := 5) scLawLeastOrder.nd rfl (Or.inl rfl))
        (pss_cons (ps_set (i := 6) scLawLeastOrder.nd rfl (Or.inl rfl) (cLClosed.call (hr.mono (by decide)) (pa_cons (pv 0) (pa_cons (pv 4) pa_nil))))
        (pss_cons (ps_set (i := 7) scLawLeastOrder.nd rfl (Or.inl rfl) (pe_lst pa_nil))
        (pss_cons (ps_for PassesOwn.never rfl (pi_list (pv 1)) (pg_name (i := 8) scLawLeastOrder.nd rfl (Or.inr rfl))
          (pss_one (ps_expr (pe_bm PySem.F.plainAttrs_list PySem.F.slot_list_extend PySem.F.type_list_extend mt_extend (pv 7) (pa_cons (pe_lc (own := [("_law_s", 9), ("_law_t", 10)]) (g := (gTup K 2 (gCons (gName 9) (gCons (gName 10) gNil)))) (tt := _) rfl scLawLeastOrder.nd  (pi_list (pv 6)) (blkOk_by (own := [("_law_s", 9), ("_law_t", 10)]) (N := nLawLeastOrder) (sc := defScope s_law_least_order) (by decide +kernel)) (fun _ _ _ _ _ => (pg_tup (by rfl) (pgs_cons (pg_name (i := 9) scLawLeastOrder.nd rfl (Or.inl rfl)) (pgs_cons (pg_name (i := 10) scLawLeastOrder.nd rfl (Or.inl rfl)) pgs_nil)))) (fun _ _ _ _ _ => (pts_one (pt_cmpR op_ne (pe_ix (r := rIxT K) (show IxR _ (rIxT K) from ix_tup) (pv 8) (pv 9) (fun _ _ => rfl)) (pe_ix (r := rIxT K) (show IxR _ (rIxT K) from ix_tup) (pv 8) (pv 10) (fun _ _ => rfl)) (nomark _)))) (fun _ _ _ _ _ => (pe_tup (pa_cons (pe_ix (r := rIxT K) (show IxR _ (rIxT K) from ix_tup) (pv 8) (pv 9) (fun _ _ => rfl)) (pa_cons (pe_ix (r := rIxT K) (show IxR _ (rIxT K) from ix_tup) (pv 8) (pv 10) (fun _ _ => rfl)) pa_nil))))) pa_nil)))))
        (pss_cons (ps_set (i := 6) scLawLeastOrder.nd rfl (Or.inl rfl) (cLClosed.call (hr.mono (by decide)) (pa_cons (pv 0) (pa_cons (pe_op op_cat (pv 6) (pv 7)) pa_nil))))
        (pss_cons (ps_if (pt_val (pe_callB (cr_any rfl) (by rfl) T.any (by decide +kernel) (pa_cons (pe_lc (own := [("_law_s", 9), ("_law_t", 10)]) (g := (gTup K 2 (gCons (gName 9) (gCons (gName 10) gNil)))) (tt := tYes) rfl scLawLeastOrder.nd  (pi_list (pv 6)) (blkOk_by (own := [("_law_s", 9), ("_law_t", 10)]) (N := nLawLeastOrder) (sc := defScope s_law_least_order) (by decide +kernel)) (fun _ _ _ _ _ => (pg_tup (by rfl) (pgs_cons (pg_name (i := 9) scLawLeastOrder.nd rfl (Or.inl rfl)) (pgs_cons (pg_name (i := 10) scLawLeastOrder.nd rfl (Or.inl rfl)) pgs_nil)))) (fun _ _ _ _ _ => pts_nil) (fun _ _ _ _ _ => (pe_cmpR op_eq (pv 9) (pv 10) (nomark _)))) pa_nil)))
          (pss_one (ps_ret pe_non)) pss_nil)
        (pss_cons (ps_if (pt_cmpR (op_eqD hr.units) (pv 6) (pe_sortSetL rfl (units65 hr) (by rfl) T.set (by rfl) T.sorted (pv 4)) (nomark _))
          (pss_one (ps_ret (pe_callTy call_tuple_of (by rfl) T.tuple (by decide +kernel) (pa_cons (pv 6) pa_nil)))) pss_nil)
        (pss_one (ps_set (i := 4) scLawLeastOrder.nd rfl (Or.inl rfl) (pv 6))))))))))
      (pss_one (ps_ret pe_non))), ?_⟩
    have tn : (many : Int).toNat = many := Int.toNat_natCast many
    refine ⟨_, rfl, (many : Int), rfl, by omega, by omega, fun D hD => ?_⟩
    rw [tn]
    refine lc_range (lo := 0) (n := many) (fun j H2 => Same H H2 ∧ ∃ acc, H2 D = some (.lst acc) ∧ AllIn (RowE H2) acc (iL lo j)) ⟨Same.new hD, [], upd_same, AllIn.nil⟩ (fun j H2 hj g => ?_) fun H2 g => ?_
    · obtain ⟨s2, acc, d2, A2⟩ := g
      rw [Int.zero_add]
      have al : acc.length ≤ j := by rw [A2.1]; exact fl_len _ _ _
      refine ⟨rfl, _, rfl, _, rfl, rfl, _, rfl, ?_⟩
      rw [dec_int, iL_snoc]
      refine ite2 (fun h => ?_) (fun h => ?_)
      · rw [if_pos h]
        refine ⟨_, rfl, _, rfl, by show 2 ≤ sizeLine; decide, fun t ht => ?_⟩
        refine new_step ht fun H3 s3 e3 => ?_
        have d3 := s3 _ _ d2
        exact ⟨_, d3, by rw [sizeLine_eq]; omega, (s2.trans s3).mut hD, _, upd_same, AllIn.snoc (A2.mono fun _ _ z => RowE.updN d3 (RowE.same s3 z)) (RowE.updN d3 ⟨t, rfl, e3⟩)⟩
      · rw [if_neg h]
        exact ⟨s2, acc, d2, A2⟩
    obtain ⟨s2, acc, d2, A2⟩ := g
    refine ⟨_, rfl, (many : Int), rfl, by omega, by omega, fun D2 hD2 => ?_⟩
    rw [tn]
    refine lc_range (lo := 0) (n := many) (fun j H3 => Same H2 H3 ∧ ∃ acc, H3 D2 = some (.lst acc) ∧ AllIn (RowE H3) acc (iH hi j)) ⟨Same.new hD2, [], upd_same, AllIn.nil⟩ (fun j H3 hj g => ?_) fun H3 g => ?_
    · obtain ⟨s3, ac2, d3, A3⟩ := g
      rw [Int.zero_add]
      have al : ac2.length ≤ j := by rw [A3.1]; exact fl_len _ _ _
      refine ⟨rfl, _, rfl, _, rfl, rfl, _, rfl, ?_⟩
      rw [dec_int, iH_snoc]
      refine ite2 (fun h => ?_) (fun h => ?_)
      · rw [if_pos h]
        refine ⟨_, rfl, _, rfl, by show 2 ≤ sizeLine; decide, fun t ht => ?_⟩
        refine new_step ht fun H4 s4 e4 => ?_
        have d4 := s4 _ _ d3
        exact ⟨_, d4, by rw [sizeLine_eq]; omega, (s3.trans s4).mut hD2, _, upd_same, AllIn.snoc (A3.mono fun _ _ z => RowE.updN d4 (RowE.same s4 z)) (RowE.updN d4 ⟨t, rfl, e4⟩)⟩
      · rw [if_neg h]
        exact ⟨s3, ac2, d3, A3⟩
    obtain ⟨s3, ac2, d3, A3⟩ := g
    have al1 : acc.length ≤ many := by rw [A2.1]; exact fl_len _ _ _
    have al2 : ac2.length ≤ many := by rw [A3.1]; exact fl_len _ _ _
    refine ⟨D, D2, acc, ac2, rfl, rfl, s3 _ _ d2, d3, by rw [sizeLine_eq]; omega, fun L hL => ?_⟩
    refine new_step hL fun H4 s4 e4 => ?_
    have B1 := ini_in ⟨l0, l1⟩ ⟨h0, h1⟩
    have A4 : AllIn (RowE H4) (acc ++ ac2) (iniF many lo hi) := AllIn.app (A2.mono fun _ _ z => RowE.same (s3.trans s4) z) (A3.mono fun _ _ z => RowE.same s4 z)
    have I0 : LI H L many Ls (iniF many lo hi) 0 (iniF many lo hi) H4 := {
      same := (s2.trans s3).trans s4
      lst := ⟨_, e4, A4⟩
      few := by rw [← A4.1, List.length_append]; omega
      inn := fun c hc => by
        obtain ⟨a, b, e, _, i⟩ := B1 c hc
        exact ⟨a, b, e, i⟩
      tc := fun a b h => .base h
      bs := fun a b h => h
      cnt := ⟨[], List.nodup_nil, Nat.le_refl _, fun c hc => absurd hc List.not_mem_nil⟩ }
    generalize iniF many lo hi = B at B1 I0 k ⊢
    have mm : (many : Int) * (many : Int) ≤ 144 := by
      have := Int.mul_le_mul (show (many : Int) ≤ 12 by omega) (show (many : Int) ≤ 12 by omega) (by omega) (by decide)
      omega
    have mm0 : 0 ≤ (many : Int) * (many : Int) := Int.mul_nonneg (by omega) (by omega)
    refine ⟨_, rfl, _, rfl, _, _, rfl, rfl, .inl ⟨by omega, by omega⟩, _, _, rfl, rfl, _, rfl, by omega, by omega, ?_⟩
    refine for_range (lo := 0) (n := ((many : Int) * (many : Int) + 2).toNat) (fun i σ H' => ∃ (fl : Addr) (F : List (List Int)), LI H fl many Ls B i F H' ∧ ∃ u5 u6 u7 u8 u9 u10 : Option V, σ = [some (.int (many : Int)), some (.ref mp), some (.int lo), some (.int hi), some (.ref fl), u5, u6, u7, u8, u9, u10]) ⟨L, _, I0, none, none, none, none, none, none, rfl⟩ ?_ ?_
    · rintro i σ H5 hi5 ⟨fl, F, I, u5, u6, u7, u8, u9, u10, rfl⟩
      obtain ⟨fs0, hf, hF⟩ := I.lst
      have F70 := I.few
      refine ⟨_, rfl, _, rfl, many, fl, fs0, F, rfl, m12, SqL.of hf, hF, by omega, I.inn, fun D ys ds H6 s6 hD6 A6 pw6 in6 tr6 => ?_⟩
      have dl : ds.length ≤ 144 := Nat.le_trans (PrIn.len in6 (lexL_nd pw6)) (Nat.mul_le_mul m12 m12)
      refine ⟨by show 0 ≤ sizeLine; decide, fun M hM => ?_⟩
      refine new_step hM fun H7 s7 e7 => ?_
      have s07 := I.same.trans (s6.trans s7)
      refine ⟨_, rfl, mp, rfl, ⟨_, s07.sqL hM0⟩, ?_⟩
      refine for_list (K := K) (a := mp) (xs := mws) (fun j σ H' => (Same H6 H' ∧ ∃ ms, H' M = some (.lst ms) ∧ AllIn (RowE H') ms (movF Ls ds j)) ∧ ∃ u8 u9 u10 : Option V, σ = [some (.int (many : Int)), some (.ref mp), some (.int lo), some (.int hi), some (.ref fl), some (.int ((0 : Int) + (i : Nat))), some (.ref D), some (.ref M), u8, u9, u10]) ⟨⟨s7, [], e7, AllIn.nil⟩, _, _, _, rfl⟩ (fun j σ H' _ h => (I.same.trans (s6.trans h.1.1)).sqL hM0) ?_ ?_
      · rintro j x σ H8 hj ⟨⟨s8, ms, e8, A8⟩, u8, u9, u10, rfl⟩
        obtain ⟨xs, hxs, la, rfl, hla⟩ := hA.2 j x hj
        have ld := lsok xs (List.mem_of_getElem? hxs)
        have s08 := I.same.trans (s6.trans s8)
        have jl := (List.getElem?_eq_some_iff.mp hxs).1
        refine ⟨_, rfl, .inl ⟨rfl, _, SqL.of e8⟩, _, rfl, D, rfl, ⟨_, SqL.of (s8 _ _ hD6)⟩, fun E hE => ?_⟩
        refine lc_list (K := K) (a := D) (xs := ys) (fun t H' => Same H8 H' ∧ ∃ ac2, H' E = some (.lst ac2) ∧ AllIn (RowE H') ac2 (movJ ds xs t)) ⟨Same.new hE, [], upd_same, AllIn.nil⟩ (fun t H' _ h => SqL.of (h.1 _ _ (s8 _ _ hD6))) (fun t y H9 hy g => ?_) fun H9 g => ?_
        · obtain ⟨s9, ac2, e9, A9⟩ := g
          obtain ⟨c, hc, a, rfl, ha⟩ := A6.2 t y hy
          obtain ⟨c0, c1, rfl, cN⟩ := in6 c (List.mem_of_getElem? hc)
          have n0 := cN c0 List.mem_cons_self
          have n1 := cN c1 (by simp)
          have s09 := s08.trans s9
          have tl := (List.getElem?_eq_some_iff.mp hc).1
          have al : ac2.length ≤ 144 := by
            rw [A9.1]
            have := movJ_len ds xs t
            omega
          refine ⟨a, _, rfl, SqT.of ((s8.trans s9) _ _ ha), rfl, _, _, rfl, _, _, rfl, rfl, ?_⟩
          refine ⟨rfl, _, rfl, _, rfl, la, _, c0, _, rfl, rfl, s09.sqT hla, step_at ld n0, _, rfl, _, rfl, la, _, c1, _, rfl, rfl, s09.sqT hla, step_at ld n1, rfl, _, rfl, ?_⟩
          rw [dec_int, movJ_snoc hc]
          refine ite2 (fun h => ?_) (fun h => ?_)
          · have h' : (!(stepS xs (([c0, c1] : List Int).getD 0 0) == stepS xs (([c0, c1] : List Int).getD 1 0))) = true := h
            rw [if_pos h']
            refine ⟨_, rfl, _, rfl, la, _, c0, _, rfl, rfl, s09.sqT hla, step_at ld n0, _, rfl, _, rfl, la, _, c1, _, rfl, rfl, s09.sqT hla, step_at ld n1, by show 2 ≤ sizeLine; decide, fun p hp => ?_⟩
            refine new_step hp fun H10 s10 e10 => ?_
            have e9' := s10 _ _ e9
            exact ⟨_, e9', by rw [sizeLine_eq]; omega, (s9.trans s10).mut hE, _, upd_same, AllIn.snoc (A9.mono fun _ _ z => RowE.updN e9' (RowE.same s10 z)) (RowE.updN e9' ⟨p, rfl, e10⟩)⟩
          · have h' : ¬ (!(stepS xs (([c0, c1] : List Int).getD 0 0) == stepS xs (([c0, c1] : List Int).getD 1 0))) = true := h
            rw [if_neg h']
            exact ⟨s9, ac2, e9, A9⟩
        · obtain ⟨s9, ac2, e9, A9⟩ := g
          have e8' := s9 _ _ e8
          have ml : ms.length ≤ 3456 := by
            rw [A8.1]
            have := movF_len (Ls := Ls) (ds := ds) j
            have := Nat.mul_le_mul (show j ≤ 24 by omega) dl
            omega
          have al : ac2.length ≤ 144 := by
            rw [A9.1]
            have := movJ_len ds xs ys.length
            have := A6.1
            omega
          refine ⟨M, E, ms, ac2, rfl, rfl, e8', e9, by rw [sizeLine_eq]; omega, ⟨(s8.trans s9).mut hM, _, upd_same, ?_⟩, _, _, _, rfl⟩
          have ej : movJ ds xs ys.length = movR ds xs := by
            unfold movJ
            rw [A6.1, List.take_length]
          rw [ej] at A9
          rw [movF_snoc hxs]
          exact AllIn.app (A8.mono fun _ _ z => RowE.updN e8' (RowE.same s9 z)) (A9.mono fun _ _ z => RowE.updN e8' z)
      · rintro σ H8 ⟨⟨s8, ms, e8, A8⟩, u8, u9, u10, rfl⟩
        rw [hA.1] at A8
        have ml : ms.length ≤ 3456 := by
          rw [A8.1]
          have := movF_len (Ls := Ls) (ds := ds) Ls.length
          have := Nat.mul_le_mul (show Ls.length ≤ 24 by omega) dl
          omega
        have yl := A6.1
        refine ⟨_, rfl, _, rfl, _, rfl, D, M, ys, ms, rfl, rfl, s8 _ _ hD6, e8, by rw [sizeLine_eq]; omega, fun C hC => ?_⟩
        refine new_step hC fun H9 s9 e9 => ?_
        have A9 : AllIn (RowE H9) (ys ++ ms) (ds ++ movF Ls ds Ls.length) := AllIn.app (A6.mono fun _ _ z => RowE.same (s8.trans s9) z) (A8.mono fun _ _ z => RowE.same s9 z)
        refine ⟨many, C, _, ds ++ movF Ls ds Ls.length, rfl, m12, SqL.of e9, A9, by rw [← A9.1, List.length_append]; omega, fun c hc => ?_, fun D2 zs es H10 s10 hD2 A10 pw10 in10 tr10 => ?_⟩
        · rcases List.mem_append.mp hc with h | h
          · exact in6 c h
          · exact mov_in lsok in6 _ c h
        have Rd : Rnd Ls B F ds es := ⟨tr6, tr10, PrIn.prs in6⟩
        have etc := Rd.tc I.tc
        have s510 := s6.trans (s8.trans (s9.trans s10))
        have S10 := I.same.trans s510
        refine ⟨_, rfl, D2, rfl, ⟨_, SqL.of hD2⟩, fun E hE => ?_⟩
        refine lc_list (K := K) (a := D2) (xs := zs) (fun t H' => Same H10 H' ∧ H' E = some (.lst (((es.map eqB).take t).map V.bl))) ⟨Same.new hE, upd_same⟩ (fun t H' _ h => SqL.of (h.1 _ _ hD2)) (fun t y H11 hy g => ?_) fun H11 g => ?_
        · obtain ⟨s11, e11⟩ := g
          obtain ⟨c, hc, a, rfl, ha⟩ := A10.2 t y hy
          obtain ⟨c0, c1, rfl, cN⟩ := in10 c (List.mem_of_getElem? hc)
          have tl := (List.getElem?_eq_some_iff.mp hc).1
          have el : es.length ≤ 144 := Nat.le_trans (PrIn.len in10 (lexL_nd pw10)) (Nat.mul_le_mul m12 m12)
          refine ⟨a, _, rfl, SqT.of (s11 _ _ ha), rfl, _, _, rfl, _, _, rfl, rfl, ?_⟩
          refine ⟨rfl, _, rfl, _, rfl, rfl, ?_⟩
          rw [dec_int]
          refine ⟨_, e11, ?_, s11.mut hE, ?_⟩
          · rw [List.length_map, List.length_take, List.length_map, sizeLine_eq]
            omega
          · have e : (es.map eqB)[t]? = some (c0 == c1) := by rw [List.getElem?_map, hc] <;> rfl
            rw [upd_same, List.take_add_one (i := t), e, List.map_append] <;> rfl
        obtain ⟨s11, e11⟩ := g
        rw [List.take_of_length_le (by rw [List.length_map, A10.1]; exact Nat.le_refl _)] at e11
        refine ⟨E, _, rfl, SqL.of e11, _, rfl, ?_⟩
        refine ite2 (fun h => ?_) (fun h => ?_)
        · rw [List.any_map, List.any_eq_true] at h
          obtain ⟨c, hc, e⟩ := h
          obtain ⟨c0, c1, rfl, _⟩ := in10 c hc
          have e : (c0 == c1) = true := e
          have e := eq_of_beq e
          subst e
          exact k .non none H11 (S10.trans s11) ⟨c0, etc _ _ hc⟩ rfl
        have irr : ∀ a b : Int, [a, b] ∈ es → a ≠ b := fun a b hm e => by
          refine h ?_
          rw [List.any_map, List.any_eq_true]
          refine ⟨[a, b], hm, ?_⟩
          show (a == b) = true
          rw [e, beq_self_eq_true]
        have e66 : es.length ≤ 66 := few66 m12 in10 (lexL_nd pw10) fun a b hm => ⟨irr a b hm, fun g => irr a a (Rd.trans hm g) rfl⟩
        have s511 := s510.trans s11
        have hf11 := s511 _ _ hf
        have hF11 : AllIn (RowE H11) fs0 F := hF.mono fun _ _ z => RowE.same s511 z
        refine ⟨_, rfl, _, rfl, fl, fs0, F, rfl, SqL.of hf11, hF11.mono fun _ _ z => z.at_, F70, fun c hc => ?_, fun p us fs H12 s12 hp A12 pw12 same12 => ?_⟩
        · obtain ⟨a, b, rfl, i⟩ := I.inn c hc
          refine ⟨rfl, fun y hy => ?_⟩
          have := i y hy
          omega
        have S12 := S10.trans (s11.trans s12)
        have hD12 := (s11.trans s12) _ _ hD2
        have A12' : AllIn (RowE H12) zs es := A10.mono fun _ _ z => RowE.same (s11.trans s12) z
        refine ⟨.list (es.map tupD), .list (fs.map tupD), .lst (SqL.of hD12) (dp_all (g := tupD) (R := RowE H12) (fun _ _ z => dp_row (RowE.at_ (K := K) z)) A12'), .lst (SqL.of hp) (dp_all (g := tupD) (R := RowAt K H12) (fun _ _ => dp_row) A12), sh_lst _, sh_lst _, _, rfl, ?_⟩
        rw [eqv_lists]
        refine ite2 (fun h => ?_) (fun h => ?_)
        · have ee := of_decide_eq_true h
          refine ⟨_, rfl, D2, _, rfl, .inl ⟨SqL.of hD12, fun T hT => ?_⟩⟩
          refine new_step hT fun H13 s13 e13 => ?_
          refine k (.ref T) (some es) H13 (S12.trans s13) ⟨pw10, PrIn.prs in10, fun a b => ⟨etc a b, fun t => Rd.done I.bs (fun c => by rw [ee]; exact same12 c) t⟩, fun a b t => ?_⟩ ⟨T, zs, rfl, SqT.of e13, A12'.mono fun _ _ z => (RowE.same s13 z).at_⟩
          exact irr a b (Rd.done I.bs (fun c => by rw [ee]; exact same12 c) t)
        · have ne : ∃ c ∈ es, c ∉ F := by
            refine Classical.byContradiction fun z => h (decide_eq_true ?_)
            refine lexL_ext pw10 pw12 fun c => ?_
            rw [same12]
            refine ⟨fun hc => Classical.byContradiction fun n => z ⟨c, hc, n⟩, fun hc => ?_⟩
            obtain ⟨a, b, rfl, _⟩ := I.inn c hc
            exact Rd.grow hc
          obtain ⟨c, hc, nc⟩ := ne
          obtain ⟨G, g1, g2, g3⟩ := I.cnt
          refine ⟨_, rfl, D2, es, {
            same := S12
            lst := ⟨zs, hD12, A12'⟩
            few := by omega
            inn := in10
            tc := etc
            bs := fun a b h => Rd.grow (I.bs a b h)
            cnt := ⟨c :: G, List.nodup_cons.mpr ⟨fun z => nc (g3 c z), g1⟩, Nat.succ_le_succ g2, fun d hd => by
              rcases List.mem_cons.mp hd with rfl | hd
              · exact hc
              · obtain ⟨a, b, rfl, _⟩ := I.inn d (g3 d hd)
                exact Rd.grow (g3 _ hd)⟩ }, _, _, _, _, _, _, rfl⟩
    · rintro σ H5 ⟨fl, F, I, u5, u6, u7, u8, u9, u10, rfl⟩
      obtain ⟨G, g1, g2, g3⟩ := I.cnt
      have l := PrIn.len (fun c hc => I.inn c (g3 c hc)) g1
      exfalso
      have e : (many : Int) * (many : Int) = ((many * many : Nat) : Int) := rfl
      rw [e] at g2
      omega
end
end Law

namespace L2
open PySem PySem.Spec PyProof.Rows
end L2


namespace Law
open PySem L2
/-! ### lots -/
section
variable {P : Program} {w : World} {K : PySem.W.Frag} {mg : Str → Option Value} {base : Heap}
def spLotOf (K : PySem.W.Frag) : Sp := fun vs H Q _ => ∃ (a : Addr) (e : List Int), vs = [.ref a] ∧ (SqL K H a (e.map V.int) ∨ SqT K H a (e.map V.int)) ∧ e.length ≤ 63 ∧ In12 e ∧ ∀ l H', Same H H' → H' l = some (.tup ((lotF e).map V.int)) → Q (.ref l) H'
abbrev nLotOf : List Str := ["things"]
theorem scLotOf : FnScope nLotOf ["things"] (defScope s_lot_of) := ⟨rfl, rfl, rfl, by decide +kernel, rfl, by decide +kernel, by decide +kernel⟩
theorem ok_lot_of {f : Addr} {fd : FuncData} (F : Fun K "lot_of" "lot_of" s_lot_of f fd) (T : NmA mg) : FnOk P w K mg base CX0 1 f fd ["things"] (spLotOf K) := by
  refine F.ok scLotOf (fun vs H Q E h => ?_) (fun cdv A' outer s H vs Q E hr h => ?_)
  · obtain ⟨a, e, rfl, _⟩ := h
    rfl
  · obtain ⟨a, e, rfl, hS, h63, h12, k⟩ := h
    refine ⟨_, pss_one (ps_ret (pe_callTy call_tuple_of (by rfl) T.tuple (by decide +kernel) (pa_cons (pe_callB (cr_sortedSet (by rfl)) (by rfl) T.sorted (by decide +kernel) (pa_cons (pe_callTy (cr_setA (by rfl)) (by rfl) T.set (by decide +kernel) (pa_cons (pv 0) pa_nil)) pa_nil)) pa_nil))), ?_⟩
    refine ⟨_, rfl, a, e, rfl, hS, by omega, fun q c hq hc => ?_⟩
    refine ⟨q, _, c, rfl, upd_same, by omega, fun ns r p1 p2 p3 hr' => ?_⟩
    refine ⟨r, _, rfl, .inl ⟨SqL.of upd_same, fun l hl => ?_⟩⟩
    refine k l _ (((Same.new hq).trans (Same.new hr')).trans (Same.new hl)) ?_
    rw [upd_same, lot_eq h12 p1 fun z => by rw [p2 z, decide_eq_true_iff]]
end
end Law


namespace Law
open PySem L2
def leadsF (xs e : List Int) : List Int := lotF (e.map fun s => xs.getD s.toNat 0)
section
variable {P : Program} {w : World} {K : PySem.W.Frag} {mg : Str → Option Value} {base : Heap}
def spLotLed (K : PySem.W.Frag) : Sp := fun vs H Q _ => ∃ (la ea : Addr) (xs e : List Int), vs = [.ref la, .ref ea] ∧ SqT K H la (xs.map V.int) ∧ SqT K H ea (e.map V.int) ∧ e.length ≤ 12 ∧ (∀ s ∈ e, 0 ≤ s ∧ s < (xs.length : Nat)) ∧ (∀ x ∈ xs, 0 ≤ x ∧ x < 12) ∧
  ∀ l H', Same H H' → H' l = some (.tup ((leadsF xs e).map V.int)) → Q (.ref l) H'
abbrev nLotLed : List Str := ["leads", "lot", "state"]
theorem scLotLed : FnScope nLotLed ["leads", "lot"] (defScope s_lot_led) := ⟨rfl, rfl, rfl, by decide +kernel, rfl, by decide +kernel, by decide +kernel⟩
theorem ok_lot_led {f : Addr} {fd : FuncData} {fcLotOf : Addr} {fdcLotOf : FuncData} (F : Fun K "lot_led" "lot_led" s_lot_led f fd) (T : NmA mg) (cLotOf : Cl P w K mg base CX0 1 "lot_of" fcLotOf fdcLotOf ["things"] (spLotOf K)) : FnOk P w K mg base CX0 2 f fd ["leads", "lot"] (spLotLed K) := by
  refine F.ok scLotLed (fun vs H Q E h => ?_) (fun cdv A' outer s H vs Q E hr h => ?_)
  · obtain ⟨la, ea, xs, e, rfl, _⟩ := h
    rfl
  · obtain ⟨la, ea, xs, e, rfl, hX, hE, el, ei, xi, k⟩ := h
    have hu := hu_of hr
    refine ⟨_, pss_one (ps_ret (cLotOf.call (hr.mono (by decide)) (pa_cons (pe_lc (own := [("state", 2)]) (g := (gName 2)) (tt := tYes) rfl scLotLed.nd  (pi_tup (pv 1)) (blkOk_by (own := [("state", 2)]) (N := nLotLed) (sc := defScope s_lot_led) (by decide +kernel)) (fun _ _ _ _ _ => (pg_name (i := 2) scLotLed.nd rfl (Or.inl rfl))) (fun _ _ _ _ _ => pts_nil) (fun _ _ _ _ _ => (pe_ix (r := rIxT K) (show IxR _ (rIxT K) from ix_tup) (pv 0) (pv 2) (fun _ _ => rfl)))) pa_nil))), ?_⟩
    refine ⟨_, rfl, ea, rfl, ⟨_, hE⟩, fun D hD => ?_⟩
    refine lc_tup (K := K) (a := ea) (xs := e.map V.int) (fun i H' => Same H H' ∧ H' D = some (.lst (((e.take i).map fun s => xs.getD s.toNat 0).map V.int))) ⟨Same.new hD, upd_same⟩ (fun i H' _ h => h.1.sqT hE) (fun i x H1 hi g => ?_) fun H1 g => ?_
    · obtain ⟨s1, d1⟩ := g
      rw [List.getElem?_map] at hi
      obtain ⟨z, hz, rfl⟩ := Option.map_eq_some_iff.mp hi
      have il := (List.getElem?_eq_some_iff.mp hz).1
      obtain ⟨z0, z1⟩ := ei z (List.mem_of_getElem? hz)
      have za : xs[z.toNat]? = some (xs.getD z.toNat 0) := by
        rw [List.getD_eq_getElem?_getD, List.getElem?_eq_getElem (show z.toNat < xs.length by omega)] <;> rfl
      refine ⟨rfl, _, rfl, _, rfl, la, _, _, _, rfl, rfl, s1.sqT hX, ints_ix z0 za, _, d1, by rw [List.length_map, List.length_map, List.length_take]; exact small1000 (by omega), s1.mut hD, ?_⟩
      rw [upd_same, List.take_add_one, hz, List.map_append, List.map_append] <;> rfl
    · obtain ⟨s1, d1⟩ := g
      rw [List.length_map, List.take_length] at d1
      refine ⟨D, e.map fun s : Int => xs.getD s.toNat 0, rfl, .inl (SqL.of d1), by rw [List.length_map]; omega, fun y hy => ?_, fun l H2 s2 h2 => k l H2 (s1.trans s2) h2⟩
      obtain ⟨s, hs, rfl⟩ := List.mem_map.mp hy
      obtain ⟨z0, z1⟩ := ei s hs
      refine xi _ ?_
      rw [List.getD_eq_getElem?_getD, List.getElem?_eq_getElem (show s.toNat < xs.length by omega)]
      exact List.getElem_mem _
end
end Law


namespace L2
open PySem PySem.Spec PyProof.Rows Law
/-! ### rows grown move by move: one after another (the program), level by level (the law) -/
abbrev Nd := List Int × List Int
/-- the lots that one lot leads to, those not known put behind -/
def exp1 (Ls : List (List Int)) (n : Nd) : Nat → List (List Int) → List (List Int) × List Nd
  | 0, K => (K, [])
  | i + 1, K =>
    let (K1, nw) := exp1 Ls n i K
    let o := leadsF (Ls.getD i []) n.2
    if o ∈ K1 then (K1, nw) else (K1 ++ [o], nw ++ [(n.1 ++ [(i : Int)], o)])
def expA (Ls : List (List Int)) (n : Nd) (K : List (List Int)) : List (List Int) × List Nd := exp1 Ls n Ls.length K
def expL (Ls : List (List Int)) : List Nd → List (List Int) → List (List Int) × List Nd
  | [], K => (K, [])
  | n :: L, K => ((expL Ls L (expA Ls n K).1).1, (expA Ls n K).2 ++ (expL Ls L (expA Ls n K).1).2)
inductive PR (Ls : List (List Int)) : List (List Int) → List Nd → Option (List Int) → Prop
  | nil (K) : PR Ls K [] none
  | hit (K) (n : Nd) (W) : n.2.length = 1 → PR Ls K (n :: W) (some n.1)
  | step (K) (n : Nd) (W) (r) : n.2.length ≠ 1 → PR Ls (expA Ls n K).1 (W ++ (expA Ls n K).2) r → PR Ls K (n :: W) r
inductive LR (Ls : List (List Int)) : List (List Int) → List Nd → Option (List Int) → Prop
  | nil (K) : LR Ls K [] none
  | hit (K) (pre : List Nd) (n : Nd) (post) : (∀ m ∈ pre, m.2.length ≠ 1) → n.2.length = 1 → LR Ls K (pre ++ n :: post) (some n.1)
  | step (K) (L : List Nd) (r) : L ≠ [] → (∀ n ∈ L, n.2.length ≠ 1) → LR Ls (expL Ls L K).1 (expL Ls L K).2 r → LR Ls K L r
theorem PR.run {Ls : List (List Int)} {r : Option (List Int)} : ∀ (L : List Nd) (acc : List Nd) (K : List (List Int)), (∀ n ∈ L, n.2.length ≠ 1) → PR Ls (expL Ls L K).1 (acc ++ (expL Ls L K).2) r → PR Ls K (L ++ acc) r
  | [], acc, K, _, h => by
    have h : PR Ls K (acc ++ []) r := h
    rw [List.append_nil] at h
    exact h
  | n :: L, acc, K, hn, h => by
    refine .step K n (L ++ acc) r (hn n List.mem_cons_self) ?_
    rw [List.append_assoc]
    refine PR.run L (acc ++ (expA Ls n K).2) _ (fun m hm => hn m (List.mem_cons_of_mem _ hm)) ?_
    rw [List.append_assoc]
    exact h
theorem PR.to {Ls : List (List Int)} {n : Nd} : ∀ (pre W : List Nd) (K : List (List Int)), (∀ m ∈ pre, m.2.length ≠ 1) → n.2.length = 1 → PR Ls K (pre ++ n :: W) (some n.1)
  | [], W, K, _, h => .hit K n W h
  | m :: pre, W, K, hm, h => by
    refine .step K m (pre ++ n :: W) _ (hm m List.mem_cons_self) ?_
    rw [List.append_assoc]
    exact PR.to pre (W ++ (expA Ls m K).2) _ (fun q hq => hm q (List.mem_cons_of_mem _ hq)) h
theorem LR.pr {Ls : List (List Int)} {K : List (List Int)} {L : List Nd} {r : Option (List Int)} (h : LR Ls K L r) : PR Ls K L r := by
  induction h with
  | nil K => exact .nil K
  | hit K pre n post h1 h2 => exact PR.to pre post K h1 h2
  | step K L r ne h1 _ ih =>
    have z := PR.run (Ls := Ls) (r := r) L [] K h1 (by rw [List.nil_append]; exact ih)
    rw [List.append_nil] at z
    exact z
theorem PR.one {Ls : List (List Int)} {K : List (List Int)} {W : List Nd} {r q : Option (List Int)} (h : PR Ls K W r) (g : PR Ls K W q) : r = q := by
  induction h with
  | nil K => cases g; rfl
  | hit K n W h1 =>
    cases g with
    | hit => rfl
    | step _ _ _ _ h2 => exact absurd h1 h2
  | step K n W r h1 _ ih =>
    cases g with
    | hit _ _ _ h2 => exact absurd h2 h1
    | step _ _ _ _ _ g2 => exact ih g2
end L2

namespace L2
open PySem PySem.Spec PyProof.Rows Law
/-! ### rows grown: the least of the shortest -/
def cand (Ls : List (List Int)) (n : Nd) (i : Nat) : Nd := (n.1 ++ [(i : Int)], leadsF (Ls.getD i []) n.2)
def addAll : List Nd → List (List Int) → List (List Int) × List Nd
  | [], K => (K, [])
  | c :: C, K => if c.2 ∈ K then addAll C K else ((addAll C (K ++ [c.2])).1, c :: (addAll C (K ++ [c.2])).2)
theorem addAll_app : ∀ (C D : List Nd) (K : List (List Int)), addAll (C ++ D) K = ((addAll D (addAll C K).1).1, (addAll C K).2 ++ (addAll D (addAll C K).1).2)
  | [], _, _ => rfl
  | c :: C, D, K => by
    rw [List.cons_append, addAll, addAll]
    split
    · exact addAll_app C D K
    · rw [addAll_app C D (K ++ [c.2])] <;> rfl
theorem exp1_eq (Ls : List (List Int)) (n : Nd) (K : List (List Int)) : ∀ i, exp1 Ls n i K = addAll ((List.range i).map (cand Ls n)) K
  | 0 => rfl
  | i + 1 => by
    rw [List.range_succ, List.map_append, addAll_app, ← exp1_eq Ls n K i]
    show (if leadsF (Ls.getD i []) n.2 ∈ (exp1 Ls n i K).1 then exp1 Ls n i K else ((exp1 Ls n i K).1 ++ [leadsF (Ls.getD i []) n.2], (exp1 Ls n i K).2 ++ [(n.1 ++ [(i : Int)], leadsF (Ls.getD i []) n.2)])) = _
    rw [List.map_cons, List.map_nil, addAll, addAll, addAll]
    show _ = ((if leadsF (Ls.getD i []) n.2 ∈ (exp1 Ls n i K).1 then _ else _ : List (List Int) × List Nd).1, (exp1 Ls n i K).2 ++ (if leadsF (Ls.getD i []) n.2 ∈ (exp1 Ls n i K).1 then _ else _ : List (List Int) × List Nd).2)
    split
    · rw [List.append_nil]
    · rfl
def candA (Ls : List (List Int)) (n : Nd) : List Nd := (List.range Ls.length).map (cand Ls n)
theorem expL_eq (Ls : List (List Int)) : ∀ (L : List Nd) (K : List (List Int)), expL Ls L K = addAll (L.flatMap (candA Ls)) K
  | [], _ => rfl
  | n :: L, K => by
    rw [List.flatMap_cons, addAll_app, expL, expL_eq Ls L]
    unfold expA candA
    rw [exp1_eq]
theorem addAll_known : ∀ (C : List Nd) (K : List (List Int)), (addAll C K).1 = K ++ (addAll C K).2.map (·.2)
  | [], K => by rw [addAll, List.map_nil, List.append_nil]
  | c :: C, K => by
    rw [addAll]
    split
    · exact addAll_known C K
    · show (addAll C (K ++ [c.2])).1 = K ++ (c :: (addAll C (K ++ [c.2])).2).map (·.2)
      rw [addAll_known C (K ++ [c.2]), List.map_cons, List.append_assoc] <;> rfl
theorem addAll_sub : ∀ (C : List Nd) (K : List (List Int)), (addAll C K).2.Sublist C
  | [], K => by rw [addAll]; exact List.nil_sublist _
  | c :: C, K => by
    rw [addAll]
    split
    · exact (addAll_sub C K).cons _
    · exact (addAll_sub C _).cons_cons _
theorem addAll_hit {R : Nd → Nd → Prop} : ∀ (C : List Nd) (K : List (List Int)), C.Pairwise R → ∀ c ∈ C, c.2 ∈ K ∨ ∃ d ∈ (addAll C K).2, d.2 = c.2 ∧ (d = c ∨ R d c)
  | [], _, _, _, h => absurd h List.not_mem_nil
  | c :: C, K, hp, x, hx => by
    rw [List.pairwise_cons] at hp
    rw [addAll]
    split
    next h =>
      rcases List.mem_cons.mp hx with rfl | hx
      · exact .inl h
      · exact addAll_hit C K hp.2 x hx
    next h =>
      rcases List.mem_cons.mp hx with rfl | hx
      · exact .inr ⟨x, List.mem_cons_self, rfl, .inl rfl⟩
      · rcases addAll_hit C (K ++ [c.2]) hp.2 x hx with z | ⟨d, h1, h2, h3⟩
        · rcases List.mem_append.mp z with z | z
          · exact .inl z
          · exact .inr ⟨c, List.mem_cons_self, (List.mem_singleton.mp z).symm, .inr (hp.1 x hx)⟩
        · exact .inr ⟨d, List.mem_cons_of_mem _ h1, h2, h3⟩
theorem lexL_snoc {i j : Int} : ∀ {a b : List Int}, lexL a b → lexL (a ++ [i]) (b ++ [j])
  | _ :: _, _ :: _, .inl h => .inl h
  | _ :: _, _ :: _, .inr ⟨e, h⟩ => .inr ⟨e, lexL_snoc h⟩
theorem lexL_last {i j : Int} (h : i < j) : ∀ a : List Int, lexL (a ++ [i]) (a ++ [j])
  | [] => .inl h
  | _ :: a => .inr ⟨rfl, lexL_last h a⟩
def leL (a b : List Int) : Prop := a = b ∨ lexL a b
theorem leL_trans {a b c : List Int} (h : leL a b) (g : leL b c) : leL a c := by
  rcases h with rfl | h
  · exact g
  · rcases g with rfl | g
    · exact .inr h
    · exact .inr (lexL_trans h g)
theorem leL_anti {a b : List Int} (h : leL a b) (g : leL b a) : a = b := by
  rcases h with h | h
  · exact h
  · rcases g with g | g
    · exact g.symm
    · exact absurd (lexL_trans h g) (lexL_irr a)
theorem leL_snoc {a b : List Int} (i : Int) (h : leL a b) : leL (a ++ [i]) (b ++ [i]) := by
  rcases h with rfl | h
  · exact .inl rfl
  · exact .inr (lexL_snoc h)
/-- the lot behind a row -/
def rch (Ls : List (List Int)) (lot row : List Int) : List Int := row.foldl (fun l i => leadsF (Ls.getD i.toNat []) l) lot
theorem rch_app (Ls : List (List Int)) (lot a b : List Int) : rch Ls lot (a ++ b) = rch Ls (rch Ls lot a) b := by
  unfold rch
  rw [List.foldl_append]
theorem rch_snoc (Ls : List (List Int)) (lot a : List Int) (i : Nat) : rch Ls lot (a ++ [(i : Int)]) = leadsF (Ls.getD i []) (rch Ls lot a) := by
  rw [rch_app]
  show leadsF (Ls.getD ((i : Int).toNat) []) _ = _
  rw [Int.toNat_natCast]
def RwOk (m : Nat) (row : List Int) : Prop := ∀ r ∈ row, 0 ≤ r ∧ r < (m : Int)
theorem RwOk.app {m : Nat} {a b : List Int} (h : RwOk m a) (g : RwOk m b) : RwOk m (a ++ b) := fun r hr => by
  rcases List.mem_append.mp hr with z | z
  · exact h r z
  · exact g r z
theorem RwOk.left {m : Nat} {a b : List Int} (h : RwOk m (a ++ b)) : RwOk m a := fun r hr => h r (List.mem_append_left _ hr)
theorem RwOk.right {m : Nat} {a b : List Int} (h : RwOk m (a ++ b)) : RwOk m b := fun r hr => h r (List.mem_append_right _ hr)
structure Lv (Ls : List (List Int)) (start : List Int) (d : Nat) (K : List (List Int)) (L : List Nd) : Prop where
  rows : ∀ n ∈ L, n.1.length = d ∧ RwOk Ls.length n.1 ∧ rch Ls start n.1 = n.2
  asc : L.Pairwise fun a b => lexL a.1 b.1
  known : ∀ o ∈ K, ∃ p, RwOk Ls.length p ∧ p.length ≤ d ∧ rch Ls start p = o
  cov : ∀ p, RwOk Ls.length p → p.length = d → (∃ q, RwOk Ls.length q ∧ q.length < d ∧ rch Ls start q = rch Ls start p) ∨ ∃ n ∈ L, n.2 = rch Ls start p ∧ leL n.1 p
  no : ∀ p, RwOk Ls.length p → p.length < d → (rch Ls start p).length ≠ 1
theorem Lv.start (Ls : List (List Int)) (start : List Int) : Lv Ls start 0 [start] [([], start)] where
  rows n hn := by
    rw [List.mem_singleton.mp hn]
    exact ⟨rfl, (fun r hr => absurd hr List.not_mem_nil), rfl⟩
  asc := List.pairwise_singleton _ _
  known o ho := ⟨[], (fun r hr => absurd hr List.not_mem_nil), Nat.le_refl _, (List.mem_singleton.mp ho).symm⟩
  cov p _ h := .inr ⟨_, List.mem_singleton_self _, by rw [List.eq_nil_of_length_eq_zero h] <;> rfl, .inl (List.eq_nil_of_length_eq_zero h).symm⟩
  no p _ h := absurd h (Nat.not_lt_zero _)
theorem snoc_of {a : List Int} {d : Nat} (h : a.length = d + 1) : ∃ b i, a = b ++ [i] ∧ b.length = d := by
  have ne : a ≠ [] := fun e => by rw [e] at h; cases h
  exact ⟨a.dropLast, a.getLast ne, (List.dropLast_concat_getLast ne).symm, by rw [List.length_dropLast]; omega⟩
theorem cands_asc {Ls : List (List Int)} {L : List Nd} (h : L.Pairwise fun a b => lexL a.1 b.1) : (L.flatMap (candA Ls)).Pairwise fun a b => lexL a.1 b.1 := by
  rw [List.pairwise_flatMap]
  refine ⟨fun n _ => ?_, h.imp fun {a b} hab x hx y hy => ?_⟩
  · unfold candA
    rw [List.pairwise_map]
    exact List.pairwise_lt_range.imp fun {i j} hij => lexL_last (by omega) n.1
  · obtain ⟨i, _, rfl⟩ := List.mem_map.mp hx
    obtain ⟨j, _, rfl⟩ := List.mem_map.mp hy
    exact lexL_snoc hab
theorem cand_mem {Ls : List (List Int)} {L : List Nd} {c : Nd} (h : c ∈ L.flatMap (candA Ls)) : ∃ n ∈ L, ∃ i, i < Ls.length ∧ c = cand Ls n i := by
  obtain ⟨n, hn, hc⟩ := List.mem_flatMap.mp h
  obtain ⟨i, hi, rfl⟩ := List.mem_map.mp hc
  exact ⟨n, hn, i, List.mem_range.mp hi, rfl⟩
theorem Lv.step {Ls : List (List Int)} {start : List Int} {d : Nat} {K : List (List Int)} {L : List Nd} (h : Lv Ls start d K L) (hn : ∀ n ∈ L, n.2.length ≠ 1) : Lv Ls start (d + 1) (expL Ls L K).1 (expL Ls L K).2 := by
  rw [expL_eq]
  have hr : ∀ n ∈ (addAll (L.flatMap (candA Ls)) K).2, n.1.length = d + 1 ∧ RwOk Ls.length n.1 ∧ rch Ls start n.1 = n.2 := fun n hn => by
    obtain ⟨x, hx, i, hi, rfl⟩ := cand_mem ((addAll_sub _ K).mem hn)
    obtain ⟨e1, e2, e3⟩ := h.rows x hx
    refine ⟨by show (x.1 ++ [(i : Int)]).length = _; rw [List.length_append, e1] <;> rfl, e2.app fun r hr => ?_, ?_⟩
    · rw [List.mem_singleton.mp hr]
      omega
    · show rch Ls start (x.1 ++ [(i : Int)]) = _
      rw [rch_snoc, e3] <;> rfl
  have ca := cands_asc (Ls := Ls) h.asc
  refine ⟨hr, ca.sublist (addAll_sub _ K), fun o ho => ?_, fun p hp hl => ?_, fun p hp hl => ?_⟩
  · rw [addAll_known] at ho
    rcases List.mem_append.mp ho with z | z
    · obtain ⟨q, a1, a2, a3⟩ := h.known o z
      exact ⟨q, a1, by omega, a3⟩
    · obtain ⟨n, hn, rfl⟩ := List.mem_map.mp z
      obtain ⟨e1, e2, e3⟩ := hr n hn
      exact ⟨n.1, e2, by omega, e3⟩
  · obtain ⟨p0, i, rfl, hl0⟩ := snoc_of hl
    have hi := hp i (List.mem_append_right _ (List.mem_singleton_self i))
    obtain ⟨j, rfl⟩ := Int.eq_ofNat_of_zero_le hi.1
    have oj : RwOk Ls.length [(j : Int)] := hp.right
    rcases h.cov p0 hp.left hl0 with ⟨q, a1, a2, a3⟩ | ⟨n, n1, n2, n3⟩
    · exact .inl ⟨q ++ [(j : Int)], a1.app oj, by rw [List.length_append]; show q.length + 1 < _; omega, by rw [rch_snoc, rch_snoc, a3]⟩
    · have cm : cand Ls n j ∈ L.flatMap (candA Ls) := List.mem_flatMap.mpr ⟨n, n1, List.mem_map.mpr ⟨j, List.mem_range.mpr (by omega), rfl⟩⟩
      have ce : (cand Ls n j).2 = rch Ls start (p0 ++ [(j : Int)]) := by
        rw [rch_snoc, ← n2] <;> rfl
      rcases addAll_hit _ K ca _ cm with z | ⟨c, c1, c2, c3⟩
      · obtain ⟨q, a1, a2, a3⟩ := h.known _ z
        exact .inl ⟨q, a1, by omega, by rw [a3, ce]⟩
      · refine .inr ⟨c, c1, by rw [c2, ce], ?_⟩
        have z : leL c.1 (n.1 ++ [(j : Int)]) := by
          rcases c3 with rfl | c3
          · exact .inl rfl
          · exact .inr c3
        exact leL_trans z (leL_snoc _ n3)
  · by_cases e : p.length < d
    · exact h.no p hp e
    · rcases h.cov p hp (by omega) with ⟨q, a1, a2, a3⟩ | ⟨n, n1, n2, _⟩
      · rw [← a3]
        exact h.no q a1 a2
      · rw [← n2]
        exact hn n n1
/-- what the search tells -/
def Best (Ls : List (List Int)) (start : List Int) : Option (List Int) → Prop
  | some r => RwOk Ls.length r ∧ (rch Ls start r).length = 1 ∧ ∀ p, RwOk Ls.length p → (rch Ls start p).length = 1 → r.length < p.length ∨ (r.length = p.length ∧ leL r p)
  | none => ∀ p, RwOk Ls.length p → (rch Ls start p).length ≠ 1
theorem Lv.ended {Ls : List (List Int)} {start : List Int} {d : Nat} {K : List (List Int)} (h : Lv Ls start d K []) : ∀ (k : Nat) (p : List Int), p.length ≤ k → RwOk Ls.length p → (rch Ls start p).length ≠ 1
  | 0, p, hk, hp => by
    by_cases e : p.length < d
    · exact h.no p hp e
    · rcases h.cov p hp (by omega) with ⟨q, a1, a2, a3⟩ | ⟨n, n1, _⟩
      · rw [← a3]
        exact h.no q a1 a2
      · exact absurd n1 List.not_mem_nil
  | k + 1, p, hk, hp => by
    by_cases e : p.length < d
    · exact h.no p hp e
    · have ep : p = p.take d ++ p.drop d := (List.take_append_drop d p).symm
      have hp' : RwOk Ls.length (p.take d ++ p.drop d) := by rw [← ep]; exact hp
      rcases h.cov (p.take d) hp'.left (by rw [List.length_take]; omega) with ⟨q, a1, a2, a3⟩ | ⟨n, n1, _⟩
      · rw [ep, rch_app, ← a3, ← rch_app]
        exact h.ended k (q ++ p.drop d) (by rw [List.length_append, List.length_drop]; omega) (a1.app hp'.right)
      · exact absurd n1 List.not_mem_nil
theorem LR.best {Ls : List (List Int)} {start : List Int} {K : List (List Int)} {L : List Nd} {r : Option (List Int)} (h : LR Ls K L r) : ∀ d, Lv Ls start d K L → Best Ls start r := by
  induction h with
  | nil K => exact fun d g p hp => g.ended p.length p (Nat.le_refl _) hp
  | hit K pre n post h1 h2 =>
    intro d g
    have hn : n ∈ pre ++ n :: post := List.mem_append_right _ List.mem_cons_self
    obtain ⟨e1, e2, e3⟩ := g.rows n hn
    refine ⟨e2, by rw [e3]; exact h2, fun p hp hs => ?_⟩
    by_cases c : p.length < d
    · exact absurd hs (g.no p hp c)
    · by_cases c2 : p.length = d
      · refine .inr ⟨by omega, ?_⟩
        rcases g.cov p hp c2 with ⟨q, a1, a2, a3⟩ | ⟨m, m1, m2, m3⟩
        · rw [← a3] at hs
          exact absurd hs (g.no q a1 a2)
        · refine leL_trans ?_ m3
          rcases List.mem_append.mp m1 with z | z
          · rw [← m2] at hs
            exact absurd hs (h1 m z)
          · rcases List.mem_cons.mp z with rfl | z
            · exact .inl rfl
            · have q := g.asc
              rw [List.pairwise_append, List.pairwise_cons] at q
              exact .inr (q.2.1.1 m z)
      · exact .inl (by omega)
  | step K L r ne h1 _ ih => exact fun d g => ih (d + 1) (g.step h1)
theorem Best.one {Ls : List (List Int)} {start : List Int} {r q : Option (List Int)} (h : Best Ls start r) (g : Best Ls start q) : r = q := by
  cases r with
  | none =>
    cases q with
    | none => rfl
    | some b => exact absurd g.2.1 (h b g.1)
  | some a =>
    cases q with
    | none => exact absurd h.2.1 (g a h.1)
    | some b =>
      rcases h.2.2 b g.1 g.2.1 with x | ⟨x, y⟩ <;> rcases g.2.2 a h.1 h.2.1 with u | ⟨u, v⟩
      · omega
      · omega
      · omega
      · rw [leL_anti y v]
end L2

namespace L2
open PySem PySem.Spec PyProof.Rows Law
/-! ### states led; lots of them -/
def goS (Ls : List (List Int)) (row : List Int) (s : Int) : Int := row.foldl (fun s i => stepS (Ls.getD i.toNat []) s) s
theorem goS_app (Ls : List (List Int)) (a b : List Int) (s : Int) : goS Ls (a ++ b) s = goS Ls b (goS Ls a s) := by
  unfold goS
  rw [List.foldl_append]
theorem InN.in12 {n : Nat} {e : List Int} (h : InN n e) (hn : n ≤ 12) : In12 e := fun x hx => by
  have := h x hx
  omega
theorem getL {n : Nat} {Ls : List (List Int)} (h : LsOk n Ls) {i : Nat} (hi : i < Ls.length) : LdOk n (Ls.getD i []) := by
  rw [List.getD_eq_getElem?_getD, List.getElem?_eq_getElem hi]
  exact h _ (List.getElem_mem hi)
theorem goS_in {n : Nat} {Ls : List (List Int)} (h : LsOk n Ls) : ∀ (row : List Int) (s : Int), RwOk Ls.length row → 0 ≤ s ∧ s < (n : Int) → 0 ≤ goS Ls row s ∧ goS Ls row s < (n : Int)
  | [], _, _, hs => hs
  | r :: row, s, hr, hs => by
    have z := hr r List.mem_cons_self
    exact goS_in h row _ (fun x hx => hr x (List.mem_cons_of_mem _ hx)) (stepS_in (getL h (by omega)) hs)
theorem mapN {n : Nat} {Ls : List (List Int)} (h : LsOk n Ls) {row e : List Int} (hr : RwOk Ls.length row) (he : InN n e) : InN n (e.map (goS Ls row)) := fun x hx => by
  obtain ⟨s, hs, rfl⟩ := List.mem_map.mp hx
  exact goS_in h row s hr (he s hs)
theorem lotN {n : Nat} {e : List Int} (hn : n ≤ 12) (he : InN n e) : InN n (lotF e) := fun x hx => he x ((lot_mem (he.in12 hn) x).mp hx)
theorem leads_lot {n : Nat} {xs e : List Int} (hn : n ≤ 12) (h : LdOk n xs) (he : InN n e) : leadsF xs (lotF e) = lotF (e.map (stepS xs)) := by
  have a : InN n (e.map (stepS xs)) := fun x hx => by
    obtain ⟨s, hs, rfl⟩ := List.mem_map.mp hx
    exact stepS_in h (he s hs)
  have b : InN n ((lotF e).map (stepS xs)) := fun x hx => by
    obtain ⟨s, hs, rfl⟩ := List.mem_map.mp hx
    exact stepS_in h (lotN hn he s hs)
  refine lot_congr (b.in12 hn) (a.in12 hn) fun k => ?_
  show k ∈ (lotF e).map (stepS xs) ↔ _
  rw [List.mem_map, List.mem_map]
  constructor
  · rintro ⟨s, hs, e1⟩
    exact ⟨s, (lot_mem (he.in12 hn) s).mp hs, e1⟩
  · rintro ⟨s, hs, e1⟩
    exact ⟨s, (lot_mem (he.in12 hn) s).mpr hs, e1⟩
theorem rch_map {n : Nat} {Ls : List (List Int)} (hn : n ≤ 12) (h : LsOk n Ls) : ∀ (row e : List Int), RwOk Ls.length row → InN n e → rch Ls (lotF e) row = lotF (e.map (goS Ls row))
  | [], e, _, _ => by
    show lotF e = lotF (e.map fun s => s)
    rw [List.map_id']
  | r :: row, e, hr, he => by
    have z := hr r List.mem_cons_self
    have ok := getL h (show r.toNat < Ls.length by omega)
    show rch Ls (leadsF (Ls.getD r.toNat []) (lotF e)) row = _
    rw [leads_lot hn ok he, rch_map hn h row _ (fun x hx => hr x (List.mem_cons_of_mem _ hx)) fun x hx => by
      obtain ⟨s, hs, rfl⟩ := List.mem_map.mp hx
      exact stepS_in ok (he s hs), List.map_map] <;> rfl
theorem lot_id {n : Nat} {e : List Int} (hn : n ≤ 12) (he : InN n e) (ha : e.Pairwise (· < ·)) : lotF e = e := (lot_eq (he.in12 hn) ha fun _ => Iff.rfl).symm
theorem lot_le {n : Nat} {e : List Int} (hn : n ≤ 12) (he : InN n e) : (lotF e).length ≤ e.length :=
  List.Nodup.length_le_of_subset ((lot_asc e).imp fun h => by omega) fun x hx => (lot_mem (he.in12 hn) x).mp hx
/-! ### couples -/
def couplesF (n : Nat) : List (List Int) := (upto n).flatMap fun a => ((upto n).filter fun b => decide (a < b)).map fun b => [a, b]
theorem couple_mem {n : Nat} {c : List Int} : c ∈ couplesF n ↔ ∃ a b : Int, c = [a, b] ∧ 0 ≤ a ∧ a < b ∧ b < (n : Int) := by
  unfold couplesF
  rw [List.mem_flatMap]
  constructor
  · rintro ⟨a, ha, hc⟩
    obtain ⟨b, hb, rfl⟩ := List.mem_map.mp hc
    rw [List.mem_filter, decide_eq_true_iff] at hb
    have := mem_upto.mp ha
    have := mem_upto.mp hb.1
    exact ⟨a, b, rfl, by omega, hb.2, by omega⟩
  · rintro ⟨a, b, rfl, h1, h2, h3⟩
    exact ⟨a, mem_upto.mpr ⟨h1, by omega⟩, List.mem_map.mpr ⟨b, List.mem_filter.mpr ⟨mem_upto.mpr ⟨by omega, h3⟩, decide_eq_true h2⟩, rfl⟩⟩
theorem couples_nodup (n : Nat) : (couplesF n).Nodup := by
  unfold couplesF List.Nodup
  rw [List.pairwise_flatMap]
  refine ⟨fun a _ => ?_, (upto_asc n).imp fun {a b} h x hx y hy e => ?_⟩
  · rw [List.pairwise_map]
    refine ((upto_asc n).filter _).imp fun {b c} h e => ?_
    cases e
    omega
  · obtain ⟨_, _, rfl⟩ := List.mem_map.mp hx
    obtain ⟨_, _, rfl⟩ := List.mem_map.mp hy
    cases e
    omega
/-- no row leads it to one -/
def Aprt (Ls : List (List Int)) (c : List Int) : Prop := ∀ p, RwOk Ls.length p → (rch Ls c p).length ≠ 1
theorem couple_lot {n : Nat} (hn : n ≤ 12) {c : List Int} (h : c ∈ couplesF n) : InN n c ∧ lotF c = c ∧ c.length = 2 ∧ c.Pairwise (· < ·) := by
  obtain ⟨a, b, rfl, h1, h2, h3⟩ := couple_mem.mp h
  have i : InN n [a, b] := fun x hx => by
    rcases List.mem_cons.mp hx with rfl | hx
    · omega
    · rw [List.mem_singleton.mp hx]
      omega
  have p : [a, b].Pairwise (· < ·) := by simpa using h2
  exact ⟨i, lot_id hn i p, rfl, p⟩
/-- a couple led by a move: to one, or to a couple -/
theorem couple_led {n : Nat} (hn : n ≤ 12) {xs : List Int} (hx : LdOk n xs) {c : List Int} (h : c ∈ couplesF n) : (leadsF xs c).length = 1 ∨ leadsF xs c ∈ couplesF n := by
  obtain ⟨a, b, rfl, h1, h2, h3⟩ := couple_mem.mp h
  have sa := stepS_in hx (s := a) ⟨h1, by omega⟩
  have sb := stepS_in hx (s := b) ⟨by omega, h3⟩
  have e : leadsF xs [a, b] = lotF [stepS xs a, stepS xs b] := rfl
  have i : InN n [stepS xs a, stepS xs b] := fun x hx => by
    rcases List.mem_cons.mp hx with rfl | hx
    · exact sa
    · rw [List.mem_singleton.mp hx]
      exact sb
  rw [e]
  rcases Int.lt_trichotomy (stepS xs a) (stepS xs b) with z | z | z
  · right
    have p : [stepS xs a, stepS xs b].Pairwise (· < ·) := by simpa using z
    rw [lot_id hn i p]
    exact couple_mem.mpr ⟨_, _, rfl, sa.1, z, sb.2⟩
  · left
    have p : [stepS xs b].Pairwise (· < ·) := by simp
    rw [← lot_eq (ns := [stepS xs b]) (i.in12 hn) p fun k => by rw [z]; simp] <;> rfl
  · right
    have p : [stepS xs b, stepS xs a].Pairwise (· < ·) := by simpa using z
    rw [← lot_eq (ns := [stepS xs b, stepS xs a]) (i.in12 hn) p fun k => by simp [or_comm]]
    exact couple_mem.mpr ⟨_, _, rfl, sb.1, z, sa.2⟩
theorem couple_one {n : Nat} (hn : n ≤ 12) {xs : List Int} (hx : LdOk n xs) {a b : Int} (h : [a, b] ∈ couplesF n) : (leadsF xs [a, b]).length = 1 ↔ stepS xs a = stepS xs b := by
  obtain ⟨a', b', e, h1, h2, h3⟩ := couple_mem.mp h
  cases e
  have sa := stepS_in hx (s := a) ⟨h1, by omega⟩
  have sb := stepS_in hx (s := b) ⟨by omega, h3⟩
  have i : InN n [stepS xs a, stepS xs b] := fun x hx => by
    rcases List.mem_cons.mp hx with rfl | hx
    · exact sa
    · rw [List.mem_singleton.mp hx]
      exact sb
  constructor
  · intro z
    obtain ⟨k, _, hk, _⟩ := lot_one (e := [stepS xs a, stepS xs b]) (i.in12 hn) z
    rw [hk _ List.mem_cons_self, hk (stepS xs b) (by simp)]
  · intro z
    have p : [stepS xs b].Pairwise (· < ·) := by simp
    show (lotF [stepS xs a, stepS xs b]).length = 1
    rw [← lot_eq (ns := [stepS xs b]) (i.in12 hn) p fun k => by rw [z]; simp] <;> rfl
theorem Aprt.led {Ls : List (List Int)} {c : List Int} (h : Aprt Ls c) {i : Nat} (hi : i < Ls.length) : Aprt Ls (leadsF (Ls.getD i []) c) := fun p hp => by
  have z := h ((i : Int) :: p) fun r hr => by
    rcases List.mem_cons.mp hr with rfl | hr
    · omega
    · exact hp r hr
  have e : rch Ls c ((i : Int) :: p) = rch Ls (leadsF (Ls.getD i []) c) p := by
    show rch Ls (leadsF (Ls.getD ((i : Int).toNat) []) c) p = _
    rw [Int.toNat_natCast]
  rw [e] at z
  exact z
theorem single_led {n : Nat} (hn : n ≤ 12) {Ls : List (List Int)} (h : LsOk n Ls) {p e : List Int} (hp : RwOk Ls.length p) (he : InN n e) (ha : lotF e = e) (h1 : e.length = 1) : (rch Ls e p).length = 1 := by
  rw [← ha, rch_map hn h p e hp he]
  match e, h1 with
  | [x], _ =>
    have i : InN n [goS Ls p x] := mapN (e := [x]) h hp he
    show (lotF [goS Ls p x]).length = 1
    rw [lot_id hn i (by simp)] <;> rfl
/-- a lot of couples that is kept: all are apart -/
theorem kept_apart {n : Nat} (hn : n ≤ 12) {Ls : List (List Int)} {left : List (List Int)} (hc : ∀ c ∈ left, c ∈ couplesF n) (hk : ∀ c ∈ left, ∀ xs ∈ Ls, leadsF xs c ∈ left) : ∀ (p c : List Int), c ∈ left → RwOk Ls.length p → (rch Ls c p).length ≠ 1
  | [], c, hm, _ => by
    show c.length ≠ 1
    rw [(couple_lot hn (hc c hm)).2.2.1]
    decide
  | r :: p, c, hm, hp => by
    have z := hp r List.mem_cons_self
    refine kept_apart hn hc hk p _ (hk c hm (Ls.getD r.toNat []) ?_) fun x hx => hp x (List.mem_cons_of_mem _ hx)
    rw [List.getD_eq_getElem?_getD, List.getElem?_eq_getElem (show r.toNat < Ls.length by omega)]
    exact List.getElem_mem _
open Classical in
noncomputable def apartF (Ls : List (List Int)) (n : Nat) : List (List Int) := (couplesF n).filter fun c => decide (Aprt Ls c)
open Classical in
theorem apart_mem {Ls : List (List Int)} {n : Nat} {c : List Int} : c ∈ apartF Ls n ↔ c ∈ couplesF n ∧ Aprt Ls c := by
  unfold apartF
  rw [List.mem_filter, decide_eq_true_iff]
theorem apart_kept {n : Nat} (hn : n ≤ 12) {Ls : List (List Int)} (h : LsOk n Ls) {c xs : List Int} (hc : c ∈ apartF Ls n) (hx : xs ∈ Ls) : leadsF xs c ∈ apartF Ls n := by
  obtain ⟨i, hi, rfl⟩ := List.getElem_of_mem hx
  obtain ⟨c1, c2⟩ := apart_mem.mp hc
  have e : Ls.getD i [] = Ls[i] := by rw [List.getD_eq_getElem?_getD, List.getElem?_eq_getElem hi] <;> rfl
  have z := c2.led hi
  rw [e] at z
  refine apart_mem.mpr ⟨?_, z⟩
  rcases couple_led hn (h _ hx) c1 with q | q
  · exact absurd q (z [] fun r hr => absurd hr List.not_mem_nil)
  · exact q
open Classical in
theorem filter_apart {Ls : List (List Int)} {n : Nat} {q : List Int → Bool} (h : ∀ c ∈ couplesF n, (q c = true ↔ Aprt Ls c)) : (couplesF n).filter q = apartF Ls n := by
  unfold apartF
  refine List.filter_congr fun c hc => ?_
  have z := h c hc
  by_cases a : Aprt Ls c
  · rw [z.mpr a, decide_eq_true a]
  · rw [decide_eq_false a]
    cases hq : q c with
    | true => exact absurd (z.mp hq) a
    | false => rfl
/-- all couples are met: a lot is led to one -/
theorem meet_all {n : Nat} (hn : n ≤ 12) {Ls : List (List Int)} (h : LsOk n Ls) (hm : ∀ c ∈ couplesF n, ¬ Aprt Ls c) : ∀ (k : Nat) (e : List Int), e.length ≤ k + 1 → 0 < e.length → InN n e → e.Pairwise (· < ·) → ∃ p, RwOk Ls.length p ∧ (rch Ls e p).length = 1
  | 0, e, hk, h0, _, _ => ⟨[], fun r hr => absurd hr List.not_mem_nil, by show e.length = 1; omega⟩
  | k + 1, e, hk, h0, he, ha => by
    match e, h0 with
    | [x], _ => exact ⟨[], fun r hr => absurd hr List.not_mem_nil, rfl⟩
    | a :: b :: t, _ =>
      have ab : a < b := (List.pairwise_cons.mp ha).1 b List.mem_cons_self
      have i1 := he a List.mem_cons_self
      have i2 := he b (by simp)
      have cm : [a, b] ∈ couplesF n := couple_mem.mpr ⟨a, b, rfl, i1.1, ab, i2.2⟩
      have na := hm _ cm
      unfold Aprt at na
      have : ∃ p, RwOk Ls.length p ∧ (rch Ls [a, b] p).length = 1 := Classical.byContradiction fun z => na fun p hp e => z ⟨p, hp, e⟩
      obtain ⟨p, hp, e1⟩ := this
      obtain ⟨c1, c2, c3, c4⟩ := couple_lot hn cm
      rw [← c2, rch_map hn h p _ hp c1] at e1
      obtain ⟨z, _, ez, _⟩ := lot_one ((mapN h hp c1).in12 hn) e1
      have eab : goS Ls p a = goS Ls p b := by
        rw [ez (goS Ls p a) (by simp), ez (goS Ls p b) (by simp)]
      have le : rch Ls (a :: b :: t) p = lotF ((b :: t).map (goS Ls p)) := by
        have hb : InN n (b :: t) := fun x hx => he x (List.mem_cons_of_mem _ hx)
        rw [← lot_id hn he ha, rch_map hn h p _ hp he]
        refine lot_congr ((mapN h hp he).in12 hn) ((mapN h hp hb).in12 hn) fun k => ?_
        rw [List.map_cons, List.mem_cons, eab]
        constructor
        · rintro (rfl | z)
          · exact List.mem_map.mpr ⟨b, List.mem_cons_self, rfl⟩
          · exact z
        · exact .inr
      have hb : InN n ((b :: t).map (goS Ls p)) := mapN h hp fun x hx => he x (List.mem_cons_of_mem _ hx)
      have l1 := lot_le hn hb
      rw [List.length_map] at l1
      have l0 : 0 < (lotF ((b :: t).map (goS Ls p))).length := List.length_pos_of_mem ((lot_mem (hb.in12 hn) (goS Ls p b)).mpr (List.mem_map.mpr ⟨b, List.mem_cons_self, rfl⟩))
      obtain ⟨q, hq, e2⟩ := meet_all hn h hm k _ (by rw [List.length_cons] at hk; omega) l0 (lotN hn hb) (lot_asc _)
      exact ⟨p ++ q, hp.app hq, by rw [rch_app, le]; exact e2⟩
theorem upto_in (n : Nat) : InN n (upto n) := fun x hx => mem_upto.mp hx
/-- THE THIRD STEP -/
theorem none_iff {n : Nat} (hn : n ≤ 12) (h1 : 1 ≤ n) {Ls : List (List Int)} (h : LsOk n Ls) {r : Option (List Int)} (b : Best Ls (upto n) r) : r = none ↔ apartF Ls n ≠ [] := by
  constructor
  · rintro rfl e
    have hm : ∀ c ∈ couplesF n, ¬ Aprt Ls c := fun c hc ha => by
      have := apart_mem.mpr ⟨hc, ha⟩
      rw [e] at this
      exact List.not_mem_nil this
    obtain ⟨p, hp, e1⟩ := meet_all hn h hm n (upto n) (by rw [upto_len]; omega) (by rw [upto_len]; omega) (upto_in n) (upto_asc n)
    exact b p hp e1
  · intro ne
    cases r with
    | none => rfl
    | some p =>
      exfalso
      obtain ⟨c, hc⟩ := List.exists_mem_of_ne_nil _ ne
      obtain ⟨c1, c2⟩ := apart_mem.mp hc
      obtain ⟨b1, b2, _⟩ := b
      refine c2 p b1 ?_
      obtain ⟨i, l, _, _⟩ := couple_lot hn c1
      rw [← l, rch_map hn h p c b1 i]
      rw [← lot_id hn (upto_in n) (upto_asc n), rch_map hn h p _ b1 (upto_in n)] at b2
      obtain ⟨z, _, ez, _⟩ := lot_one ((mapN h b1 (upto_in n)).in12 hn) b2
      have al : ∀ x ∈ c.map (goS Ls p), x = z := fun x hx => by
        obtain ⟨s, hs, rfl⟩ := List.mem_map.mp hx
        exact ez _ (List.mem_map.mpr ⟨s, mem_upto.mpr (i s hs), rfl⟩)
      obtain ⟨a, b, rfl, _⟩ := couple_mem.mp c1
      have zi := mapN h b1 i
      have z0 : z ∈ ([a, b].map (goS Ls p)) := by
        have := al (goS Ls p a) (by simp)
        rw [← this]
        simp
      rw [← lot_eq (ns := [z]) (zi.in12 hn) (by simp) fun k => ?_]
      · rfl
      · rw [List.mem_singleton]
        exact ⟨fun e => by rw [e]; exact z0, al k⟩
end L2

namespace L2
open PySem PySem.Spec PyProof.Rows
/-- {k: v}, k a tuple -/
def tDisp1T (tk tv : TE) : TE := fun σ H Q => ∀ p, H p = none → tk σ (upd H p (.dT [])) fun x' H1 => tv σ H1 fun y' H2 => ∃ x y, [(x', y')] = [(x, y)] ∧ H2 p = some (.dT []) ∧ ∃ (ks : List Key) (b : Addr), x = .ref b ∧ H2 b = some (.tup (ks.map kV)) ∧ Q (.ref p) (upd H2 p (.dT [(ks, y)]))
theorem pe_disp1T {X : Cx} {pos : Pos} {k v : Expr} {tk tv : TE} (hu : X.A.units + 1 < cLine) (hk : PE X k tk) (hv : PE X v tv) : PE X (.Dict [some k] [v] pos) (tDisp1T tk tv) := by
  refine ⟨fun pins s σ H Q I q => ?_⟩
  have hn := I.hok.fresh (Nat.le_refl s.heap.objs.size)
  have I1 := I.laid (a := s.heap.objs.size) (o := .dT []) (h' := s.heap.push { cls := .type "dict", data := .dict #[] }) (t' := s.toks) (fun _ _ z => Heap.get?_push_of_some _ z) (Nat.le_refl _) (dt_empty s.heap I.big)
  rw [arm_eval_Dict, zip_pairTrees [some k] [v] X.env pos rfl rfl, dictDisplay_pairs _ (by intro z; cases z) (by show 1 < _; decide)]
  refine wpAny_bind (wpAny_standAt (wpAny_bind (wpAny_subDictH (knd := tupleKind (mixKind X.prog X.w)) (Q := fun d s' => wpAny (model X.prog X.w) X.A (pure (Value.ref d)) _ _ s') (Nat.lt_of_le_of_lt (Nat.le_add_right _ 1) hu) (by show 1 ≤ 15; decide) ?_)))
  refine thn ((pps_cons hk hv pps_nil).run pins _ σ _ (fun ps H2 => ∃ x y, ps = [(x, y)] ∧ H2 s.heap.objs.size = some (.dT []) ∧ ∃ (ks : List Key) (b : Addr), x = .ref b ∧ H2 b = some (.tup (ks.map kV)) ∧ Q (.ref s.heap.objs.size) (upd H2 s.heap.objs.size (.dT [(ks, y)]))) I1 ?_) fun ws s2 z => ?_
  · exact q _ hn
  · obtain ⟨ps, H2, I2, rel, x, y, rfl, e, ks, b, rfl, eb, q2⟩ := z
    cases rel with
    | @cons _ pr _ _ hq t =>
      cases t
      obtain ⟨u1, u2⟩ := pr
      obtain ⟨r1, r2⟩ := hq
      obtain rfl : u1 = Value.ref b := r1
      obtain ⟨_, hd, xs, rel0, dd⟩ := dt_of I2.hok e
      cases rel0
      have kb := key_of I2.hok eb
      refine ⟨[(ks, b, u2)], ⟨rfl, rfl, kb, True.intro⟩, dd, fun h' tk dd' hs => wpAny_pure ⟨.ref s.heap.objs.size, _, ?_, rfl, q2⟩⟩
      obtain ⟨o, es, ep, hq, h2, h3, h4, _, h5⟩ := dd'
      refine d_write I2 (by rw [e]; exact True.intro) hs ⟨o, hq⟩ ⟨by rw [sizeLine_eq]; show 1 ≤ 16777216; decide, hd, _, .cons ⟨rfl, ?_, r2⟩ .nil, o, es, ep, hq, h2, h3, h4, h5⟩
      show upd H2 s.heap.objs.size _ b = _
      rw [upd_ne (ne_of eb e (fun z => nomatch z))]
      exact eb
end L2

namespace L2
open PySem PySem.Spec PyProof.Rows Law
/-! ### the dict from lots to rows, the list of the lots that wait -/
inductive KvAt (K : PySem.W.Frag) (H : Hp) : List (List Key × V) → List Nd → Prop
  | nil : KvAt K H [] []
  | cons {v : V} {n : Nd} {kvs : List (List Key × V)} {D : List Nd} : RowAt K H v n.1 → KvAt K H kvs D → KvAt K H ((keyL n.2, v) :: kvs) (n :: D)
theorem KvAt.mono {K : PySem.W.Frag} {H H' : Hp} {kvs : List (List Key × V)} {D : List Nd} (f : ∀ v l, RowAt K H v l → RowAt K H' v l) (h : KvAt K H kvs D) : KvAt K H' kvs D := by
  induction h with
  | nil => exact .nil
  | cons r _ ih => exact .cons (f _ _ r) ih
theorem KvAt.snoc {K : PySem.W.Frag} {H : Hp} {kvs : List (List Key × V)} {D : List Nd} {v : V} {n : Nd} (h : KvAt K H kvs D) (r : RowAt K H v n.1) : KvAt K H (kvs ++ [(keyL n.2, v)]) (D ++ [n]) := by
  induction h with
  | nil => exact .cons r .nil
  | cons r' _ ih => exact .cons r' ih
theorem KvAt.len {K : PySem.W.Frag} {H : Hp} {kvs : List (List Key × V)} {D : List Nd} (h : KvAt K H kvs D) : kvs.length = D.length := by
  induction h with
  | nil => rfl
  | cons _ _ ih => rw [List.length_cons, List.length_cons, ih]
theorem KvAt.has {K : PySem.W.Frag} {H : Hp} {kvs : List (List Key × V)} {D : List Nd} (h : KvAt K H kvs D) (o : List Int) : (valV kvs (keyL o)).isSome = decide (o ∈ D.map (·.2)) := by
  induction h with
  | nil => rfl
  | @cons v n kvs D _ _ ih =>
    by_cases e : n.2 = o
    · subst e
      rw [valV_pos rfl, decide_eq_true (by simp)] <;> rfl
    · rw [valV_neg (fun z => e (keyL_inj z)), ih, List.map_cons]
      refine decide_eq_decide.mpr ⟨List.mem_cons_of_mem _, fun z => ?_⟩
      rcases List.mem_cons.mp z with z | z
      · exact absurd z.symm e
      · exact z
theorem KvAt.get {K : PySem.W.Frag} {H : Hp} {kvs : List (List Key × V)} {D : List Nd} (h : KvAt K H kvs D) (nd : (D.map (·.2)).Nodup) {n : Nd} (hn : n ∈ D) : ∃ v, valV kvs (keyL n.2) = some v ∧ RowAt K H v n.1 := by
  induction h with
  | nil => exact absurd hn List.not_mem_nil
  | @cons v m kvs D r _ ih =>
    rw [List.map_cons, List.nodup_cons] at nd
    rcases List.mem_cons.mp hn with rfl | hn
    · exact ⟨v, valV_pos rfl, r⟩
    · have ne : m.2 ≠ n.2 := fun e => nd.1 (by rw [e]; exact List.mem_map.mpr ⟨n, hn, rfl⟩)
      obtain ⟨u, h1, h2⟩ := ih nd.2 hn
      exact ⟨u, by rw [valV_neg (fun z => ne (keyL_inj z))]; exact h1, h2⟩
def LotAt (H : Hp) (v : V) (n : Nd) : Prop := ∃ a, v = .ref a ∧ H a = some (.tup (n.2.map V.int))
theorem LotAt.upd {H : Hp} {D : Addr} {o u : HO} {v : V} {n : Nd} (hD : H D = some o) (d : ∀ y, HO.tup y ≠ o) (h : LotAt H v n) : LotAt (L2.upd H D u) v n := by
  obtain ⟨a, h1, h2⟩ := h
  exact ⟨a, h1, by rw [upd_ne (ne_of h2 hD (d _))]; exact h2⟩
theorem LotAt.same {H H' : Hp} {v : V} {n : Nd} (s : Same H H') (h : LotAt H v n) : LotAt H' v n := by
  obtain ⟨a, h1, h2⟩ := h
  exact ⟨a, h1, s _ _ h2⟩
theorem RowAt.updO {K : PySem.W.Frag} {H : Hp} {D : Addr} {o u : HO} {v : V} {l : List Int} (hD : H D = some o) (d : ∀ y, HO.tup y ≠ o) (d2 : ∀ q y, HO.frz q (.tup y) ≠ o) (h : RowAt K H v l) : RowAt K (L2.upd H D u) v l := by
  obtain ⟨a, h1, h2⟩ := h
  refine ⟨a, h1, ?_⟩
  rcases h2 with (z | ⟨q, z⟩) | z
  · refine .inl (.inl ?_)
    rw [L2.upd_ne (ne_of z hD (d _))]
    exact z
  · refine .inl (.inr ⟨q, ?_⟩)
    rw [L2.upd_ne (ne_of z hD (d2 _ _))]
    exact z
  · exact .inr z
/-! ### there are at most 4096 lots -/
def subsL : List Int → List (List Int)
  | [] => [[]]
  | x :: xs => subsL xs ++ (subsL xs).map (x :: ·)
theorem subsL_len : ∀ xs : List Int, (subsL xs).length = 2 ^ xs.length
  | [] => rfl
  | x :: xs => by
    rw [subsL, List.length_append, List.length_map, subsL_len xs, List.length_cons, Nat.pow_succ]
    omega
theorem filter_subs (p : Int → Bool) : ∀ xs : List Int, xs.filter p ∈ subsL xs
  | [] => List.mem_singleton_self _
  | x :: xs => by
    rw [List.filter_cons, subsL, List.mem_append]
    split
    · exact .inr (List.mem_map.mpr ⟨_, filter_subs p xs, rfl⟩)
    · exact .inl (filter_subs p xs)
theorem lots_few {l : List (List Int)} (nd : l.Nodup) (h : ∀ c ∈ l, lotF c = c) : l.length ≤ 4096 := by
  have z := nd.length_le_of_subset (l₂ := subsL (upto 12)) fun c hc => by
    rw [← h c hc]
    exact filter_subs _ _
  rw [subsL_len, upto_len] at z
  exact z
theorem lotF_idem {e : List Int} (h : In12 e) : lotF (lotF e) = lotF e :=
  lot_congr (fun x hx => h x ((lot_mem h x).mp hx)) h fun k => lot_mem h k
/-- nodes: found ones -/
structure NdOk (n : Nat) (d : Nat) (m : Nd) : Prop where
  lot : lotF m.2 = m.2
  inn : InN n m.2
  len : m.2.length ≤ 12
  row : m.1.length ≤ d
theorem NdOk.more {n d d' : Nat} {m : Nd} (h : NdOk n d m) (hd : d ≤ d') : NdOk n d' m := ⟨h.lot, h.inn, h.len, Nat.le_trans h.row hd⟩
theorem leadsN {n : Nat} {xs c : List Int} (hn : n ≤ 12) (hx : LdOk n xs) (hc : InN n c) (hl : c.length ≤ 12) : lotF (leadsF xs c) = leadsF xs c ∧ InN n (leadsF xs c) ∧ (leadsF xs c).length ≤ 12 := by
  have i : InN n (c.map (stepS xs)) := fun x hx' => by
    obtain ⟨s, hs, rfl⟩ := List.mem_map.mp hx'
    exact stepS_in hx (hc s hs)
  have l := lot_le hn i
  rw [List.length_map] at l
  exact ⟨lotF_idem (i.in12 hn), lotN hn i, Nat.le_trans l hl⟩
/-- a node's expansion, move by move -/
theorem exp1_step (Ls : List (List Int)) (n : Nd) (i : Nat) (K : List (List Int)) : exp1 Ls n (i + 1) K = if leadsF (Ls.getD i []) n.2 ∈ (exp1 Ls n i K).1 then exp1 Ls n i K else ((exp1 Ls n i K).1 ++ [leadsF (Ls.getD i []) n.2], (exp1 Ls n i K).2 ++ [(n.1 ++ [(i : Int)], leadsF (Ls.getD i []) n.2)]) := rfl
end L2

namespace L2
open PySem PySem.Spec PyProof.Rows Law
/-- tuple + tuple, whatever they are -/
def rCatR (K : PySem.W.Frag) : R2 := fun x y H Q => ∃ a b xs ys, x = .ref a ∧ y = .ref b ∧ SqT K H a xs ∧ SqT K H b ys ∧ xs.length + ys.length ≤ sizeLine ∧ ∀ p H', Same H H' → SqT K H' p (xs ++ ys) → Q (.ref p) H'
theorem op_catR {X : Cx} : OpR X (binaryOp .Add) (rCatR X.K) := by
  intro pins s σ H x y v u Q I rx ry h
  obtain ⟨a, b, xs, ys, e1, e2, h1, h2, hl, q⟩ := h
  refine op_catA pins s σ H x y v u Q I rx ry ⟨a, b, xs, ys, e1, e2, h1, h2, hl, fun e => q b H (Same.refl H) (by rw [e]; exact h2), fun _ e => q a H (Same.refl H) (by rw [e, List.append_nil]; exact h1), fun _ _ p hp => q p _ (Same.new hp) (SqT.of upd_same)⟩
structure LeastI (K : PySem.W.Frag) (H : Hp) (R L : Addr) (many : Nat) (Dn W : List Nd) (H' : Hp) : Prop where
  same : Same H H'
  dic : ∃ kvs, H' R = some (.dT kvs) ∧ KvAt K H' kvs Dn
  lst : ∃ ws, H' L = some (.lst ws) ∧ AllIn (LotAt H') ws W
  nd : (Dn.map (·.2)).Nodup
  sub : ∀ n ∈ W, n ∈ Dn
  ok : ∀ n ∈ Dn, NdOk many Dn.length n
  wl : W.length ≤ Dn.length
theorem LeastI.more {K : PySem.W.Frag} {H H1 H2 : Hp} {R L : Addr} {many : Nat} {Dn W : List Nd} (h : LeastI K H R L many Dn W H1) (s : Same H1 H2) : LeastI K H R L many Dn W H2 := by
  obtain ⟨kvs, h1, h2⟩ := h.dic
  obtain ⟨ws, h3, h4⟩ := h.lst
  exact ⟨h.same.trans s, ⟨kvs, s _ _ h1, h2.mono fun _ _ => RowAt.same s⟩, ⟨ws, s _ _ h3, h4.mono fun _ _ => LotAt.same s⟩, h.nd, h.sub, h.ok, h.wl⟩
theorem LeastI.few {K : PySem.W.Frag} {H H1 : Hp} {R L : Addr} {many : Nat} {Dn W : List Nd} (h : LeastI K H R L many Dn W H1) : Dn.length ≤ 4096 := by
  have z := lots_few h.nd fun c hc => by
    obtain ⟨n, hn, rfl⟩ := List.mem_map.mp hc
    exact (h.ok n hn).lot
  rw [List.length_map] at z
  exact z
end L2

namespace Law
open PySem L2
theorem seq0 (v : V) (ws : List V) : seqIndex? 0 (v :: ws).length = some 0 := by
  unfold seqIndex?
  rw [if_neg (show ¬ ((0 : Int) < 0) by decide), List.length_cons]
  simp
theorem ls_len (ms : List Mv) : (LsOf ms).length = ms.length := by unfold LsOf; rw [List.length_map]
theorem ls_getD {ms : List Mv} {i : Nat} {m : Mv} (h : ms[i]? = some m) : (LsOf ms).getD i [] = m.2 := by
  unfold LsOf
  rw [List.getD_eq_getElem?_getD, List.getElem?_map, h] <;> rfl
section
variable {P : Program} {w : World} {K : PySem.W.Frag} {mg : Str → Option Value} {base : Heap}
def spRowTo (K : PySem.W.Frag) (C : Addr) : Sp := fun vs H Q _ => ∃ (q sa : Addr) (many : Nat) (ms : List Mv) (e : List Int), vs = [.ref q, .ref sa] ∧ SysAt K C H q many ms ∧ many ≤ 12 ∧ ms.length ≤ 24 ∧ (∀ m ∈ ms, MvOk many m) ∧ H sa = some (.tup (e.map V.int)) ∧ e.length ≤ 12 ∧ InN many e ∧ lotF e = e ∧
  ∀ (x : V) (r : Option (List Int)) (H' : Hp), Same H H' → PR (LsOf ms) [e] [([], e)] r → (match r with | none => x = .non | some l => RowAt K H' x l) → Q x H'
abbrev nLeastRowToOne : List Str := ["system", "start", "rows", "waiting", "lot", "number", "_", "leads", "other"]
theorem scLeastRowToOne : FnScope nLeastRowToOne ["system", "start"] (defScope s_least_row_to_one) := ⟨rfl, rfl, rfl, by decide +kernel, rfl, by decide +kernel, by decide +kernel⟩
theorem ok_least_row_to_one {f : Addr} {fd : FuncData} {fcLotLed : Addr} {fdcLotLed : FuncData} {C : Addr} (F : Fun K "least_row_to_one" "least_row_to_one" s_least_row_to_one f fd) (T : NmA mg) (cLotLed : Cl P w K mg base CX0 2 "lot_led" fcLotLed fdcLotLed ["leads", "lot"] (spLotLed K)) (S : SysT K mg C) : FnOk P w K mg base CX0 3 f fd ["system", "start"] (spRowTo K C) := by
  refine F.ok scLeastRowToOne (fun vs H Q E h => ?_) (fun cdv A' outer s H vs Q E hr h => ?_)
  · obtain ⟨q, sa, many, ms, e, rfl, _⟩ := h
    rfl
  · obtain ⟨q, sa, many, ms, e, rfl, hM, m12, ml, mo, hE, el, eN, eL, k⟩ := h
    have hu := hu_of hr
    refine ⟨_, pss_cons (ps_set (i := 2) scLeastRowToOne.nd rfl (Or.inl rfl) (pe_disp1T hu (pv 1) (pe_tup pa_nil)))
      (pss_cons (ps_set (i := 3) scLeastRowToOne.nd rfl (Or.inl rfl) (pe_lst (pa_cons (pv 1) pa_nil)))
      (pss_cons (ps_while PassesOwn.never (pt_truth (pv 3) (by intro _; rfl))
        (pss_cons (ps_set (i := 4) scLeastRowToOne.nd rfl (Or.inl rfl) (pe_bm PySem.F.plainAttrs_list PySem.F.slot_list_pop PySem.F.type_list_pop mt_popAt (pv 3) (pa_cons pe_int pa_nil)))
        (pss_cons (ps_if (pt_cmpR op_eq (pe_callB call_len_seq (by rfl) T.len PySem.boot_len (pa_cons (pv 4) pa_nil)) pe_int (nomark _))
          (pss_one (ps_ret (pe_dget hu (pv 2) (pv 4) (fun _ _ => rfl)))) pss_nil)
        (pss_one (ps_for PassesOwn.never rfl (pi_enumT (by rfl) T.enum (pa_cons (pe_fld (pv 0) rfl) pa_nil)) (pg_tup (by rfl) (pgs_cons (pg_name (i := 5) scLeastRowToOne.nd rfl (Or.inl rfl)) (pgs_cons (pg_tup (by rfl) (pgs_cons (pg_name (i := 6) scLeastRowToOne.nd rfl (Or.inl rfl)) (pgs_cons (pg_name (i := 7) scLeastRowToOne.nd rfl (Or.inl rfl)) pgs_nil))) pgs_nil)))
          (pss_cons (ps_set (i := 8) scLeastRowToOne.nd rfl (Or.inl rfl) (cLotLed.call (hr.mono (by decide)) (pa_cons (pv 7) (pa_cons (pv 4) pa_nil))))
          (pss_one (ps_if (pt_cmp (pc_dnotin hu (pv 8) (pv 2)))
            (pss_cons (ps_dput hu (pv 2) (pv 8) (pe_op op_catR (pe_dget hu (pv 2) (pv 4) (fun _ _ => rfl)) (pe_tup (pa_cons (pv 5) pa_nil))) rfl)
            (pss_one (ps_expr (pe_bm PySem.F.plainAttrs_list PySem.F.slot_list_append PySem.F.type_list_append mt_append (pv 3) (pa_cons (pv 8) pa_nil))))) pss_nil))))))))
      (pss_one (ps_ret pe_non)))), ?_⟩
    obtain ⟨dx, mv, hp, us, hV, hU⟩ := id hM
    refine fun R hR => ⟨_, rfl, by show 0 ≤ sizeLine; decide, fun p0 hp0 => ?_⟩
    have np : R ≠ p0 := ne_of_none upd_same hp0
    have nsR : sa ≠ R := ne_of_none hE hR
    have nsp : sa ≠ p0 := by
      refine ne_of_none (H := upd H R (.dT [])) (o := .tup (e.map V.int)) ?_ hp0
      rw [upd_ne nsR]
      exact hE
    refine ⟨_, _, rfl, by rw [upd_ne np]; exact upd_same, keyL e, sa, rfl, by rw [keyL_v, upd_ne nsp, upd_ne nsR]; exact hE, ?_⟩
    have s1 : Same H (upd (upd (upd H R (.dT [])) p0 (.tup [])) R (.dT [(keyL e, .ref p0)])) := (Same.new hR |>.trans (Same.new hp0)).mut hR
    have hr1 : RowAt K (upd (upd (upd H R (.dT [])) p0 (.tup [])) R (.dT [(keyL e, .ref p0)])) (.ref p0) [] := ⟨p0, rfl, SqT.of (by rw [upd_ne (Ne.symm np), upd_same] <;> rfl)⟩
    have hd1 : (upd (upd (upd H R (.dT [])) p0 (.tup [])) R (.dT [(keyL e, .ref p0)])) R = some (.dT [(keyL e, .ref p0)]) := upd_same
    generalize upd (upd (upd H R (.dT [])) p0 (.tup [])) R (.dT [(keyL e, .ref p0)]) = G1 at s1 hr1 hd1
    refine ⟨_, rfl, by show 1 ≤ sizeLine; decide, fun L hL => ?_⟩
    have hLH : H L = none := s1.free hL
    have nRL : R ≠ L := ne_of_none hd1 hL
    refine new_step hL fun G2 s2 e2 => ?_
    have I0 : LeastI K H R L many [([], e)] [([], e)] G2 := {
      same := s1.trans s2
      dic := ⟨_, s2 _ _ hd1, .cons (n := ([], e)) (hr1.same s2) .nil⟩
      lst := ⟨_, e2, AllIn.snoc AllIn.nil ⟨sa, rfl, s2 _ _ (s1 _ _ hE)⟩⟩
      nd := by simp
      sub := fun n h => h
      ok := fun n h => by
        rw [List.mem_singleton.mp h]
        exact ⟨eL, eN, el, Nat.zero_le _⟩
      wl := Nat.le_refl _ }
    refine ⟨fun m σ H' => ∃ Dn W : List Nd, LeastI K H R L many Dn W H' ∧ (∀ r, PR (LsOf ms) (Dn.map (·.2)) W r → PR (LsOf ms) [e] [([], e)] r) ∧ m = 2 * (4096 - Dn.length) + W.length ∧ ∃ u1 u2 u3 u4 u5 : Option V, σ = [some (.ref q), some (.ref sa), some (.ref R), some (.ref L), u1, u2, u3, u4, u5], ⟨_, [([], e)], [([], e)], I0, (by intro r h; exact h), rfl, none, none, none, none, none, rfl⟩, ?_⟩
    rintro m σ H' ⟨Dn, W, I, hpr, rfl, u1, u2, u3, u4, u5, rfl⟩
    obtain ⟨ws, hw, hW⟩ := I.lst
    refine ⟨_, rfl, _, .inl ⟨ws, SqL.of hw, rfl⟩, ite2 (fun c => ?_) (fun c => ?_)⟩
    · refine ⟨fun σ' H1 => ∃ m', m' < _ ∧ ∃ Dn W : List Nd, LeastI K H R L many Dn W H1 ∧ (∀ r, PR (LsOf ms) (Dn.map (·.2)) W r → PR (LsOf ms) [e] [([], e)] r) ∧ m' = 2 * (4096 - Dn.length) + W.length ∧ ∃ u1 u2 u3 u4 u5 : Option V, σ' = [some (.ref q), some (.ref sa), some (.ref R), some (.ref L), u1, u2, u3, u4, u5], fun _ _ h => h, ?_⟩
      match ws, W, hw, hW, c with
      | v :: ws, n :: W, hw, hW, _ =>
        have hn : n ∈ Dn := I.sub n List.mem_cons_self
        obtain ⟨kvs, hk, hK⟩ := I.dic
        obtain ⟨n', en, a, rfl, ha⟩ := hW.2 0 v rfl
        cases en
        have hW' : AllIn (LotAt H') ws W := ⟨by have := hW.1; simpa using this, fun i x hx => hW.2 (i + 1) x (by simpa using hx)⟩
        refine ⟨_, rfl, .inl ⟨rfl, _, SqL.of hw⟩, L, _, (0 : Int), 0, _, rfl, rfl, hw, by decide, by decide, seq0 _ _, rfl, ?_⟩
        have I1 : LeastI K H R L many Dn W (upd H' L (.lst ((V.ref a :: ws).eraseIdx 0))) := {
          same := I.same.mut hLH
          dic := ⟨kvs, by rw [upd_ne nRL]; exact hk, hK.mono fun _ _ z => z.upd hw⟩
          lst := ⟨ws, upd_same, hW'.mono fun _ _ z => z.upd hw (fun y h => by cases h)⟩
          nd := I.nd
          sub := fun m hm => I.sub m (List.mem_cons_of_mem _ hm)
          ok := I.ok
          wl := by have := I.wl; rw [List.length_cons] at this; omega }
        have ha1 : LotAt (upd H' L (.lst ((V.ref a :: ws).eraseIdx 0))) (.ref a) n := LotAt.upd (n := n) hw (fun y h => by cases h) ⟨a, rfl, ha⟩
        generalize upd H' L (.lst ((V.ref a :: ws).eraseIdx 0)) = G3 at I1 ha1
        obtain ⟨a', ea, ha1⟩ := ha1
        cases ea
        obtain ⟨kvs1, hk1, hK1⟩ := I1.dic
        have okn := I.ok n hn
        obtain ⟨vr, hv, hrow⟩ := hK1.get I1.nd hn
        have gt : DGet G3 R (.ref a) (some vr) := by
          rw [← hv]
          exact DGet.t hk1 (by rw [keyL_v]; exact ha1)
        refine ⟨_, rfl, a, _, rfl, .inr (SqT.of ha1), rfl, _, rfl, ite2 (fun c1 => ?_) (fun c1 => ?_)⟩
        · refine ⟨_, rfl, _, rfl, R, vr, rfl, gt, ?_⟩
          have l1 : n.2.length = 1 := by
            rw [dec_one, List.length_map] at c1
            exact eq_of_beq c1
          exact k vr (some n.1) G3 I1.same (hpr _ (.hit _ n W l1)) hrow
        · have l1 : n.2.length ≠ 1 := fun z => c1 (by rw [dec_one, List.length_map, z] <;> rfl)
          refine ⟨_, rfl, q, C, dx, _, _, rfl, I1.same _ _ hp, S.cl, S.nM, sysF_moves _ _, mv, us, rfl, I1.same.sqT hV, ?_⟩
          refine for_it walk_enumT (fun i σ H' => LeastI K H R L many (Dn ++ (exp1 (LsOf ms) n i (Dn.map (·.2))).2) (W ++ (exp1 (LsOf ms) n i (Dn.map (·.2))).2) H' ∧ (exp1 (LsOf ms) n i (Dn.map (·.2))).1 = (Dn ++ (exp1 (LsOf ms) n i (Dn.map (·.2))).2).map (·.2) ∧ H' a = some (.tup (n.2.map V.int)) ∧ ∃ u2 u3 u4 u5 : Option V, σ = [some (.ref q), some (.ref sa), some (.ref R), some (.ref L), some (.ref a), u2, u3, u4, u5]) ⟨by show LeastI K H R L many (Dn ++ []) (W ++ []) G3; rw [List.append_nil, List.append_nil]; exact I1, by rw [show (exp1 (LsOf ms) n 0 (Dn.map (·.2))).2 = ([] : List Nd) from rfl, List.append_nil] <;> rfl, ha1, u2, u3, u4, u5, rfl⟩ (fun i σ H' _ h => h.1.same.sqT hV) ?_ ?_
          · rintro i x σ H4 H5 hi ⟨I4, e4, a4, u2, u3, u4, u5, rfl⟩ ⟨t, y, rfl, ht, rfl, hy⟩
            obtain ⟨m, hm, aa, ss, la, rfl, h3, h4, h5⟩ := hU.2 i y hy
            obtain ⟨_, _, _, m1, m2⟩ := mo m (List.mem_of_getElem? hm)
            have im := (List.getElem?_eq_some_iff.mp hm).1
            have s5 : Same H4 (upd H4 t (.tup [.int (i : Nat), .ref aa])) := Same.new ht
            have e5 : (upd H4 t (.tup [.int (i : Nat), .ref aa])) t = some (.tup [.int (i : Nat), .ref aa]) := upd_same
            generalize upd H4 t (.tup [.int (i : Nat), .ref aa]) = H5 at s5 e5
            have I5 := I4.more s5
            have a5 := s5 _ _ a4
            refine ⟨t, _, rfl, SqT.of e5, rfl, _, _, rfl, _, _, rfl, aa, _, rfl, I5.same.sqT h3, rfl, _, _, rfl, _, _, rfl, rfl, rfl, ?_⟩
            have lN := leadsN m12 ⟨m1, m2⟩ okn.inn okn.len
            refine ⟨_, rfl, _, rfl, la, a, m.2, n.2, rfl, I5.same.sqT h5, SqT.of a5, okn.len, fun s hs => by rw [m1]; exact okn.inn s hs, fun s hs => by have := m2 s hs; omega, fun l H6 s6 e6 => ?_⟩
            have I6 := I5.more s6
            obtain ⟨kv6, hk6, hK6⟩ := I6.dic
            obtain ⟨ws6, hw6, hW6⟩ := I6.lst
            refine ⟨_, rfl, _, rfl, R, _, rfl, DGet.t hk6 (by rw [keyL_v]; exact e6), _, rfl, ?_⟩
            rw [hK6.has, ← e4]
            have st := exp1_step (LsOf ms) n i (Dn.map (·.2))
            rw [ls_getD hm] at st
            refine ite2 (fun c2 => ?_) (fun c2 => ?_)
            · have nin : leadsF m.2 n.2 ∉ (exp1 (LsOf ms) n i (Dn.map (·.2))).1 := fun z => by
                rw [decide_eq_true z] at c2
                cases c2
              rw [if_neg nin] at st
              have hn6 : n ∈ Dn ++ (exp1 (LsOf ms) n i (Dn.map (·.2))).2 := List.mem_append_left _ hn
              obtain ⟨vr6, hv6, ra, rfl, hrow6⟩ := hK6.get I6.nd hn6
              have ok6 := I6.ok n hn6
              have fw := I6.few
              have gt6 : DGet H6 R (.ref a) (some (.ref ra)) := by
                rw [← hv6]
                exact DGet.t hk6 (by rw [keyL_v]; exact s6 _ _ a5)
              refine ⟨_, rfl, _, rfl, R, _, rfl, gt6, _, rfl, by show 1 ≤ sizeLine; decide, fun tb htb => ?_⟩
              refine new_step htb fun H7 s7 e7 => ?_
              refine ⟨ra, tb, _, _, rfl, rfl, s7.sqT hrow6, SqT.of e7, by have := ok6.row; rw [List.length_map, sizeLine_eq]; show _ + 1 ≤ _; omega, fun rb H8 s8 e8 => ?_⟩
              have s68 := s7.trans s8
              have I8 := I6.more s68
              obtain ⟨kv8, hk8, hK8⟩ := I8.dic
              obtain ⟨ws8, hw8, hW8⟩ := I8.lst
              have l8 := s68 _ _ e6
              have kl8 := hK8.len
              refine ⟨_, rfl, _, rfl, R, _, rfl, DPut.t (k := keyL (leadsF m.2 n.2)) hk8 (by rw [keyL_v]; exact l8) (by rw [kl8, sizeLine_eq]; omega), ?_⟩
              have hnone : valV kv8 (keyL (leadsF m.2 n.2)) = none := by
                have z := hK8.has (leadsF m.2 n.2)
                rw [← e4, decide_eq_false nin] at z
                cases h : valV kv8 (keyL (leadsF m.2 n.2)) with
                | none => rfl
                | some _ => rw [h] at z; cases z
              rw [putK_new _ hnone]
              have hwR : (upd H8 R (.dT (kv8 ++ [(keyL (leadsF m.2 n.2), .ref rb)]))) L = some (.lst ws8) := by
                rw [upd_ne (Ne.symm nRL)]
                exact hw8
              refine ⟨_, rfl, .inl ⟨rfl, _, SqL.of hwR⟩, _, rfl, L, ws8, _, rfl, rfl, hwR, ?_, ?_⟩
              · have w8 := hW8.1
                have nW := I6.wl
                rw [w8, sizeLine_eq]
                omega
              have dT : ∀ y, HO.tup y ≠ HO.dT kv8 := fun y h => by cases h
              have dT2 : ∀ q y, HO.frz q (.tup y) ≠ HO.dT kv8 := fun q y h => by cases h
              have dL : ∀ y, HO.tup y ≠ HO.lst ws8 := fun y h => by cases h
              have dL2 : ∀ q y, HO.frz q (.tup y) ≠ HO.lst ws8 := fun q y h => by cases h
              have up1 : ∀ (H9 : Hp), H9 = upd (upd H8 R (.dT (kv8 ++ [(keyL (leadsF m.2 n.2), .ref rb)]))) L (.lst (ws8 ++ [.ref l])) → ∀ v y, RowAt K H8 v y → RowAt K H9 v y := fun H9 e9 v y z => by
                rw [e9]
                exact (z.updO hk8 dT dT2).updO hwR dL dL2
              have up2 : ∀ (H9 : Hp), H9 = upd (upd H8 R (.dT (kv8 ++ [(keyL (leadsF m.2 n.2), .ref rb)]))) L (.lst (ws8 ++ [.ref l])) → ∀ v y, LotAt H8 v y → LotAt H9 v y := fun H9 e9 v y z => by
                rw [e9]
                exact (z.upd hk8 dT).upd hwR dL
              have s9 : Same H (upd (upd H8 R (.dT (kv8 ++ [(keyL (leadsF m.2 n.2), .ref rb)]))) L (.lst (ws8 ++ [.ref l]))) := (I8.same.mut hR).mut hLH
              have r9 : (upd (upd H8 R (.dT (kv8 ++ [(keyL (leadsF m.2 n.2), .ref rb)]))) L (.lst (ws8 ++ [.ref l]))) R = some (.dT (kv8 ++ [(keyL (leadsF m.2 n.2), .ref rb)])) := by
                rw [upd_ne nRL, upd_same]
              have l9 : (upd (upd H8 R (.dT (kv8 ++ [(keyL (leadsF m.2 n.2), .ref rb)]))) L (.lst (ws8 ++ [.ref l]))) L = some (.lst (ws8 ++ [.ref l])) := upd_same
              generalize upd (upd H8 R (.dT (kv8 ++ [(keyL (leadsF m.2 n.2), .ref rb)]))) L (.lst (ws8 ++ [.ref l])) = H9 at up1 up2 s9 r9 l9
              have up1 := up1 H9 rfl
              have up2 := up2 H9 rfl
              rw [st]
              have lenD : (Dn ++ (exp1 (LsOf ms) n i (Dn.map (·.2))).2 ++ [(n.1 ++ [(i : Int)], leadsF m.2 n.2)]).length = (Dn ++ (exp1 (LsOf ms) n i (Dn.map (·.2))).2).length + 1 := by rw [List.length_append] <;> rfl
              refine ⟨?_, ?_, ?_, _, _, _, _, rfl⟩
              · show LeastI K H R L many (Dn ++ ((exp1 (LsOf ms) n i (Dn.map (·.2))).2 ++ [(n.1 ++ [(i : Int)], leadsF m.2 n.2)])) (W ++ ((exp1 (LsOf ms) n i (Dn.map (·.2))).2 ++ [(n.1 ++ [(i : Int)], leadsF m.2 n.2)])) H9
                rw [← List.append_assoc, ← List.append_assoc]
                refine ⟨s9, ⟨_, r9, (hK8.mono up1).snoc (n := (n.1 ++ [(i : Int)], leadsF m.2 n.2)) (up1 _ _ ⟨rb, rfl, by rw [List.map_append]; exact e8⟩)⟩, ⟨_, l9, (hW8.mono up2).snoc (up2 _ (n.1 ++ [(i : Int)], leadsF m.2 n.2) ⟨l, rfl, l8⟩)⟩, ?_, ?_, ?_, ?_⟩
                · rw [List.map_append, List.nodup_append]
                  refine ⟨I6.nd, by simp, fun x hx y hy e => ?_⟩
                  rw [List.map_cons, List.map_nil, List.mem_singleton] at hy
                  rw [← e4] at hx
                  have ex : x = leadsF m.2 n.2 := e.trans hy
                  rw [ex] at hx
                  exact nin hx
                · intro z hz
                  rcases List.mem_append.mp hz with z1 | z1
                  · exact List.mem_append_left _ (I6.sub z z1)
                  · exact List.mem_append_right _ z1
                · intro z hz
                  rw [lenD]
                  rcases List.mem_append.mp hz with z1 | z1
                  · exact (I6.ok z z1).more (Nat.le_succ _)
                  · rw [List.mem_singleton.mp z1]
                    refine ⟨lN.1, lN.2.1, lN.2.2, ?_⟩
                    have := ok6.row
                    show (n.1 ++ [(i : Int)]).length ≤ _
                    rw [List.length_append]
                    show n.1.length + 1 ≤ _
                    omega
                · have := I6.wl
                  rw [lenD, List.length_append]
                  show _ + 1 ≤ _
                  omega
              · show (exp1 (LsOf ms) n i (Dn.map (·.2))).1 ++ [leadsF m.2 n.2] = (Dn ++ ((exp1 (LsOf ms) n i (Dn.map (·.2))).2 ++ [(n.1 ++ [(i : Int)], leadsF m.2 n.2)])).map (·.2)
                rw [e4, ← List.append_assoc, List.map_append (l₁ := Dn ++ _)] <;> rfl
              · obtain ⟨az, ez, hz⟩ := up2 (.ref a) n ⟨a, rfl, s68 _ _ (s6 _ _ a5)⟩
                cases ez
                exact hz
            · have isin : leadsF m.2 n.2 ∈ (exp1 (LsOf ms) n i (Dn.map (·.2))).1 := by
                refine Classical.byContradiction fun z => c2 ?_
                rw [decide_eq_false z] <;> rfl
              rw [if_pos isin] at st
              rw [st]
              exact ⟨I6, e4, s6 _ _ a5, _, _, _, _, rfl⟩
          · rintro σ H4 ⟨I4, e4, a4, u2, u3, u4, u5, rfl⟩
            have ul : us.length = ms.length := hU.1
            rw [ul, ← ls_len] at I4 e4
            have fw := I4.few
            rw [List.length_append] at fw
            refine ⟨_, ?_, _, _, I4, fun r h => hpr r (.step _ n W r l1 ?_), rfl, _, _, _, _, _, rfl⟩
            · rw [List.length_append, List.length_append, List.length_cons]
              omega
            · show PR (LsOf ms) (exp1 (LsOf ms) n (LsOf ms).length (Dn.map (·.2))).1 _ r
              rw [e4]
              exact h
      | [], _, _, _, c => cases c
      | v :: ws, [], _, hW, _ => exact absurd hW.1 (by simp)
    · have w0 : ws = [] := by
        cases ws with
        | nil => rfl
        | cons _ _ => exact absurd rfl c
      subst w0
      have W0 : W = [] := by
        cases W with
        | nil => rfl
        | cons _ _ => exact absurd hW.1 (by simp)
      subst W0
      exact k .non none H' I.same (hpr none (.nil _)) rfl
end
end Law


namespace Law
open PySem L2
section
variable {P : Program} {w : World} {K : PySem.W.Frag} {mg : Str → Option Value} {base : Heap}
def spMrow (K : PySem.W.Frag) (C : Addr) : Sp := fun vs H Q _ => ∃ (q : Addr) (many : Nat) (ms : List Mv), vs = [.ref q] ∧ SysAt K C H q many ms ∧ many ≤ 12 ∧ ms.length ≤ 24 ∧ (∀ m ∈ ms, MvOk many m) ∧
  ∀ (x : V) (r : Option (List Int)) (H' : Hp), Same H H' → PR (LsOf ms) [upto many] [([], upto many)] r → (match r with | none => x = .non | some l => RowAt K H' x l) → Q x H'
abbrev nMergingRow : List Str := ["system"]
theorem scMergingRow : FnScope nMergingRow ["system"] (defScope s_merging_row) := ⟨rfl, rfl, rfl, by decide +kernel, rfl, by decide +kernel, by decide +kernel⟩
theorem ok_merging_row {f : Addr} {fd : FuncData} {fcLeast : Addr} {fdcLeast : FuncData} {C : Addr} (F : Fun K "merging_row" "merging_row" s_merging_row f fd) (T : NmA mg) (cLeast : Cl P w K mg base CX0 3 "least_row_to_one" fcLeast fdcLeast ["system", "start"] (spRowTo K C)) (S : SysT K mg C) : FnOk P w K mg base CX0 4 f fd ["system"] (spMrow K C) := by
  refine F.ok scMergingRow (fun vs H Q E h => ?_) (fun cdv A' outer s H vs Q E hr h => ?_)
  · obtain ⟨q, many, ms, rfl, _⟩ := h
    rfl
  · obtain ⟨q, many, ms, rfl, hM, m12, ml, mo, k⟩ := h
    have hu := hu_of hr
    refine ⟨_, pss_one (ps_ret (cLeast.call (hr.mono (by decide)) (pa_cons (pv 0) (pa_cons (pe_tupRg (by rfl) (by rfl) T.tuple (prg_1 (by rfl) T.range (pe_fld (pv 0) rfl))) pa_nil)))), ?_⟩
    obtain ⟨dx, mv, hp, us, hV, hU⟩ := id hM
    refine ⟨_, rfl, _, rfl, q, C, dx, _, _, rfl, hp, S.cl, S.nK, sysF_many _ _, (many : Int), rfl, ?_⟩
    refine ⟨RgOk.of_le (by decide) (by omega) (by decide) (by omega), fun T hT => ?_⟩
    refine new_step hT fun H1 s1 e1 => ?_
    rw [rgV_up] at e1
    exact ⟨q, T, many, ms, upto many, rfl, hM.same s1, m12, ml, mo, e1, by rw [upto_len]; exact m12, upto_in many, lot_id m12 (upto_in many) (upto_asc many), fun x r H2 s2 hr hx => k x r H2 (s1.trans s2) hr hx⟩
end
end Law



namespace L2
open PySem PySem.Spec PyProof.Rows
end L2
namespace Law
open PySem L2
/-! ### lots -/
def aheadF (mv e : List Int) : List Int := mv.map fun s => e.getD s.toNat 0
def endsF (Ls : List (List Int)) (many : Nat) (cs : List Int) : List Int := cs.foldl (fun e c => aheadF (Ls.getD c.toNat []) e) (upto many)
structure LdsOk (many : Nat) (Ls : List (List Int)) : Prop where
  m1 : 1 ≤ many
  m2 : many ≤ 12
  ld : ∀ xs ∈ Ls, xs.length = many ∧ ∀ x ∈ xs, 0 ≤ x ∧ x < (many : Int)
def InM (many : Nat) (e : List Int) : Prop := ∀ x ∈ e, 0 ≤ x ∧ x < (many : Int)
theorem InM.in12 {many : Nat} {e : List Int} (h : InM many e) (h2 : many ≤ 12) : In12 e := fun x hx => by
  have := h x hx
  omega
def CsOk (n : Nat) (cs : List Int) : Prop := ∀ c ∈ cs, 0 ≤ c ∧ c < (n : Int)
theorem getD_of {α : Type} {xs : List α} {i : Nat} {d : α} (h : i < xs.length) : xs.getD i d = xs[i] := by
  rw [List.getD_eq_getElem?_getD, List.getElem?_eq_getElem h] <;> rfl
theorem ld_at {many : Nat} {Ls : List (List Int)} (ok : LdsOk many Ls) {c : Int} (h : 0 ≤ c ∧ c < ((Ls.length : Nat) : Int)) : ∃ xs, Ls[c.toNat]? = some xs ∧ Ls.getD c.toNat [] = xs ∧ xs.length = many ∧ InM many xs := by
  have h1 : c.toNat < Ls.length := by omega
  obtain ⟨a, b⟩ := ok.ld _ (List.getElem_mem h1)
  exact ⟨Ls[c.toNat], List.getElem?_eq_getElem h1, getD_of h1, a, b⟩
theorem ahead_ok {many : Nat} {mv e : List Int} (h : InM many mv) (he : e.length = many) (hi : InM many e) : (aheadF mv e).length = mv.length ∧ InM many (aheadF mv e) ∧ ∀ x ∈ aheadF mv e, x ∈ e := by
  refine ⟨by unfold aheadF; rw [List.length_map], ?_⟩
  have key : ∀ x ∈ aheadF mv e, x ∈ e := fun x hx => by
    obtain ⟨s, hs, rfl⟩ := List.mem_map.mp hx
    have := h s hs
    have hl : s.toNat < e.length := by omega
    rw [getD_of hl]
    exact List.getElem_mem hl
  exact ⟨fun x hx => hi x (key x hx), key⟩
theorem uptoM_in (many : Nat) : InM many (upto many) := fun _ hx => mem_upto.mp hx
theorem ext_at {α : Type} {n : Nat} {a b : List α} (ha : a.length = n) (hb : b.length = n) (h : ∀ i, i < n → a[i]? = b[i]?) : a = b := by
  refine List.ext_getElem? fun i => ?_
  rcases Nat.lt_or_ge i n with c | c
  · exact h i c
  · rw [List.getElem?_eq_none (by omega), List.getElem?_eq_none (by omega)]
theorem ahead_upto {many : Nat} {e : List Int} (he : e.length = many) : aheadF (upto many) e = e := by
  refine ext_at (n := many) (by unfold aheadF; rw [List.length_map, upto_len]) he fun i hi => ?_
  have hi' : i < e.length := by omega
  unfold aheadF
  rw [List.getElem?_map, upto_get hi, List.getElem?_eq_getElem hi']
  show some (e.getD ((i : Int)).toNat 0) = _
  rw [Int.toNat_natCast, getD_of hi']
theorem ends_snoc (Ls : List (List Int)) (many : Nat) (cs : List Int) (c : Int) : endsF Ls many (cs ++ [c]) = aheadF (Ls.getD c.toNat []) (endsF Ls many cs) := by
  unfold endsF
  rw [List.foldl_append] <;> rfl
theorem ends_gen {many : Nat} {Ls : List (List Int)} (ok : LdsOk many Ls) : ∀ (cs e : List Int), CsOk Ls.length cs → e.length = many → InM many e →
    (cs.foldl (fun e c => aheadF (Ls.getD c.toNat []) e) e).length = many ∧ InM many (cs.foldl (fun e c => aheadF (Ls.getD c.toNat []) e) e) ∧ ∀ x ∈ cs.foldl (fun e c => aheadF (Ls.getD c.toNat []) e) e, x ∈ e
  | [], e, _, he, hi => ⟨he, hi, fun _ h => h⟩
  | c :: cs, e, hc, he, hi => by
    obtain ⟨xs, _, e2, x1, x2⟩ := ld_at ok (hc c List.mem_cons_self)
    obtain ⟨a1, a2, a3⟩ := ahead_ok x2 he hi
    obtain ⟨b1, b2, b3⟩ := ends_gen ok cs (aheadF xs e) (fun y hy => hc y (List.mem_cons_of_mem _ hy)) (by rw [a1, x1]) a2
    rw [List.foldl_cons, e2]
    exact ⟨b1, b2, fun x hx => a3 x (b3 x hx)⟩
theorem ends_ok {many : Nat} {Ls : List (List Int)} (ok : LdsOk many Ls) {cs : List Int} (hc : CsOk Ls.length cs) : (endsF Ls many cs).length = many ∧ InM many (endsF Ls many cs) := by
  obtain ⟨a, b, _⟩ := ends_gen ok cs (upto many) hc (upto_len many) (uptoM_in many)
  exact ⟨a, b⟩
theorem ends_app {many : Nat} {Ls : List (List Int)} (ok : LdsOk many Ls) {cs ds : List Int} (hc : CsOk Ls.length cs) (hd : CsOk Ls.length ds) : ∀ x ∈ endsF Ls many (cs ++ ds), x ∈ endsF Ls many cs := by
  obtain ⟨a, b⟩ := ends_ok ok hc
  unfold endsF
  rw [List.foldl_append]
  exact (ends_gen ok ds _ hd a b).2.2
/-- of the states of st, one alone is left behind so many coins -/
def selF (Ls : List (List Int)) (many : Nat) (st cs : List Int) (k : Nat) : List Int := aheadF st (endsF Ls many (cs.take k))
def oneF (Ls : List (List Int)) (many : Nat) (st cs : List Int) (k : Nat) : Bool := decide ((lotF (selF Ls many st cs k)).length = 1)
theorem CsOk.take {n : Nat} {cs : List Int} (h : CsOk n cs) (k : Nat) : CsOk n (cs.take k) := fun c hc => h c (List.mem_of_mem_take hc)
theorem CsOk.drop {n : Nat} {cs : List Int} (h : CsOk n cs) (k : Nat) : CsOk n (cs.drop k) := fun c hc => h c (List.mem_of_mem_drop hc)
theorem sel_all {many : Nat} {Ls : List (List Int)} (ok : LdsOk many Ls) {cs : List Int} (hc : CsOk Ls.length cs) (k : Nat) : selF Ls many (upto many) cs k = endsF Ls many (cs.take k) := ahead_upto (ends_ok ok (hc.take k)).1
theorem sel_in {many : Nat} {Ls : List (List Int)} (ok : LdsOk many Ls) {st cs : List Int} (hs : InM many st) (hc : CsOk Ls.length cs) (k : Nat) : InM many (selF Ls many st cs k) ∧ (selF Ls many st cs k).length = st.length := by
  obtain ⟨a, b⟩ := ends_ok ok (hc.take k)
  obtain ⟨c, d, _⟩ := ahead_ok hs a b
  exact ⟨d, c⟩
/-- once all are one they stay the same one -/
theorem one_stays {many : Nat} {Ls : List (List Int)} (ok : LdsOk many Ls) {cs : List Int} (hc : CsOk Ls.length cs) {j k : Nat} (hj : j ≤ k) (h1 : oneF Ls many (upto many) cs j = true) : lotF (selF Ls many (upto many) cs k) = lotF (selF Ls many (upto many) cs j) := by
  have h1 := of_decide_eq_true h1
  rw [sel_all ok hc] at h1 ⊢
  rw [sel_all ok hc]
  have m2 := ok.m2
  have m1 := ok.m1
  obtain ⟨aj, bj⟩ := ends_ok ok (hc.take j)
  obtain ⟨ak, bk⟩ := ends_ok ok (hc.take k)
  obtain ⟨z, e1, e2, e3⟩ := lot_one (bj.in12 m2) h1
  have sub : ∀ x ∈ endsF Ls many (cs.take k), x = z := fun x hx => by
    have t : cs.take k = cs.take j ++ (cs.drop j).take (k - j) := by
      rw [← List.take_add]
      congr 1
      omega
    rw [t] at hx
    exact e2 x (ends_app ok (hc.take j) ((hc.drop j).take (k - j)) x hx)
  refine lot_congr (bk.in12 m2) (bj.in12 m2) fun x => ⟨fun hx => by rw [sub x hx]; exact e3, fun hx => ?_⟩
  rw [e2 x hx]
  have l0 : 0 < (endsF Ls many (cs.take k)).length := by omega
  have := sub _ (List.getElem_mem l0)
  rw [← this]
  exact List.getElem_mem l0
/-! ### looks -/
def plS (b : Bool) : Str := if b = true then "one" else "double"
def lkM (b : Bool) (n j : Nat) : Prop := j ≤ n ∧ (b = true ∨ j = 0 ∨ ∃ i, j = 2 ^ i)
structure IsLk (b : Bool) (n : Nat) (ks : List Nat) : Prop where
  asc : ks.Pairwise (· < ·)
  mem : ∀ j, j ∈ ks ↔ lkM b n j
/-- the first look at which P holds, or the last one -/
structure Pick (b : Bool) (n : Nat) (P : Nat → Bool) (k : Nat) : Prop where
  at_ : lkM b n k
  ahead : ∀ j, lkM b n j → j < k → P j = false
  end_ : P k = true ∨ ((∀ j, lkM b n j → j ≤ k) ∧ P k = false)
theorem Pick.uniq {b : Bool} {n : Nat} {P : Nat → Bool} {k k' : Nat} (h : Pick b n P k) (h' : Pick b n P k') : k = k' := by
  rcases Nat.lt_trichotomy k k' with c | c | c
  · have z := h'.ahead k h.at_ c
    rcases h.end_ with e | e
    · rw [z] at e
      cases e
    · have := e.1 k' h'.at_
      omega
  · exact c
  · have z := h.ahead k' h'.at_ c
    rcases h'.end_ with e | e
    · rw [z] at e
      cases e
    · have := e.1 k h.at_
      omega
theorem zero_look (b : Bool) (n : Nat) : lkM b n 0 := ⟨Nat.zero_le _, .inr (.inl rfl)⟩
theorem last_look {n k : Nat} {P : Nat → Bool} (h : Pick true n P k) (h0 : P k = false) : k = n := by
  rcases h.end_ with e | e
  · rw [h0] at e
    cases e
  · have := e.1 n ⟨Nat.le_refl _, .inl rfl⟩
    have := h.at_.1
    omega
/-- by the looks in their order -/
theorem pick_hit {b : Bool} {n : Nat} {P : Nat → Bool} {ks : List Nat} (h : IsLk b n ks) {i k : Nat} (hi : ks[i]? = some k) (hb : ∀ j x, j < i → ks[j]? = some x → P x = false) (hP : P k = true) : Pick b n P k := by
  refine ⟨(h.mem k).mp (List.mem_of_getElem? hi), fun j hj hjk => ?_, .inl hP⟩
  obtain ⟨m, hm, e⟩ := List.getElem_of_mem ((h.mem j).mpr hj)
  obtain ⟨hil, hik⟩ := List.getElem?_eq_some_iff.mp hi
  by_cases c : m < i
  · exact hb m j c (by rw [List.getElem?_eq_getElem hm, e])
  · have : k ≤ j := by
      rcases Nat.lt_or_ge i m with c2 | c2
      · have := List.pairwise_iff_getElem.mp h.asc i m hil hm c2
        omega
      · have : i = m := by omega
        subst this
        omega
    omega
theorem pick_end {b : Bool} {n : Nat} {P : Nat → Bool} {ks : List Nat} (h : IsLk b n ks) {k : Nat} (hl : ks.getLast? = some k) (hb : ∀ j x : Nat, ks[j]? = some x → P x = false) : Pick b n P k := by
  have hk : k ∈ ks := List.mem_of_getLast? hl
  have all : ∀ j, lkM b n j → P j = false := fun j hj => by
    obtain ⟨m, hm, e⟩ := List.getElem_of_mem ((h.mem j).mpr hj)
    exact hb m j (by rw [List.getElem?_eq_getElem hm, e])
  refine ⟨(h.mem k).mp hk, fun j hj _ => all j hj, .inr ⟨fun j hj => ?_, all k ((h.mem k).mp hk)⟩⟩
  obtain ⟨m, hm, e⟩ := List.getElem_of_mem ((h.mem j).mpr hj)
  rw [List.getLast?_eq_getElem?] at hl
  obtain ⟨q1, q2⟩ := List.getElem?_eq_some_iff.mp hl
  rcases Nat.lt_or_ge m (ks.length - 1) with c | c
  · have := List.pairwise_iff_getElem.mp h.asc m (ks.length - 1) hm q1 c
    omega
  · have : m = ks.length - 1 := by omega
    subst this
    omega
theorem lk_one (n : Nat) : IsLk true n (List.range (n + 1)) := ⟨List.pairwise_lt_range, fun j => by
  rw [List.mem_range]
  exact ⟨fun h => ⟨by omega, .inl rfl⟩, fun h => by have := h.1; omega⟩⟩
def dblF (k : Nat) : List Nat := 0 :: (List.range k).map fun i => 2 ^ i
theorem pow_lt {a b : Nat} (h : a < b) : 2 ^ a < 2 ^ b := Nat.pow_lt_pow_right (by decide) h
theorem dbl_snoc (k : Nat) : dblF (k + 1) = dblF k ++ [2 ^ k] := by
  unfold dblF
  rw [List.range_succ, List.map_append] <;> rfl
theorem lk_dbl {n k : Nat} (h1 : ∀ i, i < k → 2 ^ i ≤ n) (h2 : n < 2 ^ k) : IsLk false n (dblF k) := by
  refine ⟨?_, fun j => ?_⟩
  · unfold dblF
    rw [List.pairwise_cons]
    refine ⟨fun x hx => ?_, ?_⟩
    · obtain ⟨i, _, rfl⟩ := List.mem_map.mp hx
      exact Nat.two_pow_pos i
    · rw [List.pairwise_map]
      exact List.Pairwise.imp pow_lt List.pairwise_lt_range
  · unfold dblF
    rw [List.mem_cons, List.mem_map]
    constructor
    · rintro (rfl | ⟨i, hi, rfl⟩)
      · exact zero_look _ _
      · exact ⟨h1 i (List.mem_range.mp hi), .inr (.inr ⟨i, rfl⟩)⟩
    · rintro ⟨a, b | b | ⟨i, rfl⟩⟩
      · cases b
      · exact .inl b
      · refine .inr ⟨i, List.mem_range.mpr ?_, rfl⟩
        rcases Nat.lt_or_ge i k with c | c
        · exact c
        · have : 2 ^ k ≤ 2 ^ i := Nat.pow_le_pow_right (by decide) c
          omega
def lits : List Nat := [0, 1, 2, 4, 8, 16, 32, 64, 128, 256]
theorem lk_lits {n : Nat} (h : n ≤ 400) : IsLk false n (lits.filter fun x => decide (x ≤ n)) := by
  refine ⟨List.Pairwise.filter _ (by decide), fun j => ?_⟩
  rw [List.mem_filter, decide_eq_true_iff]
  constructor
  · rintro ⟨a, b⟩
    refine ⟨b, .inr ?_⟩
    simp only [lits, List.mem_cons, List.not_mem_nil, or_false] at a
    rcases a with rfl | rfl | rfl | rfl | rfl | rfl | rfl | rfl | rfl | rfl
    · exact .inl rfl
    · exact .inr ⟨0, rfl⟩
    · exact .inr ⟨1, rfl⟩
    · exact .inr ⟨2, rfl⟩
    · exact .inr ⟨3, rfl⟩
    · exact .inr ⟨4, rfl⟩
    · exact .inr ⟨5, rfl⟩
    · exact .inr ⟨6, rfl⟩
    · exact .inr ⟨7, rfl⟩
    · exact .inr ⟨8, rfl⟩
  · rintro ⟨a, b | rfl | ⟨i, rfl⟩⟩
    · cases b
    · exact ⟨by decide, a⟩
    · refine ⟨?_, a⟩
      have hi : i < 9 := by
        rcases Nat.lt_or_ge i 9 with c | c
        · exact c
        · have : 2 ^ 9 ≤ 2 ^ i := Nat.pow_le_pow_right (by decide) c
          omega
      match i, hi with
      | 0, _ => decide
      | 1, _ => decide
      | 2, _ => decide
      | 3, _ => decide
      | 4, _ => decide
      | 5, _ => decide
      | 6, _ => decide
      | 7, _ => decide
      | 8, _ => decide
theorem lk_filter {n : Nat} : IsLk true n ((List.range (n + 1)).filter fun x => decide (x ≤ n)) := by
  have e : (List.range (n + 1)).filter (fun x => decide (x ≤ n)) = List.range (n + 1) := by
    rw [List.filter_eq_self]
    intro x hx
    have := List.mem_range.mp hx
    exact decide_eq_true (by omega)
  rw [e]
  exact lk_one n
/-! ### a state led along a row -/
def leadL (Ls : List (List Int)) (c s : Int) : Int := (Ls.getD c.toNat []).getD s.toNat 0
def goneL (Ls : List (List Int)) (row : List Int) (s : Int) : Int := row.foldl (fun s c => leadL Ls c s) s
theorem goneL_snoc (Ls : List (List Int)) (row : List Int) (c s : Int) : goneL Ls (row ++ [c]) s = leadL Ls c (goneL Ls row s) := by
  unfold goneL
  rw [List.foldl_append] <;> rfl
theorem goneL_cons (Ls : List (List Int)) (row : List Int) (c s : Int) : goneL Ls (c :: row) s = goneL Ls row (leadL Ls c s) := rfl
theorem lead_in {many : Nat} {Ls : List (List Int)} (ok : LdsOk many Ls) {c s : Int} (hc : 0 ≤ c ∧ c < ((Ls.length : Nat) : Int)) (hs : 0 ≤ s ∧ s < (many : Int)) : 0 ≤ leadL Ls c s ∧ leadL Ls c s < (many : Int) ∧ ∃ xs, Ls[c.toNat]? = some xs ∧ xs[s.toNat]? = some (leadL Ls c s) := by
  obtain ⟨xs, e1, e2, x1, x2⟩ := ld_at ok hc
  have h : s.toNat < xs.length := by omega
  have e3 : leadL Ls c s = xs[s.toNat] := by
    unfold leadL
    rw [e2, getD_of h]
  rw [e3]
  obtain ⟨y1, y2⟩ := x2 _ (List.getElem_mem h)
  exact ⟨y1, y2, xs, e1, List.getElem?_eq_getElem h⟩
theorem goneL_in {many : Nat} {Ls : List (List Int)} (ok : LdsOk many Ls) : ∀ (row : List Int) (s : Int), CsOk Ls.length row → 0 ≤ s ∧ s < (many : Int) → 0 ≤ goneL Ls row s ∧ goneL Ls row s < (many : Int)
  | [], _, _, h => h
  | c :: row, s, hr, h => by
    obtain ⟨a, b, _⟩ := lead_in ok (hr c List.mem_cons_self) h
    exact goneL_in ok row _ (fun x hx => hr x (List.mem_cons_of_mem _ hx)) ⟨a, b⟩
/-- coins are read from the last move back -/
theorem ends_gone {many : Nat} {Ls : List (List Int)} (ok : LdsOk many Ls) : ∀ (cs : List Int) (e : List Int), CsOk Ls.length cs → e.length = many → ∀ s : Int, 0 ≤ s ∧ s < (many : Int) →
    (cs.foldl (fun e c => aheadF (Ls.getD c.toNat []) e) e).getD s.toNat 0 = e.getD (goneL Ls cs.reverse s).toNat 0
  | [], e, _, _, s, _ => rfl
  | c :: cs, e, hc, he, s, hs => by
    have hcs : CsOk Ls.length cs := fun x hx => hc x (List.mem_cons_of_mem _ hx)
    obtain ⟨xs, _, e2, x1, x2⟩ := ld_at ok (hc c List.mem_cons_self)
    have hrev : CsOk Ls.length cs.reverse := fun x hx => hcs x (List.mem_reverse.mp hx)
    have g := goneL_in ok cs.reverse s hrev hs
    rw [List.foldl_cons, e2, ends_gone ok cs (aheadF xs e) hcs (by unfold aheadF; rw [List.length_map, x1]) s hs, List.reverse_cons, goneL_snoc]
    have hg : (goneL Ls cs.reverse s).toNat < xs.length := by omega
    unfold aheadF leadL
    rw [e2, getD_of (by rw [List.length_map]; exact hg), List.getElem_map, getD_of hg]
def behindF (Ls : List (List Int)) (many : Nat) (row : List Int) : List Int := (List.range many).map fun s : Nat => goneL Ls row (s : Int)
theorem behind_ends {many : Nat} {Ls : List (List Int)} (ok : LdsOk many Ls) {cs : List Int} (hc : CsOk Ls.length cs) : behindF Ls many cs.reverse = endsF Ls many cs := by
  obtain ⟨a, b⟩ := ends_ok ok hc
  have hrev : CsOk Ls.length cs.reverse := fun x hx => hc x (List.mem_reverse.mp hx)
  refine ext_at (n := many) (by unfold behindF; rw [List.length_map, List.length_range]) a fun i hi => ?_
  have z := ends_gone ok cs (upto many) hc (upto_len many) (i : Int) ⟨by omega, by omega⟩
  have g := goneL_in ok cs.reverse (i : Int) hrev ⟨by omega, by omega⟩
  have z1 : (endsF Ls many cs).getD ((i : Int)).toNat 0 = (upto many).getD (goneL Ls cs.reverse (i : Int)).toNat 0 := z
  have l1 : i < (endsF Ls many cs).length := by omega
  have l2 : (goneL Ls cs.reverse (i : Int)).toNat < many := by omega
  rw [Int.toNat_natCast, getD_of l1, List.getD_eq_getElem?_getD, upto_get l2] at z1
  unfold behindF
  rw [List.getElem?_map, List.getElem?_range hi, List.getElem?_eq_getElem l1, z1]
  show some (goneL Ls cs.reverse (i : Int)) = some (((goneL Ls cs.reverse (i : Int)).toNat : Nat) : Int)
  rw [Int.toNat_of_nonneg g.1]
end Law

namespace Law
open PySem L2
theorem rg_upto (n : Nat) : rgV 0 (n : Int) = (upto n).map V.int := by
  unfold rgV upto
  rw [List.map_map, show ((n : Int) - 0).toNat = n by omega]
  refine List.map_congr_left fun i _ => ?_
  show V.int (0 + (i : Nat)) = V.int (i : Int)
  rw [Int.zero_add]
abbrev ldsOf (ms : List Mv) : List (List Int) := ms.map (·.2)
theorem lds_ok {many : Nat} {ms : List Mv} (h : SysOk many ms) : LdsOk many (ldsOf ms) := ⟨h.m1, h.m2, fun xs hx => by
  obtain ⟨m, hm, rfl⟩ := List.mem_map.mp hx
  obtain ⟨_, _, _, a, b⟩ := h.mv m hm
  exact ⟨a, b⟩⟩
theorem mv_ix {K : PySem.W.Frag} {H : Hp} {vs : List V} {ms : List Mv} {r : Int} (h : MvsIn K H vs ms) (hr : 0 ≤ r ∧ r < ((ms.length : Nat) : Int)) :
    ∃ m aa sa la, atI vs r = some (.ref aa) ∧ ms[r.toNat]? = some m ∧ SqT K H aa [.ref sa, .ref la] ∧ SqT K H sa [.int m.1.1, .int m.1.2] ∧ SqT K H la (m.2.map V.int) := by
  have hv : r.toNat < vs.length := by have := h.1; omega
  obtain ⟨m, h1, a, s, l, h2, h3, h4, h5⟩ := h.2 r.toNat vs[r.toNat] (List.getElem?_eq_getElem hv)
  refine ⟨m, a, s, l, ?_, h1, h3, h4, h5⟩
  have z : atI vs ((r.toNat : Nat) : Int) = some vs[r.toNat] := atI_nat (List.getElem?_eq_getElem hv)
  rw [show ((r.toNat : Nat) : Int) = r by omega, h2] at z
  exact z
theorem ints_at {xs : List Int} {s : Int} (h0 : 0 ≤ s) (h1 : s < ((xs.length : Nat) : Int)) : atI (xs.map V.int) s = some (.int (xs.getD s.toNat 0)) := by
  have h : s.toNat < xs.length := by omega
  have e : s = ((s.toNat : Nat) : Int) := by omega
  have z : atI (xs.map V.int) ((s.toNat : Nat) : Int) = some (.int (xs.getD s.toNat 0)) := atI_nat (by rw [List.getElem?_map, List.getElem?_eq_getElem h, getD_of h] <;> rfl)
  rw [← e] at z
  exact z
/-- xs[a:b] of a tuple, a ≤ b ≤ its length -/
theorem sl_nat {K : PySem.W.Frag} {H : Hp} {p : Addr} {xs : List V} {a b : Nat} {Q : VK} (hS : SqT K H p xs) (h1 : a ≤ b) (h2 : b ≤ xs.length) (k : ∀ l H', Same H H' → SqT K H' l ((xs.drop a).take (b - a)) → Q (.ref l) H') : rSlA K (.ref p) (some ((a : Nat) : Int)) (some ((b : Nat) : Int)) H Q := by
  refine ⟨p, xs, rfl, hS, fun h => ?_, fun _ q hq => ?_⟩
  · rw [HT.sIx_nat, HT.sIx_nat, Nat.min_eq_left (show a ≤ xs.length by omega), Nat.min_eq_left h2] at h
    refine k p H (Same.refl H) ?_
    rw [h.1, h.2, List.drop_zero, Nat.sub_zero, List.take_length]
    exact hS
  · have e : cutV xs (some ((a : Nat) : Int)) (some ((b : Nat) : Int)) = (xs.drop a).take (b - a) := by
      unfold cutV
      rw [HT.sIx_nat, HT.sIx_nat, Nat.min_eq_left (show a ≤ xs.length by omega), Nat.min_eq_left h2]
    rw [e]
    exact k q _ (Same.new hq) (SqT.of upd_same)
theorem sl_to {K : PySem.W.Frag} {H : Hp} {p : Addr} {xs : List V} {b : Nat} {Q : VK} (hS : SqT K H p xs) (k : ∀ l H', Same H H' → SqT K H' l (xs.take b) → Q (.ref l) H') : rSlA K (.ref p) none (some ((b : Nat) : Int)) H Q := by
  have e0 : HT.sIx xs.length 0 none = 0 := rfl
  refine ⟨p, xs, rfl, hS, fun h => ?_, fun _ q hq => ?_⟩
  · rw [HT.sIx_nat] at h
    refine k p H (Same.refl H) ?_
    rw [List.take_of_length_le (by omega)]
    exact hS
  · have e : cutV xs none (some ((b : Nat) : Int)) = xs.take b := by
      unfold cutV
      rw [HT.sIx_nat, e0, List.drop_zero, Nat.sub_zero]
      rcases Nat.le_total b xs.length with c | c
      · rw [Nat.min_eq_left c]
      · rw [Nat.min_eq_right c, List.take_length, List.take_of_length_le c]
    rw [e]
    exact k q _ (Same.new hq) (SqT.of upd_same)
theorem pl_one (b : Bool) : decide (V.str (plS b) = V.str ("one" : Str)) = b := by
  cases b
  · exact decide_eq_false fun e => absurd (V.str.inj e) (by decide +kernel)
  · exact decide_eq_true rfl
theorem pl_in (b : Bool) : inV (V.str (plS b)) [V.str ("one" : Str), V.str ("double" : Str)] = true := by cases b <;> decide +kernel
theorem dec_len1 (n : Nat) : decide (V.int (n : Int) = V.int 1) = decide (n = 1) := by
  by_cases h : n = 1
  · subst h
    rfl
  · rw [decide_eq_false h]
    exact decide_eq_false fun e => h (by injection e; omega)
/-- what is drawn: told, or undecided -/
def ResAt (K : PySem.W.Frag) (H : Hp) (t : Addr) (k : Nat) (e : List Int) : Prop := ((lotF e).length = 1 ∧ SqT K H t [.str "told", .int ((lotF e).headD 0), .int (k : Int)]) ∨
  ((lotF e).length ≠ 1 ∧ ∃ l, SqT K H t [.str "undecided", .ref l, .int (k : Int)] ∧ SqT K H l ((lotF e).map V.int))
theorem ResAt.same {K : PySem.W.Frag} {t : Addr} {H H' : Hp} {k : Nat} {e : List Int} (h : ResAt K H t k e) (s : Same H H') : ResAt K H' t k e := by
  rcases h with ⟨a, b⟩ | ⟨a, l, b, c⟩
  · exact .inl ⟨a, s.sqT b⟩
  · exact .inr ⟨a, l, s.sqT b, s.sqT c⟩
theorem at_head {e : List Int} (h : (lotF e).length = 1) : atI ((lotF e).map V.int) 0 = some (.int ((lotF e).headD 0)) := by
  have z := ints_at (xs := lotF e) (s := 0) (by decide) (by omega)
  rw [show (lotF e).getD (0 : Int).toNat 0 = (lotF e).headD 0 by cases lotF e <;> rfl] at z
  exact z
def RowOk (n : Nat) (row : List Int) : Prop := row.length ≤ 400 ∧ ∀ r ∈ row, 0 ≤ r ∧ r < (n : Int)
end Law

namespace Law
open PySem L2
/-! ### the program: rows, states led -/
section
variable {P : Program} {w : World} {K : PySem.W.Frag} {mg : Str → Option Value} {base : Heap}
def spIsRow (K : PySem.W.Frag) (C : Addr) : Sp := fun vs H Q _ => ∃ (p b : Addr) (many : Nat) (ms : List Mv) (row : List Int), vs = [.ref p, .ref b] ∧ SysAt K C H p many ms ∧ SqT K H b (row.map V.int) ∧ RowOk ms.length row ∧ ∀ H', Same H H' → Q (.bl true) H'
theorem scIsRow : FnScope ["system", "thing"] ["system", "thing"] (defScope s_is_row) := ⟨rfl, rfl, rfl, by decide +kernel, rfl, by decide +kernel, by decide +kernel⟩
theorem ok_isrow {f C fR : Addr} {fd fdR : FuncData} (F : Fun K "is_row" "is_row" s_is_row f fd) (T : NmA mg) (S : SysT K mg C) (R : Cl P w K mg base CX0 3 "is_row_below" fR fdR ["bound", "thing"] (spRowB K)) : FnOk P w K mg base CX0 4 f fd ["system", "thing"] (spIsRow K C) := by
  refine F.ok scIsRow (fun vs H Q E h => ?_) (fun cdv A' outer s H vs Q E hr h => ?_)
  · obtain ⟨p, b, many, ms, row, rfl, _⟩ := h
    rfl
  · obtain ⟨p, b, many, ms, row, rfl, ⟨dx, mv, hp, vs, hV, hM⟩, hR, ⟨rl, rb⟩, k⟩ := h
    have hvl : vs.length = ms.length := hM.1
    refine ⟨_, pss_one (ps_ret (pe_and (R.call hr (pa_cons (pe_callB call_len_seq (by rfl) T.len PySem.boot_len (pa_cons (pe_fld (pv 0) rfl) pa_nil)) (pa_cons (pv 1) pa_nil)))
      (pe_one (pe_cmpR op_le (pe_callB call_len_seq (by rfl) T.len PySem.boot_len (pa_cons (pv 1) pa_nil)) pe_int (nomark _))))), ?_⟩
    refine ⟨_, rfl, p, C, dx, _, _, rfl, hp, S.cl, S.nM, sysF_moves _ _, mv, _, rfl, .inr hV, _, rfl, ((vs.length : Nat) : Int), b, _, rfl, hR, by rw [List.length_map]; omega, fun x hx => ?_, fun H1 s1 => ?_⟩
    · obtain ⟨i, _, rfl⟩ := List.mem_map.mp hx
      exact ⟨i, rfl⟩
    · have hall : (row.map V.int).all (isW 0 (((vs.length : Nat) : Int) - 1)) = true := by
        rw [List.all_eq_true]
        intro x hx
        obtain ⟨i, hi, rfl⟩ := List.mem_map.mp hx
        obtain ⟨g1, g2⟩ := rb i hi
        show (decide (0 ≤ i) && decide (i ≤ ((vs.length : Nat) : Int) - 1)) = true
        rw [decide_eq_true g1, decide_eq_true (show i ≤ ((vs.length : Nat) : Int) - 1 by omega)] <;> rfl
      rw [hall]
      refine ⟨_, rfl, iteT ⟨_, rfl, b, _, rfl, .inr (s1.sqT hR), _, _, rfl, rfl, ?_⟩⟩
      rw [List.length_map]
      show Q (.bl (decide (((row.length : Nat) : Int) ≤ 400))) H1
      rw [decide_eq_true (show ((row.length : Nat) : Int) ≤ 400 by omega)]
      exact k H1 s1
end
end Law
namespace Law
open PySem L2
section
variable {P : Program} {w : World} {K : PySem.W.Frag} {mg : Str → Option Value} {base : Heap}
def spIsPlan : Sp := fun vs H Q _ => ∃ (b : Bool), vs = [.str (plS b)] ∧ ∀ H', Same H H' → Q (.bl true) H'
abbrev nIsPlan : List Str := ["thing"]
theorem scIsPlan : FnScope nIsPlan ["thing"] (defScope s_is_plan) := ⟨rfl, rfl, rfl, by decide +kernel, rfl, by decide +kernel, by decide +kernel⟩
theorem ok_is_plan {f : Addr} {fd : FuncData} (F : Fun K "is_plan" "is_plan" s_is_plan f fd) (T : NmA mg) : FnOk P w K mg base CX0 1 f fd ["thing"] spIsPlan := by
  refine F.ok scIsPlan (fun vs H Q E h => ?_) (fun cdv A' outer s H vs Q E hr h => ?_)
  · obtain ⟨b, rfl, _⟩ := h
    rfl
  · obtain ⟨b, rfl, k⟩ := h
    refine ⟨_, pss_one (ps_ret (pe_and (pe_callB call_isi (by rfl) T.isi (by decide +kernel) (pa_cons (pv 0) (pa_cons (pe_bltn (v := .ty "str") (u := .type "str") (by rfl) T.str (by decide +kernel) rfl) pa_nil))) (pe_one (pe_cmpR op_in_seq (pv 0) (pe_tup (pa_cons pe_str (pa_cons pe_str pa_nil))) (by rfl))))), ?_⟩
    refine ⟨_, rfl, _, _, _, _, _, rfl, .ty "str", .base (.str _), (show PySem.W.kitOne K (.type "str") (.type "str") = some true from kit_ty (by decide +kernel)), _, rfl, iteT ?_⟩
    refine ⟨_, rfl, (by show 2 ≤ sizeLine; decide), fun t ht => ⟨t, _, rfl, .inr (SqT.of upd_same), rfl, rfl, ?_⟩⟩
    show Q (.bl (inV (V.str (plS b)) [V.str ("one" : Str), V.str ("double" : Str)])) _
    rw [pl_in]
    exact k _ (Same.new ht)
def spLooks (K : PySem.W.Frag) : Sp := fun vs H Q _ => ∃ (b : Bool) (n : Nat), vs = [.str (plS b), .int (n : Int)] ∧ n ≤ 400 ∧ ∀ D H' (ks : List Nat), Same H H' → H' D = some (.lst ((ks.map fun i : Nat => (i : Int)).map V.int)) → IsLk b n ks → Q (.ref D) H'
abbrev nLooks : List Str := ["plan", "many", "found", "look"]
theorem scLooks : FnScope nLooks ["plan", "many"] (defScope s_looks) := ⟨rfl, rfl, rfl, by decide +kernel, rfl, by decide +kernel, by decide +kernel⟩
theorem ok_looks {f : Addr} {fd : FuncData} (F : Fun K "looks" "looks" s_looks f fd) (T : NmA mg) : FnOk P w K mg base CX0 1 f fd ["plan", "many"] (spLooks K) := by
  refine F.ok scLooks (fun vs H Q E h => ?_) (fun cdv A' outer s H vs Q E hr h => ?_)
  · obtain ⟨b, n, rfl, _⟩ := h
    rfl
  · obtain ⟨b, n, rfl, n4, k⟩ := h
    refine ⟨_, pss_cons (ps_if (pt_cmpR op_eq (pv 0) pe_str (nomark _))
        (pss_one (ps_ret (pe_listRg (by rfl) (by rfl) T.list (prg_1 (by rfl) T.range (pe_op op_add (pv 1) pe_int))))) pss_nil)
      (pss_cons (ps_set (i := 2) scLooks.nd rfl (Or.inl rfl) (pe_lst (pa_cons pe_int pa_nil)))
      (pss_cons (ps_set (i := 3) scLooks.nd rfl (Or.inl rfl) pe_int)
      (pss_cons (ps_while PassesOwn.never (pt_cmpR op_le (pv 3) (pv 1) (nomark _))
        (pss_cons (ps_expr (pe_bm PySem.F.plainAttrs_list PySem.F.slot_list_append PySem.F.type_list_append mt_append (pv 2) (pa_cons (pv 3) pa_nil)))
        (pss_one (ps_set (i := 3) scLooks.nd rfl (Or.inl rfl) (pe_op op_mul (pv 3) pe_int)))))
      (pss_one (ps_ret (pv 2)))))), ?_⟩
    refine ⟨_, rfl, rfl, _, rfl, ?_⟩
    rw [pl_one]
    cases b with
    | true =>
      refine iteT ⟨_, rfl, _, _, rfl, rfl, ((n : Int) + 1), rfl, RgOk.of_le (by decide) (by omega) (by decide) (by omega), fun q hq => ?_⟩
      refine k q _ (List.range (n + 1)) (Same.new hq) ?_ (lk_one n)
      rw [upd_same]
      have := rg_upto (n + 1)
      rw [Int.natCast_add] at this
      exact congrArg (fun z => some (HO.lst z)) this
    | false =>
      refine iteF ⟨by show 1 ≤ sizeLine; decide, fun D hD => ?_⟩
      refine ⟨fun m σ H' => Same H H' ∧ ∃ j : Nat, H' D = some (.lst (((dblF j).map fun i : Nat => (i : Int)).map V.int)) ∧ (∀ i, i < j → 2 ^ i ≤ n) ∧ σ = [some (.str (plS false)), some (.int (n : Int)), some (.ref D), some (.int ((2 ^ j : Nat) : Int))] ∧ m = n + 1 - 2 ^ j, ⟨_, Same.new hD, 0, upd_same, fun i hi => absurd hi (Nat.not_lt_zero i), rfl, rfl⟩, ?_⟩
      rintro m σ H' ⟨s1, j, h1, h2, rfl, rfl⟩
      refine ⟨_, rfl, _, rfl, _, _, rfl, rfl, _, rfl, ite2 (fun hle => ?_) (fun hle => ?_)⟩
      · have hle : 2 ^ j ≤ n := by
          have := of_decide_eq_true hle
          omega
        have hj : j < 9 := by
          rcases Nat.lt_or_ge j 9 with c | c
          · exact c
          · have : 2 ^ 9 ≤ 2 ^ j := Nat.pow_le_pow_right (by decide) c
            omega
        refine ⟨fun σ' H1 => Same H H1 ∧ ∃ j' : Nat, H1 D = some (.lst (((dblF j').map fun i : Nat => (i : Int)).map V.int)) ∧ (∀ i, i < j' → 2 ^ i ≤ n) ∧ σ' = [some (.str (plS false)), some (.int (n : Int)), some (.ref D), some (.int ((2 ^ j' : Nat) : Int))] ∧ n + 1 - 2 ^ j' < n + 1 - 2 ^ j, ?_, ?_⟩
        · rintro σ' H1 ⟨a1, j', a2, a3, rfl, a4⟩
          exact ⟨_, a4, a1, j', a2, a3, rfl, rfl⟩
        · refine ⟨_, rfl, .inl ⟨rfl, _, SqL.of h1⟩, _, rfl, D, _, _, rfl, rfl, h1, ?_, ?_⟩
          · rw [List.length_map, List.length_map]
            unfold dblF
            rw [List.length_cons, List.length_map, List.length_range]
            exact small1000 (by omega)
          · refine ⟨_, rfl, _, _, rfl, rfl, .inr ⟨by decide, by decide⟩, s1.mut hD, j + 1, ?_, fun i hi => ?_, ?_, ?_⟩
            · rw [upd_same, dbl_snoc, List.map_append, List.map_append] <;> rfl
            · rcases Nat.lt_or_ge i j with c | c
              · exact h2 i c
              · have : i = j := by omega
                subst this
                exact hle
            · rw [Nat.pow_succ, Int.natCast_mul] <;> rfl
            · have := Nat.pow_succ (n := 2) (m := j)
              have := Nat.two_pow_pos j
              omega
      · have hlt : n < 2 ^ j := by
          have z : ¬ ((2 ^ j : Nat) : Int) ≤ (n : Int) := fun q => hle (decide_eq_true q)
          omega
        exact ⟨_, rfl, k D H' (dblF j) s1 h1 (lk_dbl h2 hlt)⟩
def spAhead (K : PySem.W.Frag) (C : Addr) : Sp := fun vs H Q _ => ∃ (sy ea : Addr) (c : Int) (many : Nat) (ms : List Mv) (e : List Int), vs = [.ref sy, .int c, .ref ea] ∧ SysAt K C H sy many ms ∧ LdsOk many (ldsOf ms) ∧ 0 ≤ c ∧ c < ((ms.length : Nat) : Int) ∧ SqT K H ea (e.map V.int) ∧ e.length = many ∧
  ∀ l H', Same H H' → H' l = some (.tup ((aheadF ((ldsOf ms).getD c.toNat []) e).map V.int)) → Q (.ref l) H'
theorem ahead_take (mv e : List Int) (i : Nat) (s : Int) (h : mv[i]? = some s) : ((mv.take (i + 1)).map fun s => e.getD s.toNat 0) = ((mv.take i).map fun s => e.getD s.toNat 0) ++ [e.getD s.toNat 0] := by
  rw [List.take_add_one, h, List.map_append] <;> rfl
abbrev nLedAhead : List Str := ["system", "move", "leads", "_", "first", "state"]
theorem scLedAhead : FnScope nLedAhead ["system", "move", "leads"] (defScope s_led_ahead) := ⟨rfl, rfl, rfl, by decide +kernel, rfl, by decide +kernel, by decide +kernel⟩
theorem ok_led_ahead {f : Addr} {fd : FuncData} {C : Addr} (F : Fun K "led_ahead" "led_ahead" s_led_ahead f fd) (T : NmA mg) (S : SysT K mg C) : FnOk P w K mg base CX0 1 f fd ["system", "move", "leads"] (spAhead K C) := by
  refine F.ok scLedAhead (fun vs H Q E h => ?_) (fun cdv A' outer s H vs Q E hr h => ?_)
  · obtain ⟨sy, ea, c, many, ms, e, rfl, _⟩ := h
    rfl
  · obtain ⟨sy, ea, c, many, ms, e, rfl, hS, ok, c0, c1, hE, he, k⟩ := h
    refine ⟨_, pss_cons (ps_asg (pe_ix ix_tup (pe_fld (pv 0) rfl) (pv 1) (fun _ _ => rfl)) (pg_tup (by rfl) (pgs_cons (pg_name (i := 3) scLedAhead.nd rfl (Or.inl rfl)) (pgs_cons (pg_name (i := 4) scLedAhead.nd rfl (Or.inl rfl)) pgs_nil))))
      (pss_one (ps_ret (pe_callTy call_tuple_of (by rfl) T.tuple (by decide +kernel) (pa_cons (pe_lc (own := [("state", 5)]) (g := (gName 5)) (tt := tYes) rfl scLedAhead.nd  (pi_tup (pv 4)) (blkOk_by (own := [("state", 5)]) (N := nLedAhead) (sc := defScope s_led_ahead) (by decide +kernel)) (fun _ _ _ _ _ => (pg_name (i := 5) scLedAhead.nd rfl (Or.inl rfl))) (fun _ _ _ _ _ => pts_nil) (fun _ _ _ _ _ => (pe_ix (r := rIxT K) (show IxR _ (rIxT K) from ix_tup) (pv 2) (pv 5) (fun _ _ => rfl)))) pa_nil)))), ?_⟩
    obtain ⟨dx, mv, hp, vs, hV, hM⟩ := id hS
    obtain ⟨m, aa, sa, la, h1, h2, h3, h4, h5⟩ := mv_ix hM ⟨c0, c1⟩
    obtain ⟨xs, x1, x2, x3, x4⟩ := ld_at ok (c := c) ⟨c0, by rw [List.length_map]; exact c1⟩
    rw [List.getElem?_map, h2] at x1
    have x1 : m.2 = xs := Option.some.inj x1
    have m12 := ok.m2
    refine ⟨_, rfl, sy, C, dx, _, _, rfl, hp, S.cl, S.nM, sysF_moves _ _, _, rfl, mv, _, _, _, rfl, rfl, hV, h1, aa, _, rfl, h3, rfl, _, _, rfl, _, _, rfl, rfl, ?_⟩
    refine ⟨_, rfl, la, rfl, ⟨_, h5⟩, fun D hD => ?_⟩
    refine lc_tup (K := K) (a := la) (xs := m.2.map V.int) (fun i H' => Same H H' ∧ H' D = some (.lst (((m.2.take i).map fun s => e.getD s.toNat 0).map V.int))) ⟨Same.new hD, upd_same⟩ (fun i H' _ g => g.1.sqT h5) (fun i x H' hi g => ?_) fun H' g => ?_
    · obtain ⟨t1, g1⟩ := g
      rw [List.getElem?_map] at hi
      obtain ⟨z, hz, rfl⟩ := Option.map_eq_some_iff.mp hi
      have hil := (List.getElem?_eq_some_iff.mp hz).1
      have zb := x4 z (by rw [← x1]; exact List.mem_of_getElem? hz)
      refine ⟨rfl, _, rfl, _, rfl, ea, _, _, _, rfl, rfl, t1.sqT hE, ints_at zb.1 (by omega), _, g1, ?_, t1.mut hD, ?_⟩
      · rw [List.length_map, List.length_map, List.length_take]
        have : m.2.length = many := by rw [x1, x3]
        exact small1000 (by omega)
      · rw [upd_same, ahead_take _ _ _ _ hz, List.map_append] <;> rfl
    · obtain ⟨t1, g1⟩ := g
      rw [List.length_map, List.take_length] at g1
      refine ⟨D, _, rfl, .inl ⟨SqL.of g1, fun l hl => k l _ (t1.trans (Same.new hl)) ?_⟩⟩
      rw [upd_same, x2, ← x1] <;> rfl
end
end Law


namespace Law
open PySem L2
section
variable {P : Program} {w : World} {K : PySem.W.Frag} {mg : Str → Option Value} {base : Heap}
def spPlan (K : PySem.W.Frag) (C : Addr) : Sp := fun vs H Q _ => ∃ (sy ca sa : Addr) (b : Bool) (many : Nat) (ms : List Mv) (cs st : List Int), vs = [.ref sy, .ref ca, .str (plS b), .ref sa] ∧ SysAt K C H sy many ms ∧ LdsOk many (ldsOf ms) ∧ SqT K H ca (cs.map V.int) ∧ CsOk ms.length cs ∧ cs.length ≤ 400 ∧ SqT K H sa (st.map V.int) ∧ InM many st ∧ st.length ≤ 12 ∧
  ∀ t l H' (k : Nat), Same H H' → SqT K H' t [.ref l, .int (k : Int)] → SqT K H' l ((selF (ldsOf ms) many st cs k).map V.int) → Pick b cs.length (oneF (ldsOf ms) many st cs) k → Q (.ref t) H'
theorem sel_turn {K : PySem.W.Frag} {many : Nat} {e st : List Int} (he : e.length = many) {i : Nat} {s : Int} (hs : InM many st) (h : st[i]? = some s) : atI (e.map V.int) s = some (.int (e.getD s.toNat 0)) := by
  have zb := hs s (List.mem_of_getElem? h)
  exact ints_at zb.1 (by omega)
abbrev nLedByPlan : List Str := ["system", "coins", "plan", "states", "leads", "at", "look", "move", "state"]
theorem scLedByPlan : FnScope nLedByPlan ["system", "coins", "plan", "states"] (defScope s_led_by_plan) := ⟨rfl, rfl, rfl, by decide +kernel, rfl, by decide +kernel, by decide +kernel⟩
theorem ok_led_by_plan {f : Addr} {fd : FuncData} {fcLooks : Addr} {fdcLooks : FuncData} {fcAhead : Addr} {fdcAhead : FuncData} {fcLotOf : Addr} {fdcLotOf : FuncData} {C : Addr} (F : Fun K "led_by_plan" "led_by_plan" s_led_by_plan f fd) (T : NmA mg) (cLooks : Cl P w K mg base CX0 1 "looks" fcLooks fdcLooks ["plan", "many"] (spLooks K)) (cAhead : Cl P w K mg base CX0 1 "led_ahead" fcAhead fdcAhead ["system", "move", "leads"] (spAhead K C)) (cLotOf : Cl P w K mg base CX0 1 "lot_of" fcLotOf fdcLotOf ["things"] (spLotOf K)) (S : SysT K mg C) : FnOk P w K mg base CX0 2 f fd ["system", "coins", "plan", "states"] (spPlan K C) := by
  refine F.ok scLedByPlan (fun vs H Q E h => ?_) (fun cdv A' outer s H vs Q E hr h => ?_)
  · obtain ⟨sy, ca, sa, b, many, ms, cs, st, rfl, _⟩ := h
    rfl
  · obtain ⟨sy, ca, sa, b, many, ms, cs, st, rfl, hS, ok, hC, cok, c400, hT, stok, s12, k⟩ := h
    refine ⟨_, pss_cons (ps_set (i := 4) scLedByPlan.nd rfl (Or.inr rfl) (pe_tupRg (by rfl) (by rfl) T.tuple (prg_1 (by rfl) T.range (pe_fld (pv 0) rfl))))
      (pss_cons (ps_set (i := 5) scLedByPlan.nd rfl (Or.inl rfl) pe_int)
      (Evl.pss_cut (ps_for PassesOwn.never rfl (pi_list (cLooks.call (hr.mono (by decide)) (pa_cons (pv 2) (pa_cons (pe_callB call_len_seq (by rfl) T.len PySem.boot_len (pa_cons (pv 1) pa_nil)) pa_nil)))) (pg_name (i := 6) scLedByPlan.nd rfl (Or.inl rfl))
        (pss_cons (ps_for PassesOwn.never rfl (pi_tup (pe_slice sl_tupA (pv 1) (po_some (pv 5)) (po_some (pv 6)))) (pg_name (i := 7) scLedByPlan.nd rfl (Or.inl rfl))
          (pss_one (ps_set (i := 4) scLedByPlan.nd rfl (Or.inr rfl) (cAhead.call (hr.mono (by decide)) (pa_cons (pv 0) (pa_cons (pv 7) (pa_cons (pv 4) pa_nil)))))))
        (pss_cons (ps_set (i := 5) scLedByPlan.nd rfl (Or.inl rfl) (pv 6))
        (pss_one (ps_if (pt_cmpR op_eq (pe_callB call_len_seq (by rfl) T.len PySem.boot_len (pa_cons (cLotOf.call (hr.mono (by decide)) (pa_cons (pe_lc (own := [("state", 8)]) (g := (gName 8)) (tt := tYes) rfl scLedByPlan.nd  (pi_tup (pv 3)) (blkOk_by (own := [("state", 8)]) (N := nLedByPlan) (sc := defScope s_led_by_plan) (by decide +kernel)) (fun _ _ _ _ _ => (pg_name (i := 8) scLedByPlan.nd rfl (Or.inl rfl))) (fun _ _ _ _ _ => pts_nil) (fun _ _ _ _ _ => (pe_ix (r := rIxT K) (show IxR _ (rIxT K) from ix_tup) (pv 4) (pv 8) (fun _ _ => rfl)))) pa_nil)) pa_nil)) pe_int (nomark _))
          (pss_one ps_break) pss_nil)))))
      (pss_one (ps_ret (pe_tup (pa_cons (pe_callTy call_tuple_of (by rfl) T.tuple (by decide +kernel) (pa_cons (pe_lc (own := [("state", 8)]) (g := (gName 8)) (tt := tYes) rfl scLedByPlan.nd  (pi_tup (pv 3)) (blkOk_by (own := [("state", 8)]) (N := nLedByPlan) (sc := defScope s_led_by_plan) (by decide +kernel)) (fun _ _ _ _ _ => (pg_name (i := 8) scLedByPlan.nd rfl (Or.inl rfl))) (fun _ _ _ _ _ => pts_nil) (fun _ _ _ _ _ => (pe_ix (r := rIxT K) (show IxR _ (rIxT K) from ix_tup) (pv 4) (pv 8) (fun _ _ => rfl)))) pa_nil)) (pa_cons (pv 5) pa_nil))))))), ?_⟩
    obtain ⟨dx, mv, hp, _⟩ := id hS
    have m1 := ok.m1
    have m12 := ok.m2
    have lms : (ldsOf ms).length = ms.length := by rw [List.length_map]
    have cok' : CsOk (ldsOf ms).length cs := by rw [lms]; exact cok
    refine ⟨_, rfl, sy, C, dx, _, _, rfl, hp, S.cl, S.nK, sysF_many _ _, (many : Int), rfl, RgOk.of_le (by decide) (by omega) (by decide) (by omega), fun q hq => ?_⟩
    rw [rg_upto]
    have s1 : Same H (upd H q (.tup ((upto many).map V.int))) := Same.new hq
    have g1 : (upd H q (.tup ((upto many).map V.int))) q = some (.tup ((upto many).map V.int)) := upd_same
    generalize upd H q (.tup ((upto many).map V.int)) = H1 at s1 g1 ⊢
    refine ⟨fun σ' H' => Same H H' ∧ ∃ (k : Nat) (la : Addr) (u v : Option V), σ' = [some (.ref sy), some (.ref ca), some (.str (plS b)), some (.ref sa), some (.ref la), some (.int (k : Int)), u, v, none] ∧ H' la = some (.tup ((endsF (ldsOf ms) many (cs.take k)).map V.int)) ∧ Pick b cs.length (oneF (ldsOf ms) many st cs) k, ?_, ?_⟩
    · refine ⟨_, rfl, _, rfl, ca, _, rfl, .inr (s1.sqT hC), b, (cs.map V.int).length, rfl, by rw [List.length_map]; exact c400, fun D H2 ks s2 h2 isl => ?_⟩
      rw [List.length_map] at isl
      have s12 := s1.trans s2
      have zks : ∀ (j x : Nat), ks[j]? = some x → x ≤ cs.length := fun j x h => ((isl.mem x).mp (List.mem_of_getElem? h)).1
      refine ⟨D, rfl, ⟨_, SqL.of h2⟩, for_list (K := K) (a := D) (xs := (ks.map fun i : Nat => (i : Int)).map V.int) (fun i σ H' => Same H2 H' ∧ ∃ (at_ : Nat) (la : Addr) (u v : Option V), σ = [some (.ref sy), some (.ref ca), some (.str (plS b)), some (.ref sa), some (.ref la), some (.int (at_ : Int)), u, v, none] ∧ H' la = some (.tup ((endsF (ldsOf ms) many (cs.take at_)).map V.int)) ∧
        ((i = 0 ∧ at_ = 0) ∨ ∃ j, i = j + 1 ∧ ks[j]? = some at_) ∧ ∀ j x, j < i → ks[j]? = some x → oneF (ldsOf ms) many st cs x = false) ⟨Same.refl H2, 0, q, none, none, rfl, s2 _ _ g1, .inl ⟨rfl, rfl⟩, fun j x hj => absurd hj (Nat.not_lt_zero j)⟩ (fun i σ H' _ g => SqL.of (g.1 _ _ h2)) ?_ ?_⟩
      · rintro i x σ H' hi ⟨t1, at_, la, u, v, rfl, gl, hat, hno⟩
        rw [List.getElem?_map, List.getElem?_map] at hi
        obtain ⟨xi, hxi, rfl⟩ := Option.map_eq_some_iff.mp hi
        obtain ⟨look, hlk, rfl⟩ := Option.map_eq_some_iff.mp hxi
        have hlc := zks i look hlk
        have hal : at_ ≤ look := by
          rcases hat with ⟨_, h⟩ | ⟨j, rfl, hj⟩
          · omega
          · obtain ⟨a1, a2⟩ := List.getElem?_eq_some_iff.mp hj
            obtain ⟨b1, b2⟩ := List.getElem?_eq_some_iff.mp hlk
            have := List.pairwise_iff_getElem.mp isl.asc j (j + 1) a1 b1 (Nat.lt_succ_self j)
            omega
        have tt := s12.trans t1
        refine ⟨_, rfl, _, rfl, _, rfl, _, rfl, _, rfl, sl_nat (tt.sqT hC) hal (by rw [List.length_map]; exact hlc) fun sl H3 s3 h3 => ?_⟩
        have e3 : (((cs.map V.int).drop at_).take (look - at_)) = ((cs.drop at_).take (look - at_)).map V.int := by rw [List.map_take, List.map_drop]
        rw [e3] at h3
        have lsl : ((cs.drop at_).take (look - at_)).length = look - at_ := by
          rw [List.length_take, List.length_drop]
          omega
        have tH3 := tt.trans s3
        refine ⟨sl, rfl, ⟨_, h3⟩, for_tup (K := K) (a := sl) (xs := ((cs.drop at_).take (look - at_)).map V.int) (fun j σ H' => Same H3 H' ∧ ∃ (lb : Addr) (v : Option V), σ = [some (.ref sy), some (.ref ca), some (.str (plS b)), some (.ref sa), some (.ref lb), some (.int (at_ : Int)), some (.int (look : Int)), v, none] ∧ H' lb = some (.tup ((endsF (ldsOf ms) many (cs.take (at_ + j))).map V.int))) ⟨Same.refl H3, la, v, rfl, s3 _ _ gl⟩ (fun j σ H' _ g => g.1.sqT h3) ?_ ?_⟩
        · rintro j y σ H4 hj ⟨t4, lb, v4, rfl, g4⟩
          rw [List.getElem?_map] at hj
          obtain ⟨c, hc, rfl⟩ := Option.map_eq_some_iff.mp hj
          have hjl := (List.getElem?_eq_some_iff.mp hc).1
          rw [lsl] at hjl
          have hcc : cs[at_ + j]? = some c := by
            rw [List.getElem?_take_of_lt hjl, List.getElem?_drop] at hc
            exact hc
          have cb := cok c (List.mem_of_getElem? hcc)
          obtain ⟨el, _⟩ := ends_ok ok (cok'.take (at_ + j))
          have t14 := tH3.trans t4
          refine ⟨_, rfl, _, rfl, _, rfl, sy, lb, c, many, ms, _, rfl, hS.same t14, ok, cb.1, cb.2, SqT.of g4, el, fun l5 H5 s5 g5 => ⟨t4.trans s5, l5, _, rfl, ?_⟩⟩
          rw [g5, show at_ + (j + 1) = at_ + j + 1 by omega, List.take_add_one, hcc]
          show some (HO.tup _) = some (HO.tup ((endsF (ldsOf ms) many (cs.take (at_ + j) ++ [c])).map V.int))
          rw [ends_snoc]
        · rintro σ H4 ⟨t4, lb, v4, rfl, g4⟩
          rw [List.length_map, lsl, show at_ + (look - at_) = look by omega] at g4
          have t14 := tH3.trans t4
          obtain ⟨el, _⟩ := ends_ok ok (cok'.take look)
          refine ⟨_, rfl, _, rfl, sa, rfl, ⟨_, t14.sqT hT⟩, fun D2 hD2 => ?_⟩
          refine lc_tup (K := K) (a := sa) (xs := st.map V.int) (fun i H' => Same H4 H' ∧ H' D2 = some (.lst (((st.take i).map fun s => (endsF (ldsOf ms) many (cs.take look)).getD s.toNat 0).map V.int))) ⟨Same.new hD2, upd_same⟩ (fun i H' _ g => (t14.trans g.1).sqT hT) (fun i x H' hi g => ?_) fun H5 g => ?_
          · obtain ⟨t5, g5⟩ := g
            rw [List.getElem?_map] at hi
            obtain ⟨z, hz, rfl⟩ := Option.map_eq_some_iff.mp hi
            have hil := (List.getElem?_eq_some_iff.mp hz).1
            refine ⟨rfl, _, rfl, _, rfl, lb, _, _, _, rfl, rfl, t5.sqT (SqT.of g4), sel_turn (K := K) el stok hz, _, g5, ?_, t5.mut hD2, ?_⟩
            · rw [List.length_map, List.length_map, List.length_take]
              exact small1000 (by omega)
            · rw [upd_same, ahead_take _ _ _ _ hz, List.map_append] <;> rfl
          · obtain ⟨t5, g5⟩ := g
            rw [List.length_map, List.take_length] at g5
            obtain ⟨si, sl2⟩ := sel_in ok stok cok' look
            refine ⟨D2, selF (ldsOf ms) many st cs look, rfl, .inl (SqL.of g5), by rw [sl2]; omega, si.in12 m12, fun l6 H6 s6 g6 => ?_⟩
            refine ⟨l6, _, rfl, .inr (SqT.of g6), rfl, _, rfl, ?_⟩
            have t46 := t5.trans s6
            rw [List.length_map, dec_len1]
            refine ite2 (fun h1 => ?_) (fun h1 => ?_)
            · exact ⟨t14.trans t46, look, lb, _, _, rfl, t46 _ _ g4, pick_hit isl hlk (fun j x hj hx => hno j x hj hx) h1⟩
            · refine ⟨((t1.trans s3).trans t4).trans t46, look, lb, _, _, rfl, t46 _ _ g4, .inr ⟨i, rfl, hlk⟩, fun j x hj hx => ?_⟩
              rcases Nat.lt_or_ge j i with c | c
              · exact hno j x c hx
              · have : j = i := by omega
                subst this
                rw [hlk] at hx
                cases hx
                exact Bool.eq_false_iff.mpr h1
      · rintro σ H' ⟨t1, at_, la, u, v, rfl, gl, hat, hno⟩
        rw [List.length_map, List.length_map] at hat hno
        have hlast : ks.getLast? = some at_ := by
          have h0 : 0 < ks.length := by
            obtain ⟨m, hm, _⟩ := List.getElem_of_mem ((isl.mem 0).mpr (zero_look b cs.length))
            omega
          rcases hat with ⟨h, _⟩ | ⟨j, h, hj⟩
          · omega
          · rw [List.getLast?_eq_getElem?, h]
            exact hj
        exact ⟨s12.trans t1, at_, la, _, _, rfl, gl, pick_end isl hlast fun j x hx => hno j x (List.getElem?_eq_some_iff.mp hx).1 hx⟩
    · rintro σ H' ⟨t1, kk, la, u, v, rfl, gl, pk⟩
      obtain ⟨el, _⟩ := ends_ok ok (cok'.take kk)
      refine ⟨_, rfl, sa, rfl, ⟨_, t1.sqT hT⟩, fun D2 hD2 => ?_⟩
      refine lc_tup (K := K) (a := sa) (xs := st.map V.int) (fun i H2 => Same H' H2 ∧ H2 D2 = some (.lst (((st.take i).map fun s => (endsF (ldsOf ms) many (cs.take kk)).getD s.toNat 0).map V.int))) ⟨Same.new hD2, upd_same⟩ (fun i H2 _ g => (t1.trans g.1).sqT hT) (fun i x H2 hi g => ?_) fun H5 g => ?_
      · obtain ⟨t5, g5⟩ := g
        rw [List.getElem?_map] at hi
        obtain ⟨z, hz, rfl⟩ := Option.map_eq_some_iff.mp hi
        have hil := (List.getElem?_eq_some_iff.mp hz).1
        refine ⟨rfl, _, rfl, _, rfl, la, _, _, _, rfl, rfl, t5.sqT (SqT.of gl), sel_turn (K := K) el stok hz, _, g5, ?_, t5.mut hD2, ?_⟩
        · rw [List.length_map, List.length_map, List.length_take]
          exact small1000 (by omega)
        · rw [upd_same, ahead_take _ _ _ _ hz, List.map_append] <;> rfl
      · obtain ⟨t5, g5⟩ := g
        rw [List.length_map, List.take_length] at g5
        refine ⟨D2, _, rfl, .inl ⟨SqL.of g5, fun l6 hl6 => ?_⟩⟩
        refine ⟨_, rfl, by show 2 ≤ sizeLine; decide, fun t7 ht7 => ?_⟩
        have s6 : Same H5 (upd H5 l6 (.tup ((selF (ldsOf ms) many st cs kk).map V.int))) := Same.new hl6
        exact k t7 l6 _ kk (((t1.trans t5).trans s6).trans (Same.new ht7)) (SqT.of upd_same) (SqT.of ((Same.new ht7) _ _ upd_same)) pk
def spDrawn (K : PySem.W.Frag) (C : Addr) : Sp := fun vs H Q _ => ∃ (sy ca : Addr) (b : Bool) (many : Nat) (ms : List Mv) (cs : List Int), vs = [.ref sy, .ref ca, .str (plS b)] ∧ SysAt K C H sy many ms ∧ LdsOk many (ldsOf ms) ∧ SqT K H ca (cs.map V.int) ∧ CsOk ms.length cs ∧ cs.length ≤ 400 ∧
  ∀ t H' (k : Nat), Same H H' → ResAt K H' t k (selF (ldsOf ms) many (upto many) cs k) → Pick b cs.length (oneF (ldsOf ms) many (upto many) cs) k → Q (.ref t) H'
abbrev nDrawn : List Str := ["system", "coins", "plan", "found", "many", "lot"]
theorem scDrawn : FnScope nDrawn ["system", "coins", "plan"] (defScope s_drawn) := ⟨rfl, rfl, rfl, by decide +kernel, rfl, by decide +kernel, by decide +kernel⟩
theorem ok_drawn {f : Addr} {fd : FuncData} {fcIsRow : Addr} {fdcIsRow : FuncData} {fcIsPlan : Addr} {fdcIsPlan : FuncData} {fcPlan : Addr} {fdcPlan : FuncData} {fcLotOf : Addr} {fdcLotOf : FuncData} {C : Addr} (F : Fun K "drawn" "drawn" s_drawn f fd) (T : NmA mg) (cIsRow : Cl P w K mg base CX0 4 "is_row" fcIsRow fdcIsRow ["system", "thing"] (spIsRow K C)) (cIsPlan : Cl P w K mg base CX0 1 "is_plan" fcIsPlan fdcIsPlan ["thing"] spIsPlan) (cPlan : Cl P w K mg base CX0 2 "led_by_plan" fcPlan fdcPlan ["system", "coins", "plan", "states"] (spPlan K C)) (cLotOf : Cl P w K mg base CX0 1 "lot_of" fcLotOf fdcLotOf ["things"] (spLotOf K)) (S : SysT K mg C) : FnOk P w K mg base CX0 5 f fd ["system", "coins", "plan"] (spDrawn K C) := by
  refine F.ok scDrawn (fun vs H Q E h => ?_) (fun cdv A' outer s H vs Q E hr h => ?_)
  · obtain ⟨sy, ca, b, many, ms, cs, rfl, _⟩ := h
    rfl
  · obtain ⟨sy, ca, b, many, ms, cs, rfl, hS, ok, hC, cok, c400, k⟩ := h
    refine ⟨_, pss_cons (ps_if (pt_not (pt_val (cIsRow.call (hr.mono (by decide)) (pa_cons (pv 0) (pa_cons (pv 1) pa_nil)))))
        pss_never pss_nil)
      (pss_cons (ps_if (pt_not (pt_val (cIsPlan.call (hr.mono (by decide)) (pa_cons (pv 2) pa_nil))))
        pss_never pss_nil)
      (pss_cons (ps_asg (cPlan.call (hr.mono (by decide)) (pa_cons (pv 0) (pa_cons (pv 1) (pa_cons (pv 2) (pa_cons (pe_tupRg (by rfl) (by rfl) T.tuple (prg_1 (by rfl) T.range (pe_fld (pv 0) rfl))) pa_nil))))) (pg_tup (by rfl) (pgs_cons (pg_name (i := 3) scDrawn.nd rfl (Or.inl rfl)) (pgs_cons (pg_name (i := 4) scDrawn.nd rfl (Or.inl rfl)) pgs_nil))))
      (pss_cons (ps_set (i := 5) scDrawn.nd rfl (Or.inl rfl) (cLotOf.call (hr.mono (by decide)) (pa_cons (pv 3) pa_nil)))
      (pss_one (ps_ret (pe_ifExp (pt_cmpR op_eq (pe_callB call_len_seq (by rfl) T.len PySem.boot_len (pa_cons (pv 5) pa_nil)) pe_int (nomark _)) (pe_tup (pa_cons pe_str (pa_cons (pe_ix ix_tup (pv 5) pe_int (fun _ _ => rfl)) (pa_cons (pv 4) pa_nil)))) (pe_tup (pa_cons pe_str (pa_cons (pv 5) (pa_cons (pv 4) pa_nil)))))))))), ?_⟩
    have m12 := ok.m2
    have lms : (ldsOf ms).length = ms.length := by rw [List.length_map]
    have cok' : CsOk (ldsOf ms).length cs := by rw [lms]; exact cok
    refine ⟨_, rfl, _, rfl, sy, ca, many, ms, cs, rfl, hS, hC, ⟨c400, cok⟩, fun H1 s1 => ⟨_, rfl, iteF ?_⟩⟩
    refine ⟨_, rfl, b, rfl, fun H2 s2 => ⟨_, rfl, iteF ?_⟩⟩
    have t2 := s1.trans s2
    obtain ⟨dx, mv, hp, _⟩ := id (hS.same t2)
    refine ⟨_, rfl, _, rfl, _, rfl, _, rfl, sy, C, dx, _, _, rfl, hp, S.cl, S.nK, sysF_many _ _, (many : Int), rfl, RgOk.of_le (by decide) (by omega) (by decide) (by omega), fun q hq => ?_⟩
    rw [rg_upto]
    have s3 : Same H2 (upd H2 q (.tup ((upto many).map V.int))) := Same.new hq
    have g3 : (upd H2 q (.tup ((upto many).map V.int))) q = some (.tup ((upto many).map V.int)) := upd_same
    generalize upd H2 q (.tup ((upto many).map V.int)) = H3 at s3 g3 ⊢
    have t3 := t2.trans s3
    refine ⟨sy, ca, q, b, many, ms, cs, upto many, rfl, hS.same t3, ok, t3.sqT hC, cok, c400, SqT.of g3, uptoM_in many, by rw [upto_len]; exact m12, fun t l H4 kk s4 h4 g4 pk => ?_⟩
    obtain ⟨si, sl2⟩ := sel_in ok (uptoM_in many) cok' kk
    refine ⟨t, _, rfl, h4, rfl, _, _, rfl, _, _, rfl, rfl, ?_⟩
    refine ⟨_, rfl, l, selF (ldsOf ms) many (upto many) cs kk, rfl, .inr g4, by rw [sl2, upto_len]; omega, si.in12 m12, fun l5 H5 s5 g5 => ?_⟩
    have t5 := (t3.trans s4).trans s5
    refine ⟨_, rfl, l5, _, rfl, .inr (SqT.of g5), rfl, _, rfl, ?_⟩
    rw [List.length_map, dec_len1]
    refine ite2 (fun h1 => ?_) (fun h1 => ?_)
    · have h1 := of_decide_eq_true h1
      refine ⟨_, rfl, l5, _, _, _, rfl, rfl, SqT.of g5, at_head h1, _, rfl, by show 3 ≤ sizeLine; decide, fun t6 ht6 => ?_⟩
      exact k t6 _ kk (t5.trans (Same.new ht6)) (.inl ⟨h1, SqT.of upd_same⟩) pk
    · have h1 : (lotF (selF (ldsOf ms) many (upto many) cs kk)).length ≠ 1 := fun e => h1 (decide_eq_true e)
      refine ⟨_, rfl, _, rfl, by show 3 ≤ sizeLine; decide, fun t6 ht6 => ?_⟩
      exact k t6 _ kk (t5.trans (Same.new ht6)) (.inr ⟨h1, l5, SqT.of upd_same, SqT.of ((Same.new ht6) _ _ g5)⟩) pk
end
end Law


namespace L2
open PySem PySem.Spec PyProof.Rows Law
theorem expL_snoc (Ls : List (List Int)) (L : List Nd) (n : Nd) (K : List (List Int)) : expL Ls (L ++ [n]) K = ((expA Ls n (expL Ls L K).1).1, (expL Ls L K).2 ++ (expA Ls n (expL Ls L K).1).2) := by
  rw [expL_eq, List.flatMap_append, addAll_app, expL_eq, List.flatMap_cons, List.flatMap_nil, List.append_nil]
  unfold expA candA
  rw [exp1_eq]
theorem PR.bestAt {Ls : List (List Int)} {start : List Int} {K : List (List Int)} {W : List Nd} {r : Option (List Int)} (h : PR Ls K W r) : ∀ (d : Nat) (K0 : List (List Int)) (L0 L1 : List Nd), Lv Ls start d K0 (L0 ++ L1) → (∀ n ∈ L0, n.2.length ≠ 1) → K = (expL Ls L0 K0).1 → W = L1 ++ (expL Ls L0 K0).2 → Best Ls start r := by
  induction h with
  | nil K =>
    intro d K0 L0 L1 g hn hK hW
    obtain ⟨e1, e2⟩ := List.append_eq_nil_iff.mp hW.symm
    subst e1
    rw [List.append_nil] at g
    have st := g.step hn
    rw [e2] at st
    exact (LR.nil _).best (d + 1) st
  | hit K n W h1 =>
    intro d K0 L0 L1 g hn hK hW
    cases L1 with
    | nil =>
      rw [List.append_nil] at g
      have st := g.step hn
      rw [List.nil_append] at hW
      rw [← hW] at st
      exact (LR.hit _ [] n W (fun m hm => absurd hm List.not_mem_nil) h1).best (d + 1) st
    | cons m L1 =>
      rw [List.cons_append] at hW
      injection hW with e1 e2
      subst e1
      exact (LR.hit K0 L0 n L1 hn h1).best d g
  | step K n W r h1 _ ih =>
    intro d K0 L0 L1 g hn hK hW
    cases L1 with
    | nil =>
      rw [List.append_nil] at g
      have st := g.step hn
      rw [List.nil_append] at hW
      rw [← hW, ← hK] at st
      exact ih (d + 1) K [n] W st (fun m hm => by rw [List.mem_singleton.mp hm]; exact h1) rfl (by
        show W ++ _ = W ++ ((expA Ls n K).2 ++ [])
        rw [List.append_nil])
    | cons m L1 =>
      rw [List.cons_append] at hW
      injection hW with e1 e2
      subst e1
      refine ih d K0 (L0 ++ [n]) L1 (by rw [List.append_assoc]; exact g) (fun q hq => ?_) ?_ ?_
      · rcases List.mem_append.mp hq with z | z
        · exact hn q z
        · rw [List.mem_singleton.mp z]
          exact h1
      · rw [expL_snoc, hK]
      · rw [expL_snoc, e2, hK, List.append_assoc]
theorem PR.best {Ls : List (List Int)} {e : List Int} {r : Option (List Int)} (h : PR Ls [e] [([], e)] r) : Best Ls e r := h.bestAt 0 [e] [] [([], e)] (Lv.start Ls e) (fun n hn => absurd hn List.not_mem_nil) rfl rfl
/-- the same over fronts: states led side by side -/
def frS (xs e : List Int) : List Int := e.map (stepS xs)
namespace FR
/-! ### rows grown move by move: one after another (the program), level by level (the law) -/
/-- the lots that one lot leads to, those not known put behind -/
def exp1 (Ls : List (List Int)) (n : Nd) : Nat → List (List Int) → List (List Int) × List Nd
  | 0, K => (K, [])
  | i + 1, K =>
    let (K1, nw) := exp1 Ls n i K
    let o := frS (Ls.getD i []) n.2
    if o ∈ K1 then (K1, nw) else (K1 ++ [o], nw ++ [(n.1 ++ [(i : Int)], o)])
def expA (Ls : List (List Int)) (n : Nd) (K : List (List Int)) : List (List Int) × List Nd := exp1 Ls n Ls.length K
def expL (Ls : List (List Int)) : List Nd → List (List Int) → List (List Int) × List Nd
  | [], K => (K, [])
  | n :: L, K => ((expL Ls L (expA Ls n K).1).1, (expA Ls n K).2 ++ (expL Ls L (expA Ls n K).1).2)
inductive PR (Ls : List (List Int)) : List (List Int) → List Nd → Option (List Int) → Prop
  | nil (K) : PR Ls K [] none
  | hit (K) (n : Nd) (W) : (lotF n.2).length = 1 → PR Ls K (n :: W) (some n.1)
  | step (K) (n : Nd) (W) (r) : (lotF n.2).length ≠ 1 → PR Ls (expA Ls n K).1 (W ++ (expA Ls n K).2) r → PR Ls K (n :: W) r
inductive LR (Ls : List (List Int)) : List (List Int) → List Nd → Option (List Int) → Prop
  | nil (K) : LR Ls K [] none
  | hit (K) (pre : List Nd) (n : Nd) (post) : (∀ m ∈ pre, (lotF m.2).length ≠ 1) → (lotF n.2).length = 1 → LR Ls K (pre ++ n :: post) (some n.1)
  | step (K) (L : List Nd) (r) : L ≠ [] → (∀ n ∈ L, (lotF n.2).length ≠ 1) → LR Ls (expL Ls L K).1 (expL Ls L K).2 r → LR Ls K L r
theorem PR.run {Ls : List (List Int)} {r : Option (List Int)} : ∀ (L : List Nd) (acc : List Nd) (K : List (List Int)), (∀ n ∈ L, (lotF n.2).length ≠ 1) → PR Ls (expL Ls L K).1 (acc ++ (expL Ls L K).2) r → PR Ls K (L ++ acc) r
  | [], acc, K, _, h => by
    have h : PR Ls K (acc ++ []) r := h
    rw [List.append_nil] at h
    exact h
  | n :: L, acc, K, hn, h => by
    refine .step K n (L ++ acc) r (hn n List.mem_cons_self) ?_
    rw [List.append_assoc]
    refine PR.run L (acc ++ (expA Ls n K).2) _ (fun m hm => hn m (List.mem_cons_of_mem _ hm)) ?_
    rw [List.append_assoc]
    exact h
theorem PR.to {Ls : List (List Int)} {n : Nd} : ∀ (pre W : List Nd) (K : List (List Int)), (∀ m ∈ pre, (lotF m.2).length ≠ 1) → (lotF n.2).length = 1 → PR Ls K (pre ++ n :: W) (some n.1)
  | [], W, K, _, h => .hit K n W h
  | m :: pre, W, K, hm, h => by
    refine .step K m (pre ++ n :: W) _ (hm m List.mem_cons_self) ?_
    rw [List.append_assoc]
    exact PR.to pre (W ++ (expA Ls m K).2) _ (fun q hq => hm q (List.mem_cons_of_mem _ hq)) h
theorem LR.pr {Ls : List (List Int)} {K : List (List Int)} {L : List Nd} {r : Option (List Int)} (h : LR Ls K L r) : PR Ls K L r := by
  induction h with
  | nil K => exact .nil K
  | hit K pre n post h1 h2 => exact PR.to pre post K h1 h2
  | step K L r ne h1 _ ih =>
    have z := PR.run (Ls := Ls) (r := r) L [] K h1 (by rw [List.nil_append]; exact ih)
    rw [List.append_nil] at z
    exact z
theorem PR.one {Ls : List (List Int)} {K : List (List Int)} {W : List Nd} {r q : Option (List Int)} (h : PR Ls K W r) (g : PR Ls K W q) : r = q := by
  induction h with
  | nil K => cases g; rfl
  | hit K n W h1 =>
    cases g with
    | hit => rfl
    | step _ _ _ _ h2 => exact absurd h1 h2
  | step K n W r h1 _ ih =>
    cases g with
    | hit _ _ _ h2 => exact absurd h2 h1
    | step _ _ _ _ _ g2 => exact ih g2
/-! ### rows grown: the least of the shortest -/
def cand (Ls : List (List Int)) (n : Nd) (i : Nat) : Nd := (n.1 ++ [(i : Int)], frS (Ls.getD i []) n.2)
def addAll : List Nd → List (List Int) → List (List Int) × List Nd
  | [], K => (K, [])
  | c :: C, K => if c.2 ∈ K then addAll C K else ((addAll C (K ++ [c.2])).1, c :: (addAll C (K ++ [c.2])).2)
theorem addAll_app : ∀ (C D : List Nd) (K : List (List Int)), addAll (C ++ D) K = ((addAll D (addAll C K).1).1, (addAll C K).2 ++ (addAll D (addAll C K).1).2)
  | [], _, _ => rfl
  | c :: C, D, K => by
    rw [List.cons_append, addAll, addAll]
    split
    · exact addAll_app C D K
    · rw [addAll_app C D (K ++ [c.2])] <;> rfl
theorem exp1_eq (Ls : List (List Int)) (n : Nd) (K : List (List Int)) : ∀ i, exp1 Ls n i K = addAll ((List.range i).map (cand Ls n)) K
  | 0 => rfl
  | i + 1 => by
    rw [List.range_succ, List.map_append, addAll_app, ← exp1_eq Ls n K i]
    show (if frS (Ls.getD i []) n.2 ∈ (exp1 Ls n i K).1 then exp1 Ls n i K else ((exp1 Ls n i K).1 ++ [frS (Ls.getD i []) n.2], (exp1 Ls n i K).2 ++ [(n.1 ++ [(i : Int)], frS (Ls.getD i []) n.2)])) = _
    rw [List.map_cons, List.map_nil, addAll, addAll, addAll]
    show _ = ((if frS (Ls.getD i []) n.2 ∈ (exp1 Ls n i K).1 then _ else _ : List (List Int) × List Nd).1, (exp1 Ls n i K).2 ++ (if frS (Ls.getD i []) n.2 ∈ (exp1 Ls n i K).1 then _ else _ : List (List Int) × List Nd).2)
    split
    · rw [List.append_nil]
    · rfl
def candA (Ls : List (List Int)) (n : Nd) : List Nd := (List.range Ls.length).map (cand Ls n)
theorem expL_eq (Ls : List (List Int)) : ∀ (L : List Nd) (K : List (List Int)), expL Ls L K = addAll (L.flatMap (candA Ls)) K
  | [], _ => rfl
  | n :: L, K => by
    rw [List.flatMap_cons, addAll_app, expL, expL_eq Ls L]
    unfold expA candA
    rw [exp1_eq]
theorem addAll_known : ∀ (C : List Nd) (K : List (List Int)), (addAll C K).1 = K ++ (addAll C K).2.map (·.2)
  | [], K => by rw [addAll, List.map_nil, List.append_nil]
  | c :: C, K => by
    rw [addAll]
    split
    · exact addAll_known C K
    · show (addAll C (K ++ [c.2])).1 = K ++ (c :: (addAll C (K ++ [c.2])).2).map (·.2)
      rw [addAll_known C (K ++ [c.2]), List.map_cons, List.append_assoc] <;> rfl
theorem addAll_sub : ∀ (C : List Nd) (K : List (List Int)), (addAll C K).2.Sublist C
  | [], K => by rw [addAll]; exact List.nil_sublist _
  | c :: C, K => by
    rw [addAll]
    split
    · exact (addAll_sub C K).cons _
    · exact (addAll_sub C _).cons_cons _
theorem addAll_hit {R : Nd → Nd → Prop} : ∀ (C : List Nd) (K : List (List Int)), C.Pairwise R → ∀ c ∈ C, c.2 ∈ K ∨ ∃ d ∈ (addAll C K).2, d.2 = c.2 ∧ (d = c ∨ R d c)
  | [], _, _, _, h => absurd h List.not_mem_nil
  | c :: C, K, hp, x, hx => by
    rw [List.pairwise_cons] at hp
    rw [addAll]
    split
    next h =>
      rcases List.mem_cons.mp hx with rfl | hx
      · exact .inl h
      · exact addAll_hit C K hp.2 x hx
    next h =>
      rcases List.mem_cons.mp hx with rfl | hx
      · exact .inr ⟨x, List.mem_cons_self, rfl, .inl rfl⟩
      · rcases addAll_hit C (K ++ [c.2]) hp.2 x hx with z | ⟨d, h1, h2, h3⟩
        · rcases List.mem_append.mp z with z | z
          · exact .inl z
          · exact .inr ⟨c, List.mem_cons_self, (List.mem_singleton.mp z).symm, .inr (hp.1 x hx)⟩
        · exact .inr ⟨d, List.mem_cons_of_mem _ h1, h2, h3⟩
/-- the lot behind a row -/
def rch (Ls : List (List Int)) (lot row : List Int) : List Int := row.foldl (fun l i => frS (Ls.getD i.toNat []) l) lot
theorem rch_app (Ls : List (List Int)) (lot a b : List Int) : rch Ls lot (a ++ b) = rch Ls (rch Ls lot a) b := by
  unfold rch
  rw [List.foldl_append]
theorem rch_snoc (Ls : List (List Int)) (lot a : List Int) (i : Nat) : rch Ls lot (a ++ [(i : Int)]) = frS (Ls.getD i []) (rch Ls lot a) := by
  rw [rch_app]
  show frS (Ls.getD ((i : Int).toNat) []) _ = _
  rw [Int.toNat_natCast]
structure Lv (Ls : List (List Int)) (start : List Int) (d : Nat) (K : List (List Int)) (L : List Nd) : Prop where
  rows : ∀ n ∈ L, n.1.length = d ∧ RwOk Ls.length n.1 ∧ rch Ls start n.1 = n.2
  asc : L.Pairwise fun a b => lexL a.1 b.1
  known : ∀ o ∈ K, ∃ p, RwOk Ls.length p ∧ p.length ≤ d ∧ rch Ls start p = o
  cov : ∀ p, RwOk Ls.length p → p.length = d → (∃ q, RwOk Ls.length q ∧ q.length < d ∧ rch Ls start q = rch Ls start p) ∨ ∃ n ∈ L, n.2 = rch Ls start p ∧ leL n.1 p
  no : ∀ p, RwOk Ls.length p → p.length < d → (lotF (rch Ls start p)).length ≠ 1
theorem Lv.start (Ls : List (List Int)) (start : List Int) : Lv Ls start 0 [start] [([], start)] where
  rows n hn := by
    rw [List.mem_singleton.mp hn]
    exact ⟨rfl, (fun r hr => absurd hr List.not_mem_nil), rfl⟩
  asc := List.pairwise_singleton _ _
  known o ho := ⟨[], (fun r hr => absurd hr List.not_mem_nil), Nat.le_refl _, (List.mem_singleton.mp ho).symm⟩
  cov p _ h := .inr ⟨_, List.mem_singleton_self _, by rw [List.eq_nil_of_length_eq_zero h] <;> rfl, .inl (List.eq_nil_of_length_eq_zero h).symm⟩
  no p _ h := absurd h (Nat.not_lt_zero _)
theorem cands_asc {Ls : List (List Int)} {L : List Nd} (h : L.Pairwise fun a b => lexL a.1 b.1) : (L.flatMap (candA Ls)).Pairwise fun a b => lexL a.1 b.1 := by
  rw [List.pairwise_flatMap]
  refine ⟨fun n _ => ?_, h.imp fun {a b} hab x hx y hy => ?_⟩
  · unfold candA
    rw [List.pairwise_map]
    exact List.pairwise_lt_range.imp fun {i j} hij => lexL_last (by omega) n.1
  · obtain ⟨i, _, rfl⟩ := List.mem_map.mp hx
    obtain ⟨j, _, rfl⟩ := List.mem_map.mp hy
    exact lexL_snoc hab
theorem cand_mem {Ls : List (List Int)} {L : List Nd} {c : Nd} (h : c ∈ L.flatMap (candA Ls)) : ∃ n ∈ L, ∃ i, i < Ls.length ∧ c = cand Ls n i := by
  obtain ⟨n, hn, hc⟩ := List.mem_flatMap.mp h
  obtain ⟨i, hi, rfl⟩ := List.mem_map.mp hc
  exact ⟨n, hn, i, List.mem_range.mp hi, rfl⟩
theorem Lv.step {Ls : List (List Int)} {start : List Int} {d : Nat} {K : List (List Int)} {L : List Nd} (h : Lv Ls start d K L) (hn : ∀ n ∈ L, (lotF n.2).length ≠ 1) : Lv Ls start (d + 1) (expL Ls L K).1 (expL Ls L K).2 := by
  rw [expL_eq]
  have hr : ∀ n ∈ (addAll (L.flatMap (candA Ls)) K).2, n.1.length = d + 1 ∧ RwOk Ls.length n.1 ∧ rch Ls start n.1 = n.2 := fun n hn => by
    obtain ⟨x, hx, i, hi, rfl⟩ := cand_mem ((addAll_sub _ K).mem hn)
    obtain ⟨e1, e2, e3⟩ := h.rows x hx
    refine ⟨by show (x.1 ++ [(i : Int)]).length = _; rw [List.length_append, e1] <;> rfl, e2.app fun r hr => ?_, ?_⟩
    · rw [List.mem_singleton.mp hr]
      omega
    · show rch Ls start (x.1 ++ [(i : Int)]) = _
      rw [rch_snoc, e3] <;> rfl
  have ca := cands_asc (Ls := Ls) h.asc
  refine ⟨hr, ca.sublist (addAll_sub _ K), fun o ho => ?_, fun p hp hl => ?_, fun p hp hl => ?_⟩
  · rw [addAll_known] at ho
    rcases List.mem_append.mp ho with z | z
    · obtain ⟨q, a1, a2, a3⟩ := h.known o z
      exact ⟨q, a1, by omega, a3⟩
    · obtain ⟨n, hn, rfl⟩ := List.mem_map.mp z
      obtain ⟨e1, e2, e3⟩ := hr n hn
      exact ⟨n.1, e2, by omega, e3⟩
  · obtain ⟨p0, i, rfl, hl0⟩ := snoc_of hl
    have hi := hp i (List.mem_append_right _ (List.mem_singleton_self i))
    obtain ⟨j, rfl⟩ := Int.eq_ofNat_of_zero_le hi.1
    have oj : RwOk Ls.length [(j : Int)] := hp.right
    rcases h.cov p0 hp.left hl0 with ⟨q, a1, a2, a3⟩ | ⟨n, n1, n2, n3⟩
    · exact .inl ⟨q ++ [(j : Int)], a1.app oj, by rw [List.length_append]; show q.length + 1 < _; omega, by rw [rch_snoc, rch_snoc, a3]⟩
    · have cm : cand Ls n j ∈ L.flatMap (candA Ls) := List.mem_flatMap.mpr ⟨n, n1, List.mem_map.mpr ⟨j, List.mem_range.mpr (by omega), rfl⟩⟩
      have ce : (cand Ls n j).2 = rch Ls start (p0 ++ [(j : Int)]) := by
        rw [rch_snoc, ← n2] <;> rfl
      rcases addAll_hit _ K ca _ cm with z | ⟨c, c1, c2, c3⟩
      · obtain ⟨q, a1, a2, a3⟩ := h.known _ z
        exact .inl ⟨q, a1, by omega, by rw [a3, ce]⟩
      · refine .inr ⟨c, c1, by rw [c2, ce], ?_⟩
        have z : leL c.1 (n.1 ++ [(j : Int)]) := by
          rcases c3 with rfl | c3
          · exact .inl rfl
          · exact .inr c3
        exact leL_trans z (leL_snoc _ n3)
  · by_cases e : p.length < d
    · exact h.no p hp e
    · rcases h.cov p hp (by omega) with ⟨q, a1, a2, a3⟩ | ⟨n, n1, n2, _⟩
      · rw [← a3]
        exact h.no q a1 a2
      · rw [← n2]
        exact hn n n1
/-- what the search tells -/
def Best (Ls : List (List Int)) (start : List Int) : Option (List Int) → Prop
  | some r => RwOk Ls.length r ∧ (lotF (rch Ls start r)).length = 1 ∧ ∀ p, RwOk Ls.length p → (lotF (rch Ls start p)).length = 1 → r.length < p.length ∨ (r.length = p.length ∧ leL r p)
  | none => ∀ p, RwOk Ls.length p → (lotF (rch Ls start p)).length ≠ 1
theorem Lv.ended {Ls : List (List Int)} {start : List Int} {d : Nat} {K : List (List Int)} (h : Lv Ls start d K []) : ∀ (k : Nat) (p : List Int), p.length ≤ k → RwOk Ls.length p → (lotF (rch Ls start p)).length ≠ 1
  | 0, p, hk, hp => by
    by_cases e : p.length < d
    · exact h.no p hp e
    · rcases h.cov p hp (by omega) with ⟨q, a1, a2, a3⟩ | ⟨n, n1, _⟩
      · rw [← a3]
        exact h.no q a1 a2
      · exact absurd n1 List.not_mem_nil
  | k + 1, p, hk, hp => by
    by_cases e : p.length < d
    · exact h.no p hp e
    · have ep : p = p.take d ++ p.drop d := (List.take_append_drop d p).symm
      have hp' : RwOk Ls.length (p.take d ++ p.drop d) := by rw [← ep]; exact hp
      rcases h.cov (p.take d) hp'.left (by rw [List.length_take]; omega) with ⟨q, a1, a2, a3⟩ | ⟨n, n1, _⟩
      · rw [ep, rch_app, ← a3, ← rch_app]
        exact h.ended k (q ++ p.drop d) (by rw [List.length_append, List.length_drop]; omega) (a1.app hp'.right)
      · exact absurd n1 List.not_mem_nil
theorem LR.best {Ls : List (List Int)} {start : List Int} {K : List (List Int)} {L : List Nd} {r : Option (List Int)} (h : LR Ls K L r) : ∀ d, Lv Ls start d K L → Best Ls start r := by
  induction h with
  | nil K => exact fun d g p hp => g.ended p.length p (Nat.le_refl _) hp
  | hit K pre n post h1 h2 =>
    intro d g
    have hn : n ∈ pre ++ n :: post := List.mem_append_right _ List.mem_cons_self
    obtain ⟨e1, e2, e3⟩ := g.rows n hn
    refine ⟨e2, by rw [e3]; exact h2, fun p hp hs => ?_⟩
    by_cases c : p.length < d
    · exact absurd hs (g.no p hp c)
    · by_cases c2 : p.length = d
      · refine .inr ⟨by omega, ?_⟩
        rcases g.cov p hp c2 with ⟨q, a1, a2, a3⟩ | ⟨m, m1, m2, m3⟩
        · rw [← a3] at hs
          exact absurd hs (g.no q a1 a2)
        · refine leL_trans ?_ m3
          rcases List.mem_append.mp m1 with z | z
          · rw [← m2] at hs
            exact absurd hs (h1 m z)
          · rcases List.mem_cons.mp z with rfl | z
            · exact .inl rfl
            · have q := g.asc
              rw [List.pairwise_append, List.pairwise_cons] at q
              exact .inr (q.2.1.1 m z)
      · exact .inl (by omega)
  | step K L r ne h1 _ ih => exact fun d g => ih (d + 1) (g.step h1)
theorem Best.one {Ls : List (List Int)} {start : List Int} {r q : Option (List Int)} (h : Best Ls start r) (g : Best Ls start q) : r = q := by
  cases r with
  | none =>
    cases q with
    | none => rfl
    | some b => exact absurd g.2.1 (h b g.1)
  | some a =>
    cases q with
    | none => exact absurd h.2.1 (g a h.1)
    | some b =>
      rcases h.2.2 b g.1 g.2.1 with x | ⟨x, y⟩ <;> rcases g.2.2 a h.1 h.2.1 with u | ⟨u, v⟩
      · omega
      · omega
      · omega
      · rw [leL_anti y v]

theorem rch_go (Ls : List (List Int)) : ∀ (p st : List Int), rch Ls st p = st.map (goS Ls p)
  | [], st => by
    show st = st.map fun s => s
    rw [List.map_id']
  | i :: p, st => by
    show rch Ls (frS (Ls.getD i.toNat []) st) p = _
    rw [rch_go Ls p]
    unfold frS
    rw [List.map_map]
    rfl
end FR
theorem FR.Best.to {n : Nat} (hn : n ≤ 12) {Ls : List (List Int)} (h : LsOk n Ls) {st : List Int} (hs : InN n st) {r : Option (List Int)} (b : FR.Best Ls st r) : L2.Best Ls (lotF st) r := by
  have e : ∀ p, RwOk Ls.length p → lotF (FR.rch Ls st p) = L2.rch Ls (lotF st) p := fun p hp => by rw [FR.rch_go, rch_map hn h p st hp hs]
  cases r with
  | none => exact fun p hp => by rw [← e p hp]; exact b p hp
  | some q =>
    obtain ⟨b1, b2, b3⟩ := b
    exact ⟨b1, by rw [← e q b1]; exact b2, fun p hp h1 => b3 p hp (by rw [e p hp]; exact h1)⟩
end L2
namespace Law
open PySem L2
theorem join_mem {cs : List (List Int)} {a b c : Int} (h : [a, b] ∈ cs) (g : [b, c] ∈ cs) : [a, c] ∈ joinF cs := by
  unfold joinF
  refine List.mem_flatMap.mpr ⟨[a, b], h, ?_⟩
  unfold joinR
  refine List.mem_map.mpr ⟨[b, c], List.mem_filter.mpr ⟨g, ?_⟩, rfl⟩
  show (b == b) = true
  exact beq_self_eq_true b
theorem join_of {cs : List (List Int)} (hp : Prs cs) {d : List Int} (h : d ∈ joinF cs) : ∃ a b c : Int, d = [a, c] ∧ [a, b] ∈ cs ∧ [b, c] ∈ cs := by
  unfold joinF at h
  obtain ⟨x, hx, h⟩ := List.mem_flatMap.mp h
  unfold joinR at h
  obtain ⟨y, hf, rfl⟩ := List.mem_map.mp h
  obtain ⟨hy, e⟩ := List.mem_filter.mp hf
  obtain ⟨a, b, rfl⟩ := hp x hx
  obtain ⟨b', c, rfl⟩ := hp y hy
  have e : (b == b') = true := e
  have e := eq_of_beq e
  subst e
  exact ⟨a, b, c, rfl, hx, hy⟩
end Law
namespace Law
open PySem L2
/-- a strict order of n states, as an ascending list -/
structure OrdOk (n : Nat) (cs : List (List Int)) : Prop where
  inn : PrIn n cs
  asc : cs.Pairwise lexL
  irr : ∀ a b : Int, [a, b] ∈ cs → a ≠ b
  tr : ∀ a b c : Int, [a, b] ∈ cs → [b, c] ∈ cs → [a, c] ∈ cs
theorem OrdOk.len {n : Nat} {cs : List (List Int)} (h : OrdOk n cs) (m12 : n ≤ 12) : cs.length ≤ 66 := few66 m12 h.inn (lexL_nd h.asc) fun a b hm => ⟨h.irr a b hm, fun g => h.irr a a (h.tr a b a hm g) rfl⟩
theorem pairW_two {n : Nat} {a b : Int} (h : InN n [a, b]) : pairW n (rowP [a, b]) = true := by
  have h1 := h a List.mem_cons_self
  have h2 := h b (by simp)
  show (2 == 2 && ((decide (0 ≤ a) && decide (a ≤ (n : Int) - 1)) && ((decide (0 ≤ b) && decide (b ≤ (n : Int) - 1)) && true))) = true
  rw [decide_eq_true h1.1, decide_eq_true (show a ≤ (n : Int) - 1 by omega), decide_eq_true h2.1, decide_eq_true (show b ≤ (n : Int) - 1 by omega)] <;> rfl
theorem OrdOk.parts {n : Nat} {cs : List (List Int)} (h : OrdOk n cs) : ascB cs = true ∧ irrB cs = true ∧ clB cs = true := by
  refine ⟨(ascB_iff fun c hc => ?_).mpr h.asc, List.all_eq_true.mpr fun c hc => ?_, List.all_eq_true.mpr fun d hd => ?_⟩
  · obtain ⟨a, b, rfl, _⟩ := h.inn c hc
    rfl
  · obtain ⟨a, b, rfl, _⟩ := h.inn c hc
    show (!(a == b)) = true
    rw [beq_eq_false_iff_ne.mpr (h.irr a b hc)] <;> rfl
  · obtain ⟨a, b, c, rfl, h1, h2⟩ := join_of h.inn.prs hd
    exact decide_eq_true (h.tr a b c h1 h2)
theorem OrdOk.ordB {n : Nat} {cs : List (List Int)} (h : OrdOk n cs) : ordB n (.tup (cs.map rowP)) = true := by
  obtain ⟨h1, h2, h3⟩ := h.parts
  show ((cs.map rowP).all (pairW n) && ascB ((cs.map rowP).map cOf) && (irrB ((cs.map rowP).map cOf) && clB ((cs.map rowP).map cOf))) = true
  rw [rows_back, h1, h2, h3]
  have : (cs.map rowP).all (pairW n) = true := List.all_eq_true.mpr fun p hp => by
    obtain ⟨c, hc, rfl⟩ := List.mem_map.mp hp
    obtain ⟨a, b, rfl, i⟩ := h.inn c hc
    exact pairW_two i
  rw [this] <;> rfl
theorem closed_ok {n : Nat} {F ds : List (List Int)} {R : Int → Int → Prop} (hF : ∀ a b : Int, [a, b] ∈ F → R a b) (tr : ∀ a b c, R a b → R b c → R a c) (irr : ∀ a, ¬ R a a)
    (asc : ds.Pairwise lexL) (inn : PrIn n ds) (h : ∀ x y : Int, [x, y] ∈ ds ↔ Tr F x y) : OrdOk n ds where
  inn := inn
  asc := asc
  irr a b hm e := by
    subst e
    have : ∀ x y, Tr F x y → R x y := fun x y t => by
      induction t with
      | base m => exact hF _ _ m
      | trans _ _ h1 h2 => exact tr _ _ _ h1 h2
    exact irr a (this a a ((h a a).mp hm))
  tr a b c h1 h2 := (h a c).mpr (.trans ((h a b).mp h1) ((h b c).mp h2))
def posR (names : List Int) (a b : Int) : Prop := ∃ i j : Nat, i < j ∧ names[i]? = some a ∧ names[j]? = some b
theorem posR_tr {names : List Int} (nd : names.Nodup) (a b c : Int) (h : posR names a b) (g : posR names b c) : posR names a c := by
  obtain ⟨i, j, l, h1, h2⟩ := h
  obtain ⟨i', j', l', g1, g2⟩ := g
  have := nd_ix nd h2 g1
  exact ⟨i, j', by omega, h1, g2⟩
theorem posR_irr {names : List Int} (nd : names.Nodup) (a : Int) : ¬ posR names a a := fun ⟨i, j, l, h1, h2⟩ => by
  have := nd_ix nd h1 h2
  omega
theorem ordI_mem {cs : List (List Int)} {c : List Int} : c ∈ ordI cs cs.length ↔ ∃ s t : Nat, s < cs.length ∧ t < cs.length ∧ c = [(s : Int), (t : Int)] ∧ s ≠ t ∧ leH (cs.getD s []) (cs.getD t []) = true := by
  unfold ordI ordRow
  rw [List.mem_flatMap]
  constructor
  · rintro ⟨s, hs, h⟩
    obtain ⟨t, ht, rfl⟩ := List.mem_map.mp h
    obtain ⟨ht, e⟩ := List.mem_filter.mp ht
    obtain ⟨t0, t1⟩ := mem_upto.mp ht
    obtain ⟨t, rfl⟩ := Int.eq_ofNat_of_zero_le t0
    unfold ordT at e
    rw [Bool.and_eq_true, Int.toNat_natCast] at e
    refine ⟨s, t, List.mem_range.mp hs, by omega, rfl, fun z => ?_, e.2⟩
    rw [z, beq_self_eq_true] at e
    cases e.1
  · rintro ⟨s, t, hs, ht, rfl, ne, e⟩
    refine ⟨s, List.mem_range.mpr hs, List.mem_map.mpr ⟨(t : Int), List.mem_filter.mpr ⟨mem_upto.mpr ⟨by omega, by omega⟩, ?_⟩, rfl⟩⟩
    unfold ordT
    rw [Int.toNat_natCast, e, beq_eq_false_iff_ne.mpr (show (s : Int) ≠ (t : Int) by omega)] <;> rfl
theorem leH_iff {a b : List Int} : leH a b = true ↔ a.getD 0 0 ≤ b.getD 0 0 ∧ a.getD 1 0 ≤ b.getD 1 0 := by
  unfold leH
  rw [Bool.and_eq_true, decide_eq_true_eq, decide_eq_true_eq]
theorem ordI_ok {w h : Nat} {cs : List (List Int)} (f : FrmOk w h cs) : OrdOk cs.length (ordI cs cs.length) := by
  refine ⟨fun c hc => ?_, ?_, fun a b hm e => ?_, fun a b c h1 h2 => ?_⟩
  · obtain ⟨s, t, hs, ht, rfl, _⟩ := ordI_mem.mp hc
    refine ⟨_, _, rfl, fun z hz => ?_⟩
    rcases List.mem_cons.mp hz with rfl | hz
    · omega
    · rw [List.mem_singleton.mp hz]
      omega
  · unfold ordI ordRow
    refine List.pairwise_flatMap.mpr ⟨fun s _ => ?_, ?_⟩
    · refine List.pairwise_map.mpr (List.Pairwise.imp (fun {x y} l => ?_) (List.Pairwise.filter _ (upto_asc _)))
      show (s : Int) < (s : Int) ∨ ((s : Int) = (s : Int) ∧ (x < y ∨ (x = y ∧ False)))
      exact .inr ⟨rfl, .inl l⟩
    · refine List.Pairwise.imp (fun {s t} l => ?_) List.pairwise_lt_range
      intro x hx y hy
      obtain ⟨u, _, rfl⟩ := List.mem_map.mp hx
      obtain ⟨v, _, rfl⟩ := List.mem_map.mp hy
      show (s : Int) < (t : Int) ∨ _
      exact .inl (by omega)
  · obtain ⟨s, t, _, _, e2, ne, _⟩ := ordI_mem.mp hm
    cases e2
    omega
  · obtain ⟨s, t, hs, ht, e1, ne1, l1⟩ := ordI_mem.mp h1
    obtain ⟨t', u, ht', hu, e2, ne2, l2⟩ := ordI_mem.mp h2
    cases e1
    have e2 : [(t : Int), c] = [(t' : Int), (u : Int)] := e2
    injection e2 with e3 e4
    injection e4 with e4 _
    have e3 : t = t' := by omega
    subst e3
    subst e4
    have l1 := leH_iff.mp l1
    have l2 := leH_iff.mp l2
    refine ordI_mem.mpr ⟨s, u, hs, hu, rfl, fun z => ?_, leH_iff.mpr ⟨by omega, by omega⟩⟩
    subst z
    refine ne1 (nd_ix f.nd (a := cs.getD t []) ?_ ?_)
    · have g1 : cs[s]? = some cs[s] := List.getElem?_eq_getElem hs
      have g2 : cs[t]? = some cs[t] := List.getElem?_eq_getElem ht
      have d1 : cs.getD s [] = cs[s] := by rw [List.getD_eq_getElem?_getD, g1] <;> rfl
      have d2 : cs.getD t [] = cs[t] := by rw [List.getD_eq_getElem?_getD, g2] <;> rfl
      rw [g1, d2]
      rw [d1, d2] at l1 l2
      obtain ⟨a, b, ea, _⟩ := f.mem (List.getElem_mem hs)
      obtain ⟨a', b', eb, _⟩ := f.mem (List.getElem_mem ht)
      rw [ea, eb] at l1 l2
      have x1 : a ≤ a' ∧ b ≤ b' := l1
      have x2 : a' ≤ a ∧ b' ≤ b := l2
      rw [ea, eb, show a = a' by omega, show b = b' by omega]
    · rw [List.getD_eq_getElem?_getD, List.getElem?_eq_getElem ht] <;> rfl
end Law

namespace L2
open PySem PySem.Spec PyProof.Rows Law
theorem mk_same {C : Addr} {H H' : Hp} {y dy : Addr} (hy : H y = none) (hdy : H dy = none) (kC : ∀ b o, b ≠ y → (upd (upd H dy (.own y)) y (.ins C dy [])) b = some o → H' b = some o) : Same H H' := fun b o e =>
  kC b o (ne_of_none e hy) (by rw [upd_ne (ne_of_none e hy), upd_ne (ne_of_none e hdy)]; exact e)
theorem mk_same0 {C : Addr} {H : Hp} {y dy : Addr} (hy : H y = none) (hdy : H dy = none) : Same H (upd (upd H dy (.own y)) y (.ins C dy [])) := fun b o e => by
  rw [upd_ne (ne_of_none e hy), upd_ne (ne_of_none e hdy)]
  exact e
end L2
namespace Law
open PySem L2
theorem eqv_same {d : PyData} (h : SeqAt.shaped d = true) : PyData.eqv d d = true := PySem.SeqAt.eqv_refl d (SeqAt.canLay_of_shaped h)
section
variable {K : PySem.W.Frag} {p : Addr} {H H' : Hp}
theorem MvAt.stp {v : V} {m : Mv} (hp : HandAt H p) (S : Stp p H H') (h : MvAt K H v m) : MvAt K H' v m := by
  obtain ⟨a, s, l, h1, h2, h3, h4⟩ := h
  exact ⟨a, s, l, h1, S.sqT hp h2, S.sqT hp h3, S.sqT hp h4⟩
theorem MvsAt.stp {a : Addr} {ms : List Mv} (hp : HandAt H p) (S : Stp p H H') (h : MvsAt K H a ms) : MvsAt K H' a ms := by
  obtain ⟨vs, h1, h2⟩ := h
  exact ⟨vs, S.sqT hp h1, h2.1, fun i v hv => by
    obtain ⟨m, h3, h4⟩ := h2.2 i v hv
    exact ⟨m, h3, h4.stp hp S⟩⟩
theorem SysAt.stp {C q : Addr} {many : Nat} {ms : List Mv} (hp : HandAt H p) (S : Stp p H H') (h : SysAt K C H q many ms) : SysAt K C H' q many ms := by
  obtain ⟨dx, mv, h1, h2⟩ := h
  refine ⟨dx, mv, S.keep _ _ ?_ h1, h2.stp hp S⟩
  obtain ⟨ga, ca, small, s, t, hp, _⟩ := hp
  exact ne_of h1 hp (by intro z; cases z)
end
theorem EndAt.one {n : Nat} {f : Int → Bool} (h : ∀ s t, s ∈ upto n → t ∈ upto n → f s = true → f t = true → s = t) : ∀ {r q : Option Int}, EndAt n f r → EndAt n f q → r = q
  | none, none, _, _ => rfl
  | none, some s, h1, ⟨h2, h3⟩ => by
    rw [h1 s h2] at h3
    cases h3
  | some s, none, ⟨h2, h3⟩, h1 => by
    rw [h1 s h2] at h3
    cases h3
  | some s, some t, ⟨h1, h2⟩, ⟨h3, h4⟩ => by rw [h s t h1 h3 h2 h4]
theorem low_one {n : Nat} {cs : List (List Int)} (oo : OrdOk n cs) (s t : Int) (hs : s ∈ upto n) (ht : t ∈ upto n) (h1 : lowB n cs s = true) (h2 : lowB n cs t = true) : s = t := by
  unfold lowB at h1 h2
  rw [List.all_eq_true] at h1 h2
  have a := h1 t ht
  have b := h2 s hs
  rw [Bool.or_eq_true] at a b
  rcases a with a | a
  · exact (eq_of_beq a).symm
  · rcases b with b | b
    · exact eq_of_beq b
    · exact absurd rfl (oo.irr s s (oo.tr s t s (of_decide_eq_true a) (of_decide_eq_true b)))
theorem high_one {n : Nat} {cs : List (List Int)} (oo : OrdOk n cs) (s t : Int) (hs : s ∈ upto n) (ht : t ∈ upto n) (h1 : highB n cs s = true) (h2 : highB n cs t = true) : s = t := by
  unfold highB at h1 h2
  rw [List.all_eq_true] at h1 h2
  have a := h1 t ht
  have b := h2 s hs
  rw [Bool.or_eq_true] at a b
  rcases a with a | a
  · exact (eq_of_beq a).symm
  · rcases b with b | b
    · exact eq_of_beq b
    · exact absurd rfl (oo.irr s s (oo.tr s t s (of_decide_eq_true b) (of_decide_eq_true a)))
theorem tc_in {n : Nat} {Ls B : List (List Int)} (hL : LsOk n Ls) (hB : PrIn n B) {a b : Int} (t : Tc Ls B a b) : InN n [a, b] := by
  induction t with
  | base m =>
    obtain ⟨x, y, e, i⟩ := hB _ m
    cases e
    exact i
  | step _ hxs _ ih =>
    rename_i a b xs _ _
    have s2 := stepS_in (hL xs hxs) (ih b (by simp))
    have s1 := stepS_in (hL xs hxs) (ih a (by simp))
    intro z hz
    rcases List.mem_cons.mp hz with rfl | hz
    · exact s1
    · rw [List.mem_singleton.mp hz]
      exact s2
  | trans _ _ h1 h2 =>
    rename_i a b c _ _
    intro z hz
    rcases List.mem_cons.mp hz with rfl | hz
    · exact h1 _ (by simp)
    · rw [List.mem_singleton.mp hz]
      exact h2 _ (by simp)
theorem least_ok {n : Nat} {Ls B ds : List (List Int)} (hL : LsOk n Ls) (hB : PrIn n B) (h : LeastR Ls B (some ds)) : OrdOk n ds ∧ BrkAt Ls ds none := by
  obtain ⟨h1, h2, h3, h4⟩ := h
  refine ⟨⟨fun c hc => ?_, h1, fun a b hm => h4 a b ((h3 a b).mp hm), fun a b c x y => (h3 a c).mpr (((h3 a b).mp x).trans ((h3 b c).mp y))⟩, fun i c hc j xs hxs => ?_⟩
  · obtain ⟨a, b, rfl⟩ := h2 c hc
    exact ⟨a, b, rfl, tc_in hL hB ((h3 a b).mp hc)⟩
  · obtain ⟨a, b, rfl⟩ := h2 c (List.mem_of_getElem? hc)
    show (!(stepS xs a == stepS xs b) && !decide ([stepS xs a, stepS xs b] ∈ ds)) = false
    by_cases e : stepS xs a = stepS xs b
    · rw [e, beq_self_eq_true] <;> rfl
    · have := ((h3 a b).mp (List.mem_of_getElem? hc)).step (List.mem_of_getElem? hxs) e
      rw [decide_eq_true ((h3 _ _).mpr this), Bool.not_true, Bool.and_false]
def brkD (cs : List (List Int)) : Option (Nat × Nat) → PyData
  | none => .none
  | some p => tupD (cs.getD p.1 [] ++ [(p.2 : Int)])
theorem brk_dp {K : PySem.W.Frag} {H : Hp} {cs : List (List Int)} {x : V} {r : Option (Nat × Nat)} (h : BrkV K H cs x r) : Dp K H x (brkD cs r) ∧ SeqAt.shaped (brkD cs r) = true := by
  cases r with
  | none =>
    obtain rfl : x = .non := h
    exact ⟨.non, show SeqAt.shaped .none = true by decide⟩
  | some q => exact ⟨dp_row h, sh_tup _⟩
theorem BrkV.same {K : PySem.W.Frag} {H H' : Hp} {cs : List (List Int)} {x : V} {r : Option (Nat × Nat)} (s : Same H H') (h : BrkV K H cs x r) : BrkV K H' cs x r := by
  cases r with
  | none => exact h
  | some q => exact RowAt.same s h
def optD : Option Int → PyData
  | none => .none
  | some s => .int s
theorem ends_dp {K : PySem.W.Frag} {H : Hp} {a : Addr} {r q : Option Int} (h : H a = some (.tup [optV r, optV q])) : Dp K H (.ref a) (.tuple [optD r, optD q]) ∧ SeqAt.shaped (.tuple [optD r, optD q]) = true := by
  have o : ∀ r : Option Int, Dp K H (optV r) (optD r) := fun r => by
    cases r with
    | none => exact .non
    | some s => exact .int s
  refine ⟨.tup (SqT.of h) (.cons (o r) (.cons (o q) .nil)), ?_⟩
  cases r with
  | none =>
    cases q with
    | none => decide
    | some s => exact shaped_of (n := 2) (by simp [optD, PyData.canLay0, PyData.canLayAll0, PyData.depth, PyData.depthAll]) (by decide)
  | some s =>
    cases q with
    | none => exact shaped_of (n := 2) (by simp [optD, PyData.canLay0, PyData.canLayAll0, PyData.depth, PyData.depthAll]) (by decide)
    | some t => exact shaped_of (n := 2) (by simp [optD, PyData.canLay0, PyData.canLayAll0, PyData.depth, PyData.depthAll]) (by decide)
def lstQ : Option (List (List Int)) → PyData
  | none => .none
  | some ds => .tuple (ds.map tupD)
theorem lst_dp {K : PySem.W.Frag} {H : Hp} {x : V} {r : Option (List (List Int))} (h : LstV K H x r) : Dp K H x (lstQ r) ∧ SeqAt.shaped (lstQ r) = true := by
  cases r with
  | none =>
    obtain rfl : x = .non := h
    exact ⟨.non, by decide⟩
  | some ds =>
    obtain ⟨a, ws, rfl, h1, h2⟩ := h
    exact ⟨.tup h1 (dp_all (g := tupD) (R := RowAt K H) (fun _ _ => dp_row) h2), sh_ttt _⟩
theorem LstV.same {K : PySem.W.Frag} {H H' : Hp} {x : V} {r : Option (List (List Int))} (s : Same H H') (h : LstV K H x r) : LstV K H' x r := by
  cases r with
  | none => exact h
  | some ds =>
    obtain ⟨a, ws, e, h1, h2⟩ := h
    exact ⟨a, ws, e, s.sqT h1, h2.mono fun _ _ z => RowAt.same s z⟩
theorem index_at {cs : List (List Int)} {c : List Int} (nd : cs.Nodup) (mem : c ∈ cs) : ∃ j : Nat, cs[j]? = some c ∧ (cs.map tupD)[j]? = some (tupD c) ∧ PyData.eqv (tupD c) (tupD c) = true ∧ ∀ (m : Nat) (z' : PyData), m < j → (cs.map tupD)[m]? = some z' → PyData.eqv z' (tupD c) = false := by
  obtain ⟨j, hj⟩ := List.getElem?_of_mem mem
  refine ⟨j, hj, by rw [List.getElem?_map, hj] <;> rfl, by rw [eqv_tupD, decide_eq_true rfl], fun m z' hm hz => ?_⟩
  rw [List.getElem?_map] at hz
  obtain ⟨c', hc', rfl⟩ := Option.map_eq_some_iff.mp hz
  rw [eqv_tupD]
  refine decide_eq_false fun e => ?_
  rw [e] at hc'
  have := nd_ix nd hc' hj
  omega
theorem dp_rows {K : PySem.W.Frag} {H : Hp} {L : Addr} {vs : List V} {cs : List (List Int)} (hL : SqL K H L vs) (A : AllIn (RowAt K H) vs cs) : Dp K H (.ref L) (.list (cs.map tupD)) := .lst hL (dp_all (g := tupD) (R := RowAt K H) (fun _ _ => dp_row) A)
end Law
namespace Law
open PySem L2
section
variable {P : Program} {w : World} {K : PySem.W.Frag} {mg : Str → Option Value} {base : Heap}
def spEndsK (K : PySem.W.Frag) (C : Addr) : Sp := fun vs H Q _ => ∃ (q s : Addr) (many : Nat) (ms : List Mv) (ws : List V) (cs : List (List Int)) (lo hi : Int), vs = [.ref q, .ref s] ∧ SysAt K C H q many ms ∧ many ≤ 12 ∧ (∀ m ∈ ms, MvOk many m) ∧ SqT K H s ws ∧ AllIn (RowAt K H) ws cs ∧ OrdOk many cs ∧ BrkAt (LsOf ms) cs none ∧ EndAt many (lowB many cs) (some lo) ∧ EndAt many (highB many cs) (some hi) ∧
  ∀ (a : Addr) (H' : Hp), Same H H' → H' a = some (.tup [.int lo, .int hi]) → Q (.ref a) H'
abbrev nEndsKept : List Str := ["system", "order", "found"]
theorem scEndsKept : FnScope nEndsKept ["system", "order"] (defScope s_ends_kept) := ⟨rfl, rfl, rfl, by decide +kernel, rfl, by decide +kernel, by decide +kernel⟩
theorem ok_ends_kept {f : Addr} {fd : FuncData} {fcBrk : Addr} {fdcBrk : FuncData} {fcEnds : Addr} {fdcEnds : FuncData} {C : Addr} (F : Fun K "ends_kept" "ends_kept" s_ends_kept f fd) (T : NmA mg) (cBrk : Cl P w K mg base CX0 7 "breaking" fcBrk fdcBrk ["system", "order"] (spBrk K C)) (cEnds : Cl P w K mg base CX0 7 "ends" fcEnds fdcEnds ["system", "order"] (spEnds K C)) (S : SysT K mg C) : FnOk P w K mg base CX0 8 f fd ["system", "order"] (spEndsK K C) := by
  refine F.ok scEndsKept (fun vs H Q E h => ?_) (fun cdv A' outer s H vs Q E hr h => ?_)
  · obtain ⟨q, s, many, ms, ws, cs, lo, hi, rfl, _⟩ := h
    rfl
  · obtain ⟨q, s, many, ms, ws, cs, lo, hi, rfl, hM, m12, mo, hT, hA, oo, kp, el, eh, k⟩ := h
    have hu := hu_of hr
    refine ⟨_, pss_cons (ps_if (pt_cmpR op_notN (cBrk.call (hr.mono (by decide)) (pa_cons (pv 0) (pa_cons (pv 1) pa_nil))) pe_non (nomark _))
        pss_never pss_nil)
      (pss_cons (ps_set (i := 2) scEndsKept.nd rfl (Or.inl rfl) (cEnds.call (hr.mono (by decide)) (pa_cons (pv 0) (pa_cons (pv 1) pa_nil))))
      (pss_cons (ps_if (pt_cmpR op_in_seq pe_non (pv 2) (by rfl))
        pss_never pss_nil)
      (pss_one (ps_ret (pv 2))))), ?_⟩
    have l66 := oo.len m12
    refine ⟨_, rfl, _, rfl, q, s, many, ms, ws, cs, rfl, hM, m12, mo, hT, hA, by omega, oo.ordB, fun x r H1 s1 hb hv => ?_⟩
    obtain rfl := BrkAt.one hb kp
    obtain rfl : x = .non := hv
    refine ⟨rfl, _, rfl, iteF ?_⟩
    refine ⟨_, rfl, _, rfl, q, s, many, ms, ws, cs, rfl, hM.same s1, m12, s1.sqT hT, hA.mono fun _ _ z => RowAt.same s1 z, by omega, oo.ordB, fun a rl rh H2 s2 e2 el2 eh2 => ?_⟩
    obtain rfl := EndAt.one (low_one oo) el2 el
    obtain rfl := EndAt.one (high_one oo) eh2 eh
    refine ⟨_, rfl, a, _, rfl, .inr (SqT.of e2), rfl, rfl, _, rfl, iteF ?_⟩
    exact ⟨_, rfl, k a H2 (s1.trans s2) e2⟩
def spMerge (K : PySem.W.Frag) (C : Addr) : Sp := fun vs H Q _ => ∃ (q s : Addr) (many : Nat) (ms : List Mv) (ws : List V) (cs : List (List Int)) (lo hi : Int), vs = [.ref q, .ref s] ∧ SysAt K C H q many ms ∧ many ≤ 12 ∧ ms.length ≤ 24 ∧ (∀ m ∈ ms, MvOk many m) ∧ SqT K H s ws ∧ AllIn (RowAt K H) ws cs ∧ OrdOk many cs ∧ BrkAt (LsOf ms) cs none ∧ EndAt many (lowB many cs) (some lo) ∧ EndAt many (highB many cs) (some hi) ∧
  ∀ (x : V) (r : Option (List Int)) (H' : Hp), Same H H' → Best (LsOf ms) (lotF [lo, hi]) r → (match r with | none => x = .non | some l => RowAt K H' x l) → Q x H'
abbrev nMergingByEnds : List Str := ["system", "order"]
theorem scMergingByEnds : FnScope nMergingByEnds ["system", "order"] (defScope s_merging_by_ends) := ⟨rfl, rfl, rfl, by decide +kernel, rfl, by decide +kernel, by decide +kernel⟩
theorem ok_merging_by_ends {f : Addr} {fd : FuncData} {fcLeast : Addr} {fdcLeast : FuncData} {fcLotOf : Addr} {fdcLotOf : FuncData} {fcEndsK : Addr} {fdcEndsK : FuncData} {C : Addr} (F : Fun K "merging_by_ends" "merging_by_ends" s_merging_by_ends f fd) (T : NmA mg) (cLeast : Cl P w K mg base CX0 3 "least_row_to_one" fcLeast fdcLeast ["system", "start"] (spRowTo K C)) (cLotOf : Cl P w K mg base CX0 1 "lot_of" fcLotOf fdcLotOf ["things"] (spLotOf K)) (cEndsK : Cl P w K mg base CX0 8 "ends_kept" fcEndsK fdcEndsK ["system", "order"] (spEndsK K C)) (S : SysT K mg C) : FnOk P w K mg base CX0 9 f fd ["system", "order"] (spMerge K C) := by
  refine F.ok scMergingByEnds (fun vs H Q E h => ?_) (fun cdv A' outer s H vs Q E hr h => ?_)
  · obtain ⟨q, s, many, ms, ws, cs, lo, hi, rfl, _⟩ := h
    rfl
  · obtain ⟨q, s, many, ms, ws, cs, lo, hi, rfl, hM, m12, ml, mo, hT, hA, oo, kp, el, eh, k⟩ := h
    have hu := hu_of hr
    refine ⟨_, pss_one (ps_ret (cLeast.call (hr.mono (by decide)) (pa_cons (pv 0) (pa_cons (cLotOf.call (hr.mono (by decide)) (pa_cons (cEndsK.call (hr.mono (by decide)) (pa_cons (pv 0) (pa_cons (pv 1) pa_nil))) pa_nil)) pa_nil)))), ?_⟩
    have lN : InN many [lo, hi] := fun z hz => by
      rcases List.mem_cons.mp hz with rfl | hz
      · exact mem_upto.mp el.1
      · rw [List.mem_singleton.mp hz]
        exact mem_upto.mp eh.1
    refine ⟨_, rfl, _, rfl, _, rfl, q, s, many, ms, ws, cs, lo, hi, rfl, hM, m12, mo, hT, hA, oo, kp, el, eh, fun a H1 s1 e1 => ?_⟩
    refine ⟨a, [lo, hi], rfl, .inr (SqT.of e1), by show 2 ≤ 63; decide, lN.in12 m12, fun l H2 s2 e2 => ?_⟩
    have l1 := lot_le m12 lN
    have ln := lotN m12 lN
    refine ⟨q, l, many, ms, lotF [lo, hi], rfl, hM.same (s1.trans s2), m12, ml, mo, e2, by have : [lo, hi].length = 2 := rfl; omega, ln, lot_id m12 ln (lot_asc _), fun x r H3 s3 pr hx => k x r H3 ((s1.trans s2).trans s3) pr.best hx⟩
theorem lot_two {n : Nat} (hn : n ≤ 12) {x y : Int} (h : InN n [x, y]) : (lotF [x, y]).length = 1 ↔ x = y := by
  constructor
  · intro e
    obtain ⟨z, _, h2, _⟩ := lot_one (h.in12 hn) e
    rw [h2 x List.mem_cons_self, h2 y (by simp)]
  · intro e
    subst e
    have h1 : InN n [x] := fun z hz => by
      rw [List.mem_singleton.mp hz]
      exact h x List.mem_cons_self
    rw [lot_congr (h.in12 hn) (h1.in12 hn) fun k => by simp, lot_id hn h1 (List.pairwise_singleton _ _)] <;> rfl
def DrwAt (K : PySem.W.Frag) (H : Hp) (t : Addr) (k : Nat) (e : List Int) (b : Bool) : Prop := (b = true ∧ SqT K H t [.str "told", .int (e.getD 0 0), .int (k : Int)]) ∨ (b = false ∧ ∃ l, SqT K H t [.str "undecided", .ref l, .int (k : Int)] ∧ SqT K H l (e.map V.int))
def spDrwE (K : PySem.W.Frag) (C : Addr) : Sp := fun vs H Q _ => ∃ (q s ca : Addr) (b : Bool) (many : Nat) (ms : List Mv) (ws : List V) (cs : List (List Int)) (lo hi : Int) (row : List Int), vs = [.ref q, .ref s, .ref ca, .str (plS b)] ∧ SysAt K C H q many ms ∧ SysOk many ms ∧ SqT K H s ws ∧ AllIn (RowAt K H) ws cs ∧ OrdOk many cs ∧ BrkAt (LsOf ms) cs none ∧ EndAt many (lowB many cs) (some lo) ∧ EndAt many (highB many cs) (some hi) ∧ SqT K H ca (row.map V.int) ∧ CsOk ms.length row ∧ row.length ≤ 400 ∧
  ∀ (t : Addr) (H' : Hp) (k : Nat), Same H H' → DrwAt K H' t k (selF (ldsOf ms) many [lo, hi] row k) (oneF (ldsOf ms) many [lo, hi] row k) → Pick b row.length (oneF (ldsOf ms) many [lo, hi] row) k → Q (.ref t) H'
abbrev nDrawnByEnds : List Str := ["system", "order", "coins", "plan", "both", "low", "high", "many"]
theorem scDrawnByEnds : FnScope nDrawnByEnds ["system", "order", "coins", "plan"] (defScope s_drawn_by_ends) := ⟨rfl, rfl, rfl, by decide +kernel, rfl, by decide +kernel, by decide +kernel⟩
theorem ok_drawn_by_ends {f : Addr} {fd : FuncData} {fcEndsK : Addr} {fdcEndsK : FuncData} {fcIsRow : Addr} {fdcIsRow : FuncData} {fcIsPlan : Addr} {fdcIsPlan : FuncData} {fcPlan : Addr} {fdcPlan : FuncData} {C : Addr} (F : Fun K "drawn_by_ends" "drawn_by_ends" s_drawn_by_ends f fd) (T : NmA mg) (cEndsK : Cl P w K mg base CX0 8 "ends_kept" fcEndsK fdcEndsK ["system", "order"] (spEndsK K C)) (cIsRow : Cl P w K mg base CX0 4 "is_row" fcIsRow fdcIsRow ["system", "thing"] (spIsRow K C)) (cIsPlan : Cl P w K mg base CX0 1 "is_plan" fcIsPlan fdcIsPlan ["thing"] spIsPlan) (cPlan : Cl P w K mg base CX0 2 "led_by_plan" fcPlan fdcPlan ["system", "coins", "plan", "states"] (spPlan K C)) (S : SysT K mg C) : FnOk P w K mg base CX0 9 f fd ["system", "order", "coins", "plan"] (spDrwE K C) := by
  refine F.ok scDrawnByEnds (fun vs H Q E h => ?_) (fun cdv A' outer s H vs Q E hr h => ?_)
  · obtain ⟨q, s, ca, b, many, ms, ws, cs, lo, hi, row, rfl, _⟩ := h
    rfl
  · obtain ⟨q, s, ca, b, many, ms, ws, cs, lo, hi, row, rfl, hM, ok, hT, hA, oo, kp, el, eh, hC, cok, c400, k⟩ := h
    have hu := hu_of hr
    refine ⟨_, pss_cons (ps_set (i := 4) scDrawnByEnds.nd rfl (Or.inl rfl) (cEndsK.call (hr.mono (by decide)) (pa_cons (pv 0) (pa_cons (pv 1) pa_nil))))
      (pss_cons (ps_if (pt_not (pt_val (cIsRow.call (hr.mono (by decide)) (pa_cons (pv 0) (pa_cons (pv 2) pa_nil)))))
        pss_never pss_nil)
      (pss_cons (ps_if (pt_not (pt_val (cIsPlan.call (hr.mono (by decide)) (pa_cons (pv 3) pa_nil))))
        pss_never pss_nil)
      (pss_cons (ps_asg (cPlan.call (hr.mono (by decide)) (pa_cons (pv 0) (pa_cons (pv 2) (pa_cons (pv 3) (pa_cons (pv 4) pa_nil))))) (pg_tup (by rfl) (pgs_cons (pg_tup (by rfl) (pgs_cons (pg_name (i := 5) scDrawnByEnds.nd rfl (Or.inl rfl)) (pgs_cons (pg_name (i := 6) scDrawnByEnds.nd rfl (Or.inl rfl)) pgs_nil))) (pgs_cons (pg_name (i := 7) scDrawnByEnds.nd rfl (Or.inl rfl)) pgs_nil))))
      (pss_one (ps_ret (pe_ifExp (pt_cmpR op_eq (pv 5) (pv 6) (nomark _)) (pe_tup (pa_cons pe_str (pa_cons (pv 5) (pa_cons (pv 7) pa_nil)))) (pe_tup (pa_cons pe_str (pa_cons (pe_tup (pa_cons (pv 5) (pa_cons (pv 6) pa_nil))) (pa_cons (pv 7) pa_nil)))))))))), ?_⟩
    have m12 := ok.m2
    have lN : InM many [lo, hi] := fun z hz => by
      rcases List.mem_cons.mp hz with rfl | hz
      · exact mem_upto.mp el.1
      · rw [List.mem_singleton.mp hz]
        exact mem_upto.mp eh.1
    refine ⟨_, rfl, _, rfl, q, s, many, ms, ws, cs, lo, hi, rfl, hM, m12, ok.mv, hT, hA, oo, kp, el, eh, fun a H1 s1 e1 => ?_⟩
    refine ⟨_, rfl, _, rfl, q, ca, many, ms, row, rfl, hM.same s1, s1.sqT hC, ⟨c400, cok⟩, fun H2 s2 => ⟨_, rfl, iteF ?_⟩⟩
    refine ⟨_, rfl, b, rfl, fun H3 s3 => ⟨_, rfl, iteF ?_⟩⟩
    have s23 := s2.trans s3
    have t3 := s1.trans s23
    refine ⟨_, rfl, _, rfl, _, rfl, _, rfl, q, ca, a, b, many, ms, row, [lo, hi], rfl, hM.same t3, lds_ok ok, t3.sqT hC, cok, c400, SqT.of (s23 _ _ e1), lN, by show 2 ≤ 12; decide, fun t l H4 kk s4 h4 g4 pk => ?_⟩
    have t4 := t3.trans s4
    obtain ⟨si, sl⟩ := sel_in (lds_ok ok) lN (by rw [List.length_map]; exact cok) kk
    obtain ⟨x, y, e⟩ : ∃ x y, selF (ldsOf ms) many [lo, hi] row kk = [x, y] := by
      have sl : (selF (ldsOf ms) many [lo, hi] row kk).length = 2 := sl
      match selF (ldsOf ms) many [lo, hi] row kk, sl with
      | [x, y], _ => exact ⟨x, y, rfl⟩
    have o1 : oneF (ldsOf ms) many [lo, hi] row kk = (x == y) := by
      unfold oneF
      rw [e] at si ⊢
      by_cases c : x = y
      · rw [decide_eq_true ((lot_two m12 si).mpr c), beq_iff_eq.mpr c]
      · rw [decide_eq_false fun z => c ((lot_two m12 si).mp z), beq_eq_false_iff_ne.mpr c]
    have kk2 := k
    rw [e] at g4
    refine ⟨t, _, rfl, h4, rfl, _, _, rfl, l, _, rfl, g4, rfl, _, _, rfl, _, _, rfl, rfl, _, _, rfl, rfl, ?_⟩
    refine ⟨_, rfl, _, rfl, rfl, _, rfl, ?_⟩
    rw [dec_int]
    refine ite2 (fun c => ?_) (fun c => ?_)
    · refine ⟨_, rfl, _, rfl, by show 3 ≤ sizeLine; decide, fun t6 ht6 => ?_⟩
      refine new_step ht6 fun H5 s5 e5 => ?_
      refine k t6 H5 kk (t4.trans s5) (.inl ⟨by rw [o1]; exact c, ?_⟩) pk
      rw [e]
      exact SqT.of e5
    · refine ⟨_, rfl, _, rfl, by show 2 ≤ sizeLine; decide, fun t5 ht5 => ?_⟩
      refine new_step ht5 fun H5 s5 e5 => ?_
      refine ⟨_, rfl, by show 3 ≤ sizeLine; decide, fun t6 ht6 => ?_⟩
      refine new_step ht6 fun H6 s6 e6 => ?_
      refine k t6 H6 kk (t4.trans (s5.trans s6)) (.inr ⟨by rw [o1]; exact Bool.eq_false_iff.mpr c, t5, SqT.of e6, ?_⟩) pk
      rw [e]
      exact SqT.of (s6 _ _ e5)
end
end Law

namespace Law
open PySem L2
theorem getD_int {Ls : List (List Int)} {i : Nat} {xs : List Int} {c : Int} (hc : c.toNat = i) (h : Ls[i]? = some xs) : Ls.getD c.toNat [] = xs := by
  rw [hc, List.getD_eq_getElem?_getD, h] <;> rfl
theorem goS_take {Ls : List (List Int)} {row : List Int} {i : Nat} {c : Int} (h : row[i]? = some c) (s : Int) : goS Ls (row.take (i + 1)) s = stepS (Ls.getD c.toNat []) (goS Ls (row.take i) s) := by
  rw [List.take_add_one, h, goS_app]
  rfl
theorem ldsok {n : Nat} {Ls : List (List Int)} (n1 : 1 ≤ n) (n12 : n ≤ 12) (h : LsOk n Ls) : LdsOk n Ls := ⟨n1, n12, fun xs hx => h xs hx⟩
theorem behind_go (Ls : List (List Int)) (n : Nat) (row : List Int) : (upto n).map (goS Ls row) = behindF Ls n row := by
  unfold upto behindF
  rw [List.map_map]
  rfl
theorem looks_eq {b : Bool} {n : Nat} {ks ls : List Nat} (h : IsLk b n ks) (g : IsLk b n ls) : ks = ls := by
  have e : ∀ {a c : List Nat}, a.Pairwise (· < ·) → c.Pairwise (· < ·) → (∀ k, k ∈ a ↔ k ∈ c) → a = c := by
    intro a c ha hc hm
    have q := asc_ext (a := a.map fun i : Nat => (i : Int)) (b := c.map fun i : Nat => (i : Int)) (List.pairwise_map.mpr (ha.imp fun {x y} l => by omega)) (List.pairwise_map.mpr (hc.imp fun {x y} l => by omega)) fun k => by
      constructor
      · intro hk
        obtain ⟨j, hj, rfl⟩ := List.mem_map.mp hk
        exact List.mem_map.mpr ⟨j, (hm j).mp hj, rfl⟩
      · intro hk
        obtain ⟨j, hj, rfl⟩ := List.mem_map.mp hk
        exact List.mem_map.mpr ⟨j, (hm j).mpr hj, rfl⟩
    have z := congrArg (List.map Int.toNat) q
    rw [List.map_map, List.map_map] at z
    have i1 : (Int.toNat ∘ fun i : Nat => (i : Int)) = id := funext fun i => Int.toNat_natCast i
    rw [i1, List.map_id, List.map_id] at z
    exact z
  exact e h.asc g.asc fun k => (h.mem k).trans (g.mem k).symm
section
variable {P : Program} {w : World} {K : PySem.W.Frag} {mg : Str → Option Value} {base : Heap}
def spAllLed (K : PySem.W.Frag) : Sp := fun vs H Q _ => ∃ (mp ra : Addr) (n : Nat) (mws : List V) (Ls : List (List Int)) (row : List Int), vs = [.ref mp, .ref ra, .int (n : Nat)] ∧ SqL K H mp mws ∧ AllIn (RowAt K H) mws Ls ∧ LsOk n Ls ∧ n ≤ 12 ∧ SqT K H ra (row.map V.int) ∧ RwOk Ls.length row ∧
  ∀ (D : Addr) (H' : Hp), Same H H' → H' D = some (.lst (((upto n).map (goS Ls row)).map V.int)) → Q (.ref D) H'
abbrev nLawAllLed : List Str := ["_law_maps_here", "_law_row", "_law_many", "_law_found", "_law_move", "_law_state"]
theorem scLawAllLed : FnScope nLawAllLed ["_law_maps_here", "_law_row", "_law_many"] (defScope s_law_all_led) := ⟨rfl, rfl, rfl, by decide +kernel, rfl, by decide +kernel, by decide +kernel⟩
theorem ok_all_led {f : Addr} {fd : FuncData} (F : Fun K "_law_all_led" "_law_all_led" s_law_all_led f fd) (T : NmA mg) : FnOk P w K mg base CX0 1 f fd ["_law_maps_here", "_law_row", "_law_many"] (spAllLed K) := by
  refine F.ok scLawAllLed (fun vs H Q E h => ?_) (fun cdv A' outer s H vs Q E hr h => ?_)
  · obtain ⟨mp, ra, n, mws, Ls, row, rfl, _⟩ := h
    rfl
  · obtain ⟨mp, ra, n, mws, Ls, row, rfl, hM, hA, lsok, n12, hR, rok, k⟩ := h
    have hu := hu_of hr
    refine ⟨_, pss_cons (ps_set (i := 3) scLawAllLed.nd rfl (Or.inl rfl) (pe_listRg (by rfl) (by rfl) T.list (prg_1 (by rfl) T.range (pv 2))))
      (pss_cons (ps_for PassesOwn.never rfl (pi_tup (pv 1)) (pg_name (i := 4) scLawAllLed.nd rfl (Or.inr rfl))
        (pss_one (ps_setLc (i := 3) (own := [("_law_state", 5)]) (g := (gName 5)) (tt := tYes) (by rfl) scLawAllLed.nd rfl rfl (sw_true rfl rfl rfl (by decide +kernel)) (pi_list (pv 3)) (blkOk_by (own := [("_law_state", 5)]) (N := nLawAllLed) (sc := defScope s_law_all_led) (by decide +kernel)) (fun _ _ _ _ _ => (pg_name (i := 5) scLawAllLed.nd rfl (Or.inl rfl))) (fun _ _ _ _ _ => pts_nil) (fun _ _ _ _ _ => (pe_ix (r := rIxT K) (show IxR _ (rIxT K) from ix_tup) (pe_ix (r := rIxL K) (show IxR _ (rIxL K) from ix_list) (pv 0) (pv 4) (fun _ _ => rfl)) (pv 5) (fun _ _ => rfl))))))
      (pss_one (ps_ret (pv 3)))), ?_⟩
    have rgok : RgOk 0 (n : Int) := RgOk.of_le (by decide) (by omega) (by decide) (by omega)
    refine ⟨_, rfl, (n : Int), rfl, rgok, fun q hq => ?_⟩
    refine new_step hq fun H1 s1 e1 => ?_
    rw [rgV_up] at e1
    refine ⟨_, rfl, ra, rfl, ⟨_, s1.sqT hR⟩, ?_⟩
    refine for_tup (K := K) (a := ra) (xs := row.map V.int) (fun i σ H' => Same H H' ∧ ∃ (D : Addr) (u4 u5 : Option V), H' D = some (.lst (((upto n).map (goS Ls (row.take i))).map V.int)) ∧ σ = [some (.ref mp), some (.ref ra), some (.int (n : Int)), some (.ref D), u4, u5]) ⟨s1, q, none, none, ?_, rfl⟩ (fun i σ H' _ h => h.1.sqT hR) ?_ ?_
    · show H1 q = some (.lst (((upto n).map fun s => s).map V.int))
      rw [List.map_id']
      exact e1
    · rintro i x σ H2 hi ⟨s2, D, u4, u5, d2, rfl⟩
      rw [List.getElem?_map] at hi
      obtain ⟨c, hc, rfl⟩ := Option.map_eq_some_iff.mp hi
      obtain ⟨c0, c1⟩ := rok c (List.mem_of_getElem? hc)
      obtain ⟨j, rfl⟩ := Int.eq_ofNat_of_zero_le c0
      have ml := hA.1
      have jm : j < mws.length := by omega
      obtain ⟨xs, hxs, la, ela, hla⟩ := hA.2 j mws[j] (List.getElem?_eq_getElem jm)
      have ld := lsok xs (List.mem_of_getElem? hxs)
      have hat : atI mws ((j : Nat) : Int) = some (.ref la) := by rw [← ela]; exact atI_nat (List.getElem?_eq_getElem jm)
      refine ⟨_, rfl, D, rfl, ⟨_, SqL.of d2⟩, fun E hE => ?_⟩
      refine lc_list (K := K) (a := D) (xs := ((upto n).map (goS Ls (row.take i))).map V.int) (fun t H' => Same H2 H' ∧ H' E = some (.lst ((((upto n).map (goS Ls (row.take (i + 1)))).take t).map V.int))) ⟨Same.new hE, upd_same⟩ (fun t H' _ h => SqL.of (h.1 _ _ d2)) (fun t y H3 ht g => ?_) fun H3 g => ?_
      · obtain ⟨s3, e3⟩ := g
        rw [List.getElem?_map, List.getElem?_map] at ht
        obtain ⟨z, hz, rfl⟩ := Option.map_eq_some_iff.mp ht
        obtain ⟨u, hu, rfl⟩ := Option.map_eq_some_iff.mp hz
        have ub := mem_upto.mp (List.mem_of_getElem? hu)
        have tl := (List.getElem?_eq_some_iff.mp hu).1
        rw [upto_len] at tl
        have rt : RwOk Ls.length (row.take i) := fun r hr => rok r (List.mem_of_mem_take hr)
        have zb := goS_in lsok (row.take i) u rt ub
        have s23 := s2.trans s3
        refine ⟨rfl, _, rfl, _, rfl, mp, mws, ((j : Nat) : Int), _, rfl, rfl, s23.sqL hM, hat, _, rfl, la, _, goS Ls (row.take i) u, _, rfl, rfl, s23.sqT hla, step_at ld zb, ?_⟩
        refine ⟨_, e3, ?_, s3.mut hE, ?_⟩
        · rw [List.length_map, List.length_take, List.length_map, upto_len, sizeLine_eq]
          omega
        · have e : ((upto n).map (goS Ls (row.take (i + 1))))[t]? = some (stepS xs (goS Ls (row.take i) u)) := by
            rw [List.getElem?_map, hu, Option.map_some, goS_take hc, getD_int (Int.toNat_natCast j) hxs]
          rw [upd_same, List.take_add_one (i := t), e, List.map_append] <;> rfl
      · obtain ⟨s3, e3⟩ := g
        rw [List.take_of_length_le (by rw [List.length_map, List.length_map, List.length_map]; exact Nat.le_refl _)] at e3
        exact ⟨s2.trans s3, E, _, _, e3, rfl⟩
    · rintro σ H2 ⟨s2, D, u4, u5, d2, rfl⟩
      rw [List.length_map, List.take_length] at d2
      exact ⟨_, rfl, k D H2 s2 d2⟩
def spLLooks : Sp := fun vs H Q _ => ∃ (b : Bool) (n : Nat), vs = [.int (n : Int), .str (plS b)] ∧ n ≤ 400 ∧ ∀ D H' (ks : List Nat), Same H H' → H' D = some (.lst ((ks.map fun i : Nat => (i : Int)).map V.int)) → IsLk b n ks → Q (.ref D) H'
abbrev nLawLooks : List Str := ["_law_length", "_law_plan", "_law_found", "_law_many", "_law_turn"]
theorem scLawLooks : FnScope nLawLooks ["_law_length", "_law_plan"] (defScope s_law_looks) := ⟨rfl, rfl, rfl, by decide +kernel, rfl, by decide +kernel, by decide +kernel⟩
theorem ok_llooks {f : Addr} {fd : FuncData} (F : Fun K "_law_looks" "_law_looks" s_law_looks f fd) (T : NmA mg) : FnOk P w K mg base CX0 1 f fd ["_law_length", "_law_plan"] spLLooks := by
  refine F.ok scLawLooks (fun vs H Q E h => ?_) (fun cdv A' outer s H vs Q E hr h => ?_)
  · obtain ⟨b, n, rfl, _⟩ := h
    rfl
  · obtain ⟨b, n, rfl, n4, k⟩ := h
    have hu := hu_of hr
    refine ⟨_, pss_cons (ps_if (pt_cmpR op_eq (pv 1) pe_str (nomark _))
        (pss_one (ps_ret (pe_listRg (by rfl) (by rfl) T.list (prg_1 (by rfl) T.range (pe_op op_add (pv 0) pe_int))))) pss_nil)
      (pss_cons (ps_par (i := 2) (j := 3) (by rfl) scLawLooks.nd rfl rfl (by decide) rfl rfl (pa_cons (pe_lst (pa_cons pe_int pa_nil)) (pa_cons pe_int pa_nil)) (by rfl))
      (pss_cons (ps_for PassesOwn.never rfl (pi_range1 (by rfl) T.range (pa_cons pe_int pa_nil)) (pg_name (i := 4) scLawLooks.nd rfl (Or.inl rfl))
        (pss_one (ps_if (pt_cmpR op_le (pv 3) (pv 0) (nomark _))
          (pss_cons (ps_expr (pe_bm PySem.F.plainAttrs_list PySem.F.slot_list_append PySem.F.type_list_append mt_append (pv 2) (pa_cons (pv 3) pa_nil)))
          (pss_one (ps_set (i := 3) scLawLooks.nd rfl (Or.inl rfl) (pe_op op_mul pe_int (pv 3))))) pss_nil)))
      (pss_one (ps_ret (pv 2))))), ?_⟩
    refine ⟨_, rfl, rfl, _, rfl, ?_⟩
    rw [pl_one]
    cases b with
    | true =>
      refine iteT ⟨_, rfl, _, _, rfl, rfl, ((n : Int) + 1), rfl, RgOk.of_le (by decide) (by omega) (by decide) (by omega), fun q hq => ?_⟩
      refine k q _ (List.range (n + 1)) (Same.new hq) ?_ (lk_one n)
      rw [upd_same]
      have := rg_upto (n + 1)
      rw [Int.natCast_add] at this
      exact congrArg (fun z => some (HO.lst z)) this
    | false =>
      refine iteF ⟨by show 1 ≤ sizeLine; decide, fun D hD => ⟨_, _, rfl, ?_⟩⟩
      refine ⟨_, rfl, by decide, by decide, ?_⟩
      refine for_range (lo := 0) (n := 10) (fun i σ H' => Same H H' ∧ ∃ (j : Nat) (u : Option V), H' D = some (.lst (((dblF j).map fun i : Nat => (i : Int)).map V.int)) ∧ (∀ i, i < j → 2 ^ i ≤ n) ∧ j ≤ i ∧ (j = i ∨ n < 2 ^ j) ∧ σ = [some (.int (n : Int)), some (.str (plS false)), some (.ref D), some (.int ((2 ^ j : Nat) : Int)), u]) ⟨Same.new hD, 0, none, upd_same, fun i h => absurd h (Nat.not_lt_zero _), Nat.le_refl _, .inl rfl, rfl⟩ ?_ ?_
      · rintro i σ H2 hi ⟨s2, j, u, d2, lj, ji, jo, rfl⟩
        refine ⟨_, rfl, _, rfl, _, _, rfl, rfl, _, rfl, ite2 (fun c => ?_) (fun c => ?_)⟩
        · have hle : 2 ^ j ≤ n := by
            have := of_decide_eq_true c
            omega
          have ei : j = i := by
            rcases jo with h | h
            · exact h
            · omega
          have hj : j < 9 := by
            rcases Nat.lt_or_ge j 9 with c | c
            · exact c
            · have : 2 ^ 9 ≤ 2 ^ j := Nat.pow_le_pow_right (by decide) c
              omega
          refine ⟨_, rfl, .inl ⟨rfl, _, SqL.of d2⟩, _, rfl, D, _, _, rfl, rfl, d2, ?_, ?_⟩
          · rw [List.length_map, List.length_map]
            unfold dblF
            rw [List.length_cons, List.length_map, List.length_range]
            exact small1000 (by omega)
          · refine ⟨_, rfl, _, _, rfl, rfl, .inl ⟨by decide, by decide⟩, s2.mut hD, j + 1, some (.int ((0 : Int) + (i : Nat))), ?_, fun t ht => ?_, by omega, .inl (by omega), ?_⟩
            · rw [upd_same, dbl_snoc, List.map_append, List.map_append] <;> rfl
            · rcases Nat.lt_or_ge t j with c | c
              · exact lj t c
              · have : t = j := by omega
                subst this
                exact hle
            · have e : (2 : Int) * ((2 ^ j : Nat) : Int) = ((2 ^ (j + 1) : Nat) : Int) := by
                rw [Nat.pow_succ, Nat.mul_comm]
                rfl
              show [some (V.int (n : Int)), some (V.str (plS false)), some (V.ref D), some (V.int (2 * ((2 ^ j : Nat) : Int))), some (V.int ((0 : Int) + (i : Nat)))] = _
              rw [e]
        · have hlt : n < 2 ^ j := by
            have z : ¬ ((2 ^ j : Nat) : Int) ≤ (n : Int) := fun q => c (decide_eq_true q)
            omega
          exact ⟨s2, j, _, d2, lj, by omega, .inr hlt, rfl⟩
      · rintro σ H2 ⟨s2, j, u, d2, lj, ji, jo, rfl⟩
        have hlt : n < 2 ^ j := by
          rcases jo with h | h
          · subst h
            have := lj 9 (by decide)
            omega
          · exact h
        exact ⟨_, rfl, k D H2 (dblF j) s2 d2 (lk_dbl lj hlt)⟩
def spCoins (K : PySem.W.Frag) : Sp := fun vs H Q _ => ∃ (p : Addr) (n : Nat), vs = [.ref p, .int (n : Nat)] ∧ HandAt H p ∧ 1 ≤ n ∧ n ≤ 24 ∧
  ∀ (l : Addr) (xs : List Int) (H' : Hp), Stp p H H' → SqT K H' l (xs.map V.int) → RwOk n xs → xs.length ≤ 400 → Q (.ref l) H'
abbrev nLawCoins : List Str := ["_law_hand_here", "_law_moves_here", "_law_many", "_law_turn"]
theorem scLawCoins : FnScope nLawCoins ["_law_hand_here", "_law_moves_here"] (defScope s_law_coins) := ⟨rfl, rfl, rfl, by decide +kernel, rfl, by decide +kernel, by decide +kernel⟩
theorem ok_coins {f : Addr} {fd : FuncData} {fcAny : Addr} {fdcAny : FuncData} {fD : Addr} {fdD : FuncData} (F : Fun K "_law_coins" "_law_coins" s_law_coins f fd) (T : NmA mg) (cAny : Cl P w K mg base CX0 2 "_law_any" fcAny fdcAny ["_law_hand_here", "_law_things"] (spAny K)) (D : Cl P w K mg base CX0 1 "_law_draw" fD fdD ["_law_hand_here", "_law_many"] spDraw) : FnOk P w K mg base CX0 3 f fd ["_law_hand_here", "_law_moves_here"] (spCoins K) := by
  refine F.ok scLawCoins (fun vs H Q E h => ?_) (fun cdv A' outer s H vs Q E hr h => ?_)
  · obtain ⟨p, n, rfl, _⟩ := h
    rfl
  · obtain ⟨p, n, rfl, hH, n1, n24, k⟩ := h
    have hu := hu_of hr
    refine ⟨_, pss_cons (ps_set (i := 2) scLawCoins.nd rfl (Or.inl rfl) (cAny.call (hr.mono (by decide)) (pa_cons (pv 0) (pa_cons (pe_lst (pa_cons pe_int (pa_cons pe_int (pa_cons pe_int (pa_cons pe_int (pa_cons pe_int (pa_cons pe_int (pa_cons pe_int pa_nil)))))))) pa_nil))))
      (Evl.pss_cut (ps_if (pt_cmpR op_eq (D.call (hr.mono (by decide)) (pa_cons (pv 0) (pa_cons pe_int pa_nil))) pe_int (nomark _))
        (pss_one (ps_set (i := 2) scLawCoins.nd rfl (Or.inl rfl) pe_int)) pss_nil)
      (pss_one (ps_ret (pe_callTy call_tuple_of (by rfl) T.tuple (by decide +kernel) (pa_cons (pe_lc (own := [("_law_turn", 3)]) (g := (gName 3)) (tt := tYes) rfl scLawCoins.nd  (pi_range1 (by rfl) T.range (pa_cons (pv 2) pa_nil)) (blkOk_by (own := [("_law_turn", 3)]) (N := nLawCoins) (sc := defScope s_law_coins) (by decide +kernel)) (fun _ _ _ _ _ => (pg_name (i := 3) scLawCoins.nd rfl (Or.inl rfl))) (fun _ _ _ _ _ => pts_nil) (fun _ _ _ _ _ => (D.call (hr.mono (by decide)) (pa_cons (pv 0) (pa_cons (pv 1) pa_nil))))) pa_nil))))), ?_⟩
    refine ⟨_, rfl, by show 7 ≤ sizeLine; decide, fun L hL => ?_⟩
    refine new_step hL fun H1 s1 e1 => ?_
    refine ⟨p, L, ([0, 1, 3, 8, 8, 16, 30] : List Int).map V.int, rfl, .inl (SqL.of e1), by decide, by decide, hH.same s1, fun j x H2 hx S2 => ?_⟩
    rw [List.getElem?_map] at hx
    obtain ⟨wd, hv, rfl⟩ := Option.map_eq_some_iff.mp hx
    have wb : 0 ≤ wd ∧ wd ≤ 30 := by
      have z := List.mem_of_getElem? hv
      simp at z
      omega
    have S2 := S2.pre s1 hH
    refine ⟨fun σ' H' => Stp p H H' ∧ ∃ m : Nat, m ≤ 400 ∧ σ' = [some (.ref p), some (.int (n : Int)), some (.int (m : Int)), none], ?_, ?_⟩
    · obtain ⟨wn, rfl⟩ := Int.eq_ofNat_of_zero_le wb.1
      refine ⟨_, rfl, p, 40, rfl, by decide, by decide, S2.hand, fun d H3 _ _ S3 => ⟨rfl, _, rfl, ite2 (fun _ => ⟨S2.trans S3, 400, Nat.le_refl _, rfl⟩) (fun _ => ⟨S2.trans S3, wn, by omega, rfl⟩)⟩⟩
    rintro σ' H3 ⟨S3, m, m4, rfl⟩
    refine ⟨_, rfl, (m : Int), rfl, by omega, by omega, fun D hD => ?_⟩
    rw [Int.toNat_natCast]
    have Dp : D ≠ p := ne_hand S3.hand hD
    have DH : H D = none := S3.free hD
    refine lc_range (lo := 0) (n := m) (fun i H' => Stp p H H' ∧ ∃ ws : List Int, H' D = some (.lst (ws.map V.int)) ∧ ws.length = i ∧ ∀ x ∈ ws, 0 ≤ x ∧ x < (n : Int)) ⟨S3.post (Same.new hD), [], upd_same, rfl, fun x hx => absurd hx List.not_mem_nil⟩ (fun i H4 hi g => ?_) fun H4 g => ?_
    · obtain ⟨S4, ws, d4, l4, b4⟩ := g
      refine ⟨rfl, _, rfl, _, rfl, p, (n : Int), rfl, by omega, by omega, S4.hand, fun d H5 d0 d1' S5 => ?_⟩
      refine ⟨_, S5.keep _ _ Dp d4, by rw [List.length_map, l4]; exact small1000 (by omega), (S4.trans S5).mut hH DH, ws ++ [d], by rw [upd_same, List.map_append] <;> rfl, by rw [List.length_append, l4] <;> rfl, fun x hx => ?_⟩
      rcases List.mem_append.mp hx with h | h
      · exact b4 x h
      · rw [List.mem_singleton.mp h]
        omega
    · obtain ⟨S4, ws, d4, l4, b4⟩ := g
      refine ⟨D, _, rfl, .inl ⟨SqL.of d4, fun T hT => ?_⟩⟩
      refine new_step hT fun H6 s6 e6 => ?_
      exact k T ws H6 (S4.post s6) (SqT.of e6) b4 (by omega)
end
end Law

namespace Law
open PySem L2
/-- what the law draws by its own looks: told, or undecided with a list -/
def DrwL (K : PySem.W.Frag) (H : Hp) (t : Addr) (k : Nat) (e : List Int) (b : Bool) : Prop := (b = true ∧ SqT K H t [.str "told", .int (e.getD 0 0), .int (k : Int)]) ∨ (b = false ∧ ∃ l, SqT K H t [.str "undecided", .ref l, .int (k : Int)] ∧ H l = some (.lst (e.map V.int)))
theorem look0 {b : Bool} {n : Nat} {ks : List Nat} (h : IsLk b n ks) : ks ≠ [] := fun z => by
  have := (h.mem 0).mpr (zero_look b n)
  rw [z] at this
  exact absurd this List.not_mem_nil
section
variable {P : Program} {w : World} {K : PySem.W.Frag} {mg : Str → Option Value} {base : Heap}
def spDrawnBy (K : PySem.W.Frag) : Sp := fun vs H Q _ => ∃ (mp ca sa : Addr) (b : Bool) (n : Nat) (mws : List V) (Ls : List (List Int)) (cs st : List Int), vs = [.ref mp, .ref ca, .str (plS b), .ref sa, .int (n : Nat)] ∧ SqL K H mp mws ∧ AllIn (RowAt K H) mws Ls ∧ LdsOk n Ls ∧ SqT K H ca (cs.map V.int) ∧ CsOk Ls.length cs ∧ cs.length ≤ 400 ∧ SqL K H sa (st.map V.int) ∧ InM n st ∧ st.length ≤ 12 ∧ 1 ≤ st.length ∧
  ∀ (t : Addr) (H' : Hp) (k : Nat), Same H H' → DrwL K H' t k (selF Ls n st cs k) (oneF Ls n st cs k) → Pick b cs.length (oneF Ls n st cs) k → Q (.ref t) H'
abbrev nLawDrawnBy : List Str := ["_law_maps_here", "_law_coins_here", "_law_plan", "_law_states", "_law_many", "_law_found", "_law_looked", "_law_ends", "_law_state"]
theorem scLawDrawnBy : FnScope nLawDrawnBy ["_law_maps_here", "_law_coins_here", "_law_plan", "_law_states", "_law_many"] (defScope s_law_drawn_by) := ⟨rfl, rfl, rfl, by decide +kernel, rfl, by decide +kernel, by decide +kernel⟩
theorem ok_drawn_by {f : Addr} {fd : FuncData} {fcLLooks : Addr} {fdcLLooks : FuncData} {fcAllLed : Addr} {fdcAllLed : FuncData} (F : Fun K "_law_drawn_by" "_law_drawn_by" s_law_drawn_by f fd) (T : NmA mg) (cLLooks : Cl P w K mg base CX0 1 "_law_looks" fcLLooks fdcLLooks ["_law_length", "_law_plan"] spLLooks) (cAllLed : Cl P w K mg base CX0 1 "_law_all_led" fcAllLed fdcAllLed ["_law_maps_here", "_law_row", "_law_many"] (spAllLed K)) : FnOk P w K mg base CX0 2 f fd ["_law_maps_here", "_law_coins_here", "_law_plan", "_law_states", "_law_many"] (spDrawnBy K) := by
  refine F.ok scLawDrawnBy (fun vs H Q E h => ?_) (fun cdv A' outer s H vs Q E hr h => ?_)
  · obtain ⟨mp, ca, sa, b, n, mws, Ls, cs, st, rfl, _⟩ := h
    rfl
  · obtain ⟨mp, ca, sa, b, n, mws, Ls, cs, st, rfl, hM, hA, ok, hC, cok, c400, hS, stok, s12, s1, k⟩ := h
    have hu := hu_of hr
    refine ⟨_, pss_cons (ps_set (i := 5) scLawDrawnBy.nd rfl (Or.inl rfl) (pe_lst pa_nil))
      (pss_cons (ps_for PassesOwn.never rfl (pi_list (cLLooks.call (hr.mono (by decide)) (pa_cons (pe_callB call_len_seq (by rfl) T.len PySem.boot_len (pa_cons (pv 1) pa_nil)) (pa_cons (pv 2) pa_nil)))) (pg_name (i := 6) scLawDrawnBy.nd rfl (Or.inl rfl))
        (pss_cons (ps_set (i := 7) scLawDrawnBy.nd rfl (Or.inr rfl) (cAllLed.call (hr.mono (by decide)) (pa_cons (pv 0) (pa_cons (pe_revT (pe_slice sl_tupA (pv 1) po_none (po_some (pv 6)))) (pa_cons (pv 4) pa_nil)))))
        (pss_cons (ps_setLc (i := 5) (own := [("_law_state", 8)]) (g := (gName 8)) (tt := tYes) (by rfl) scLawDrawnBy.nd rfl rfl (sw_true rfl rfl rfl (by decide +kernel)) (pi_list (pv 3)) (blkOk_by (own := [("_law_state", 8)]) (N := nLawDrawnBy) (sc := defScope s_law_drawn_by) (by decide +kernel)) (fun _ _ _ _ _ => (pg_name (i := 8) scLawDrawnBy.nd rfl (Or.inl rfl))) (fun _ _ _ _ _ => pts_nil) (fun _ _ _ _ _ => (pe_ix (r := rIxL K) (show IxR _ (rIxL K) from ix_list) (pv 7) (pv 8) (fun _ _ => rfl))))
        (pss_one (ps_if (pt_cmpR op_eq (pe_callB cr_lenSet (by rfl) T.len PySem.boot_len (pa_cons (pe_callTy (cr_setA (by rfl)) (by rfl) T.set (by decide +kernel) (pa_cons (pv 5) pa_nil)) pa_nil)) pe_int (nomark _))
          (pss_one (ps_ret (pe_tup (pa_cons pe_str (pa_cons (pe_ix ix_list (pv 5) pe_int (fun _ _ => rfl)) (pa_cons (pv 6) pa_nil)))))) pss_nil)))))
      (pss_one (ps_ret (pe_tup (pa_cons pe_str (pa_cons (pv 5) (pa_cons (pe_ix ix_list (cLLooks.call (hr.mono (by decide)) (pa_cons (pe_callB call_len_seq (by rfl) T.len PySem.boot_len (pa_cons (pv 1) pa_nil)) (pa_cons (pv 2) pa_nil))) (pe_un un_neg pe_int) (fun _ _ => rfl)) pa_nil))))))), ?_⟩
    have m12 := ok.m2
    have cl : (cs.map V.int).length = cs.length := List.length_map ..
    refine ⟨by show 0 ≤ sizeLine; decide, fun D0 hD0 => ?_⟩
    refine new_step hD0 fun H1 a1 e1 => ?_
    refine ⟨_, rfl, ca, _, rfl, .inr (a1.sqT hC), _, rfl, b, (cs.map V.int).length, rfl, by rw [cl]; exact c400, fun D H2 ks a2 h2 isl => ?_⟩
    rw [cl] at isl
    have a12 := a1.trans a2
    refine ⟨D, rfl, ⟨_, SqL.of h2⟩, ?_⟩
    refine for_list (K := K) (a := D) (xs := (ks.map fun i : Nat => (i : Int)).map V.int) (fun i σ H' => Same H2 H' ∧ (∀ (j x : Nat), j < i → ks[j]? = some x → oneF Ls n st cs x = false) ∧ ∃ (F : Addr) (u6 u7 u8 : Option V), (∀ x, (0 < i → ks[i - 1]? = some x → H' F = some (.lst ((selF Ls n st cs x).map V.int)))) ∧ σ = [some (.ref mp), some (.ref ca), some (.str (plS b)), some (.ref sa), some (.int (n : Int)), some (.ref F), u6, u7, u8]) ⟨Same.refl H2, fun j x h => absurd h (Nat.not_lt_zero _), D0, none, none, none, fun x h => absurd h (Nat.not_lt_zero _), rfl⟩ (fun i σ H' _ h => SqL.of (h.1 _ _ h2)) ?_ ?_
    · rintro i x σ H3 hi ⟨a3, no, F, u6, u7, u8, hf, rfl⟩
      rw [List.getElem?_map, List.getElem?_map] at hi
      obtain ⟨xi, hxi, rfl⟩ := Option.map_eq_some_iff.mp hi
      obtain ⟨kk, hk, rfl⟩ := Option.map_eq_some_iff.mp hxi
      have a13 := a12.trans a3
      have ckk := cok.take kk
      refine ⟨_, rfl, _, rfl, ?_⟩
      unfold tNoPart
      refine ⟨_, rfl, (kk : Int), rfl, sl_to (a13.sqT hC) fun l H4 a4 e4 => ?_⟩
      refine ⟨l, _, rfl, e4, fun r hr' => ?_⟩
      refine new_step hr' fun H5 a5 e5 => ?_
      have a15 := a13.trans (a4.trans a5)
      have er : ((cs.map V.int).take kk).reverse = ((cs.take kk).reverse).map V.int := by rw [← List.map_take, ← List.map_reverse]
      rw [er] at e5
      refine ⟨_, rfl, mp, r, n, mws, Ls, (cs.take kk).reverse, rfl, a15.sqL hM, hA.mono fun _ _ z => RowAt.same a15 z, fun xs hx => ok.ld xs hx, m12, SqT.of e5, fun c hc => ckk c (List.mem_reverse.mp hc), fun E H6 a6 hE => ?_⟩
      rw [behind_go, behind_ends ok ckk] at hE
      have a16 := a15.trans a6
      obtain ⟨el, ei⟩ := ends_ok ok ckk
      obtain ⟨si, sl⟩ := sel_in ok stok cok kk
      refine ⟨_, rfl, sa, rfl, ⟨_, a16.sqL hS⟩, fun G hG => ?_⟩
      refine lc_list (K := K) (a := sa) (xs := st.map V.int) (fun t H' => Same H6 H' ∧ H' G = some (.lst (((selF Ls n st cs kk).take t).map V.int))) ⟨Same.new hG, upd_same⟩ (fun t H' _ h => (a16.trans h.1).sqL hS) (fun t y H7 ht g => ?_) fun H7 g => ?_
      · obtain ⟨a7, g7⟩ := g
        rw [List.getElem?_map] at ht
        obtain ⟨s, hs, rfl⟩ := Option.map_eq_some_iff.mp ht
        have sb := stok s (List.mem_of_getElem? hs)
        have tl := (List.getElem?_eq_some_iff.mp hs).1
        refine ⟨rfl, _, rfl, _, rfl, E, _, s, _, rfl, rfl, SqL.of (a7 _ _ hE), ints_at sb.1 (by omega), ?_⟩
        refine ⟨_, g7, ?_, a7.mut hG, ?_⟩
        · rw [List.length_map, List.length_take, sizeLine_eq]
          omega
        · have e : (selF Ls n st cs kk)[t]? = some ((endsF Ls n (cs.take kk)).getD s.toNat 0) := by
            show (st.map fun s => (endsF Ls n (cs.take kk)).getD s.toNat 0)[t]? = _
            rw [List.getElem?_map, hs] <;> rfl
          rw [upd_same, List.take_add_one (i := t), e, List.map_append] <;> rfl
      obtain ⟨a7, g7⟩ := g
      rw [List.take_of_length_le (by rw [List.length_map, sl]; exact Nat.le_refl _)] at g7
      have a17 := a16.trans a7
      refine ⟨_, rfl, G, _, rfl, .inl (SqL.of g7), by omega, fun q2 c hq2 hc2 => ⟨q2, _, c, rfl, upd_same, ?_⟩⟩
      rintro ⟨ms, nd, hl, hm⟩
      have e12 := si.in12 m12
      have e1 : c = (lotF (selF Ls n st cs kk)).length := by
        rw [← hl]
        exact lot_len e12 nd fun z => by rw [← hm z, decide_eq_true_iff]
      refine new_step hq2 fun H8 a8 _ => ?_
      have g8 := a8 _ _ g7
      refine ⟨rfl, _, rfl, ?_⟩
      rw [dec_len1]
      refine ite2 (fun h1c => ?_) (fun h1c => ?_)
      · have h1c := of_decide_eq_true h1c
        have one : oneF Ls n st cs kk = true := decide_eq_true (by omega)
        have hz0 := ints_at (xs := selF Ls n st cs kk) (s := 0) (by decide) (by omega)
        refine ⟨_, rfl, G, _, _, _, rfl, rfl, SqL.of g8, hz0, _, rfl, by show 3 ≤ sizeLine; decide, fun t6 ht6 => ?_⟩
        refine new_step ht6 fun H9 a9 e9 => ?_
        exact k t6 H9 kk (a17.trans (a8.trans a9)) (.inl ⟨one, SqT.of e9⟩) (pick_hit isl hk no one)
      · have one : oneF Ls n st cs kk = false := decide_eq_false fun z => h1c (decide_eq_true (by omega))
        refine ⟨a3.trans ((a4.trans a5).trans (a6.trans (a7.trans a8))), fun j x hj hx => ?_, G, _, _, _, fun x _ hx => ?_, rfl⟩
        · by_cases c : j = i
          · rw [c, hk] at hx
            cases hx
            exact one
          · exact no j x (by omega) hx
        · rw [Nat.add_sub_cancel, hk] at hx
          cases hx
          exact g8
    · rintro σ H3 ⟨a3, no, F, u6, u7, u8, hf, rfl⟩
      rw [List.length_map, List.length_map] at no hf
      have kn := look0 isl
      obtain ⟨pre, kk, rfl⟩ : ∃ pre kk, ks = pre ++ [kk] := ⟨ks.dropLast, ks.getLast kn, (List.dropLast_concat_getLast kn).symm⟩
      have lst : (pre ++ [kk])[(pre ++ [kk]).length - 1]? = some kk := by
        rw [List.length_append]
        show (pre ++ [kk])[pre.length + 1 - 1]? = _
        rw [Nat.add_sub_cancel, List.getElem?_append_right (Nat.le_refl _), Nat.sub_self] <;> rfl
      have pos : 0 < (pre ++ [kk]).length := by rw [List.length_append]; exact Nat.succ_pos _
      have gF := hf kk pos lst
      have one := no _ kk (by omega) lst
      have a13 := a12.trans a3
      refine ⟨_, rfl, _, rfl, ca, _, rfl, .inr (a13.sqT hC), _, rfl, b, (cs.map V.int).length, rfl, by rw [cl]; exact c400, fun D' H4 ks' a4 h4 isl' => ?_⟩
      rw [cl] at isl'
      obtain rfl := looks_eq isl' isl
      have hat : atI (((pre ++ [kk]).map fun i : Nat => (i : Int)).map V.int) (-1) = some (.int (kk : Int)) := by
        rw [List.map_append, List.map_append]
        exact atI_last _ _
      refine ⟨_, rfl, D', _, _, _, rfl, rfl, SqL.of h4, hat, by show 3 ≤ sizeLine; decide, fun t ht => ?_⟩
      refine new_step ht fun H5 a5 e5 => ?_
      refine k t H5 kk (a13.trans (a4.trans a5)) (.inr ⟨one, F, SqT.of e5, (a4.trans a5) _ _ gF⟩) (pick_end isl (by rw [List.getLast?_append] <;> rfl) fun j x hx => no j x (by have := (List.getElem?_eq_some_iff.mp hx).1; omega) hx)
end
end Law

namespace L2
open PySem PySem.Spec PyProof.Rows Law PySem.W
theorem eachAt {α β : Type} {R : α → β → Prop} {out : List α} {bs : List β} (h : EachIs R out bs) : out.length = bs.length ∧ ∀ (i : Nat) (b : β), bs[i]? = some b → ∃ v, out[i]? = some v ∧ R v b := by
  induction h with
  | nil => exact ⟨rfl, fun i b hb => by simp at hb⟩
  | cons r _ ih =>
    refine ⟨by rw [List.length_cons, List.length_cons, ih.1], fun i b hb => ?_⟩
    cases i with
    | zero =>
      cases hb
      exact ⟨_, rfl, r⟩
    | succ i => exact ih.2 i b hb
theorem eachDp {K : PySem.W.Frag} {H : Hp} : ∀ {xs : List V} {ds : List PyData} {us : List Value}, Vals xs us → DpAll K H xs ds → EachIs (fun u (b : V × PyData) => RelV b.1 u ∧ Dp K H b.1 b.2) us (xs.zip ds)
  | [], _, _, r, h => by
    cases r
    cases h
    exact .nil
  | _ :: _, _, _, r, h => by
    cases r with
    | cons r1 r2 =>
      cases h with
      | cons h1 h2 => exact .cons ⟨r1, h1⟩ (eachDp r2 h2)
theorem dp_len {K : PySem.W.Frag} {H : Hp} : ∀ {xs : List V} {ds : List PyData}, DpAll K H xs ds → xs.length = ds.length
  | [], _, h => by
    cases h
    rfl
  | _ :: _, _, h => by
    cases h with
    | cons h1 h2 => rw [List.length_cons, List.length_cons, dp_len h2]
theorem vals_eachD {K : PySem.W.Frag} {H : Hp} : ∀ {out : List Value} {bs : List (V × PyData)}, EachIs (fun u b => RelV b.1 u ∧ Dp K H b.1 b.2) out bs → Vals (bs.map (·.1)) out := by
  intro out bs h
  induction h with
  | nil => exact .nil
  | cons r _ ih => exact .cons r.1 ih
/-- sorted(xs), xs a list that is sorted already -/
def rSortId (K : PySem.W.Frag) : List V → Hp → VK → Prop := fun vs H Q => ∃ (a : Addr) (xs : List V) (ds : List PyData), vs = [V.ref a] ∧ SqL K H a xs ∧ DpAll K H xs ds ∧ (ds.length ≤ 1 ∨ ((∀ d ∈ ds, ∀ e ∈ ds, alike d e = true) ∧ (∀ d ∈ ds, ∃ x r, d = .tuple (x :: r)) ∧ (∀ d ∈ ds, d.depth ≤ 60) ∧ ds.Pairwise fun a b => dataLt b a = false)) ∧
  ∀ (p : Addr) (H' : Hp), Same H H' → H' p = some (.lst xs) → Q (.ref p) H'
theorem cr_sortId {X : Cx} (hu : X.A.units + 65 < cLine) : CallR X (.builtin "sorted") (rSortId X.K) := by
  intro pins s σ H vs us Q I r h
  obtain ⟨a, xs, ds, rfl, hs, hA, hd, q⟩ := h
  rw [Vals.ref1 r]
  obtain ⟨its, rv, pl, hz⟩ := I.list hs
  have el := dp_len hA
  have E1 := eachDp rv hA
  have zl : (xs.zip ds).length = xs.length := by rw [List.length_zip]; omega
  have hfr := I.hok.fresh (Nat.le_succ s.heap.objs.size)
  rcases hd with one | ⟨al, ne, dep, pw⟩
  · have O : SrtO.Swo (fun _ _ : Value => false) := ⟨(fun _ _ h => by cases h), (fun _ _ _ _ _ => rfl)⟩
    have i1 : its.length ≤ 1 := by rw [← rv.length]; omega
    have hz' : its.length ≤ sizeLine := by rw [← rv.length]; exact hz
    have no : 2 ≤ its.length → ∀ (h₁ : Heap) (a' : Addr), h₁.get? a' = some (seqObj "list" its.toArray 0) → (∀ b o, s.heap.get? b = some o → b ≠ a' ∧ h₁.get? b = some o) → SrtO.SortableO X.prog X.w X.A.in1.in1 { s with heap := h₁ } a' its (fun _ _ => false) := fun h2 => absurd h2 (by omega)
    refine SrtO.sorted_ord O pl.isList hz' no fun out _ st => ?_
    have e : out = its := by
      have p := st.perm
      clear no st hz' O
      revert p i1
      cases its with
      | nil => exact fun _ p => List.perm_nil.mp p
      | cons x t =>
        cases t with
        | nil => exact fun _ p => List.perm_singleton.mp p
        | cons y t => exact fun h => absurd h (by rw [List.length_cons, List.length_cons]; omega)
    rw [e]
    obtain ⟨ep, he'⟩ := PyProof.Rows.sortedAll_at s.heap its its.toArray
    have J : Inv X pins σ (upd H (s.heap.objs.size + 1) (.lst xs)) { s with heap := sortedAll s.heap its its.toArray } :=
      I.laid (t' := s.toks) (fun _ _ => PyProof.Rows.sortedAll_old) (Nat.le_succ _) ⟨hz, its, ep, rv, he'⟩
    exact ⟨.ref _, _, J, rfl, q _ _ (Same.new hfr) upd_same⟩
  · refine sorted_data (bs := xs.zip ds) (enc := fun b => b.2) pl.isList E1 (E1.mono fun u b hb => Dp.reads I b.2 _ _ hb.2 hb.1) (fun d hd d' hd' => ?_) (.inl fun d hd => ?_) (by rw [zl]; exact hz) (fun b hb => ?_) fun out ho hE => ?_
    · obtain ⟨b, hb, rfl⟩ := List.mem_map.mp hd
      obtain ⟨b', hb', rfl⟩ := List.mem_map.mp hd'
      exact al _ (List.of_mem_zip hb).2 _ (List.of_mem_zip hb').2
    · obtain ⟨b, hb, rfl⟩ := List.mem_map.mp hd
      exact ne _ (List.of_mem_zip hb).2
    · have := dep _ (List.of_mem_zip hb).2
      omega
    · have snd : (xs.zip ds).map Prod.snd = ds := List.map_snd_zip (by omega)
      have srt : (xs.zip ds).Pairwise fun a b => dataLe false (fun b : V × PyData => b.2) a b = true := by
        have z : ((xs.zip ds).map Prod.snd).Pairwise fun a b => dataLt b a = false := by rw [snd]; exact pw
        rw [List.pairwise_map] at z
        refine z.imp fun {a b} h => ?_
        rw [dataLe_eq]
        show (!dataLt b.2 a.2) = true
        rw [h] <;> rfl
      rw [List.mergeSort_of_pairwise srt] at hE
      have fst : (xs.zip ds).map Prod.fst = xs := List.map_fst_zip (by omega)
      have rel := vals_eachD hE
      have rel : Vals xs out := by
        have e : (xs.zip ds).map (fun b => b.1) = xs := fst
        rw [e] at rel
        exact rel
      obtain ⟨ep, he'⟩ := PyProof.Rows.sortedAll_at s.heap its out.toArray
      have J : Inv X pins σ (upd H (s.heap.objs.size + 1) (.lst xs)) { s with heap := sortedAll s.heap its out.toArray } :=
        I.laid (t' := s.toks) (fun _ _ => PyProof.Rows.sortedAll_old) (Nat.le_succ _) ⟨hz, out, ep, rel, he'⟩
      exact ⟨.ref _, _, J, rfl, q _ _ (Same.new hfr) upd_same⟩
end L2
namespace L2
open PySem PySem.Spec PyProof.Rows Law PySem.W
theorem paired_len {α β : Type} {R : α → β → Prop} {xs : List α} {ys : List β} (h : Paired R xs ys) : xs.length = ys.length := by
  induction h with
  | nil => rfl
  | cons _ _ ih => rw [List.length_cons, List.length_cons, ih]
section
variable {prog : Program} {w : World} {A : Around} {E : Value → Shared → Prop} {s : Shared}
theorem len_body_raw {d : Addr} {es : Array DictEntry} {ep : Nat} {Q : Value → Shared → Prop} (hd : (d == sysModules) = false) (hm : s.heap.DictRaw d es ep) (hfit : (es.size : Int) < 2 ^ 63)
    (h : Q (.int es.size (s.toks + 1)) { s with toks := s.toks + 1 + 1 }) : wpAny (model prog w) A (Builtin.«len» ⟨[.ref d], []⟩) (fun fin s' => ∃ r, fin = .done (.ret r) ∧ Q r s') E s := by
  unfold Builtin.«len»
  refine wpAny_bind (m := oneArg "len" _) (wpAny_pure ?_)
  refine wpAny_bind (m := callSpecial? (.ref d) (Str.ofString "__len__")) (wpAny_callSpecial?_slot (name := Str.ofString "__len__") hm.typeIs F.slot_dict_len
    (call_len_raw hd hm ?_))
  show wpAny _ _ _ _ _ { s with toks := s.toks + 1 }
  refine wpAny_bind (wpAny_holding (wpAny_pure ?_))
  refine wpAny_bind (wpAny_letGo ?_)
  show wpAny _ _ (if ((es.size : Nat) : Int) < 0 then _ else _) _ _ _
  rw [if_neg (by omega)]
  show wpAny _ _ (if ((es.size : Nat) : Int) ≥ 2 ^ 63 then _ else _) _ _ _
  rw [if_neg (by omega)]
  exact wpAny_bind (wpAny_mkInt (wpAny_pure ⟨_, rfl, h⟩))
end
/-- len(d), d a dict whose keys are tuples -/
theorem cr_lenDT {X : Cx} : CallR X (.builtin "len") (fun xs H Q => ∃ a kvs, xs = [V.ref a] ∧ H a = some (.dT kvs) ∧ Q (.int (kvs.length : Nat)) H) := by
  intro pins s σ H xs us Q I r h
  obtain ⟨a, kvs, rfl, ha, q⟩ := h
  obtain ⟨u, rfl, ru⟩ := vals1 r
  cases ru
  obtain ⟨z, lo, xs, pr, o, es, ep, ho, hx, hdt, he, _⟩ := I.hok a _ ha
  have e1 : es.size = kvs.length := by
    rw [paired_len pr, ← Array.length_toList, he, List.length_map]
  refine Calls.call_function_entry kind_len plain_len entry_len (args_len1 _) (len_body_raw lo ⟨o, ho, hx, hdt⟩ (by rw [e1]; rw [sizeLine_eq] at z; omega) ?_)
  rw [e1]
  exact ⟨.int kvs.length, H, I.tok _, ⟨_, rfl⟩, q⟩
theorem KvAt.at_ {K : PySem.W.Frag} {H : Hp} {kvs : List (List Key × V)} {D : List Nd} (h : KvAt K H kvs D) : ∀ {j : Nat} {kk : List Key} {v : V}, kvs[j]? = some (kk, v) → ∃ n, D[j]? = some n ∧ kk = keyL n.2 ∧ RowAt K H v n.1 := by
  induction h with
  | nil => exact fun h => by simp at h
  | @cons v n kvs D r _ ih =>
    intro j kk u h
    cases j with
    | zero =>
      cases h
      exact ⟨n, rfl, rfl, r⟩
    | succ j => exact ih h
theorem FR.expL_snoc (Ls : List (List Int)) (L : List Nd) (n : Nd) (K : List (List Int)) : FR.expL Ls (L ++ [n]) K = ((FR.expA Ls n (FR.expL Ls L K).1).1, (FR.expL Ls L K).2 ++ (FR.expA Ls n (FR.expL Ls L K).1).2) := by
  rw [FR.expL_eq, List.flatMap_append, FR.addAll_app, FR.expL_eq, List.flatMap_cons, List.flatMap_nil, List.append_nil]
  unfold FR.expA FR.candA
  rw [FR.exp1_eq]
theorem FR.exp1_known (Ls : List (List Int)) (n : Nd) (K : List (List Int)) (i : Nat) : (FR.exp1 Ls n i K).1 = K ++ (FR.exp1 Ls n i K).2.map (·.2) := by
  rw [FR.exp1_eq]
  exact FR.addAll_known _ _
theorem FR.expL_known (Ls : List (List Int)) (L : List Nd) (K : List (List Int)) : (FR.expL Ls L K).1 = K ++ (FR.expL Ls L K).2.map (·.2) := by
  rw [FR.expL_eq]
  exact FR.addAll_known _ _
/-- what is known stays without doubles -/
theorem FR.exp1_nd {Ls : List (List Int)} {n : Nd} {K : List (List Int)} (h : K.Nodup) : ∀ i, (FR.exp1 Ls n i K).1.Nodup
  | 0 => h
  | i + 1 => by
    have ih := FR.exp1_nd (Ls := Ls) (n := n) h i
    show (if frS (Ls.getD i []) n.2 ∈ (FR.exp1 Ls n i K).1 then ((FR.exp1 Ls n i K).1, (FR.exp1 Ls n i K).2) else ((FR.exp1 Ls n i K).1 ++ [frS (Ls.getD i []) n.2], (FR.exp1 Ls n i K).2 ++ [(n.1 ++ [(i : Int)], frS (Ls.getD i []) n.2)])).1.Nodup
    by_cases c : frS (Ls.getD i []) n.2 ∈ (FR.exp1 Ls n i K).1
    · rw [if_pos c]
      exact ih
    · rw [if_neg c]
      exact List.nodup_append.mpr ⟨ih, by simp, fun a ha b hb e => by
        rw [List.mem_singleton.mp hb] at e
        exact c (e ▸ ha)⟩
theorem FR.expL_nd {Ls : List (List Int)} : ∀ (L : List Nd) {K : List (List Int)}, K.Nodup → (FR.expL Ls L K).1.Nodup
  | [], _, h => h
  | n :: L, K, h => FR.expL_nd L (FR.exp1_nd h Ls.length)
end L2
namespace L2
open PySem PySem.Spec PyProof.Rows Law PySem.W
/-- a pair (row, front) -/
def NodE (K : PySem.W.Frag) (H : Hp) (v : V) (m : Nd) : Prop := ∃ t r f, v = .ref t ∧ SqT K H t [r, .ref f] ∧ RowAt K H r m.1 ∧ SqT K H f (m.2.map V.int)
def nodD (m : Nd) : PyData := .tuple [tupD m.1, tupD m.2]
theorem NodE.same {K : PySem.W.Frag} {H H' : Hp} {v : V} {m : Nd} (s : Same H H') (h : NodE K H v m) : NodE K H' v m := by
  obtain ⟨t, r, f, h1, h2, h3, h4⟩ := h
  exact ⟨t, r, f, h1, s.sqT h2, RowAt.same s h3, s.sqT h4⟩
theorem NodE.upd {K : PySem.W.Frag} {H : Hp} {D : Addr} {o u : HO} {v : V} {m : Nd} (hD : H D = some o) (d : ∀ y, HO.tup y ≠ o) (d2 : ∀ q y, HO.frz q (.tup y) ≠ o) (h : NodE K H v m) : NodE K (L2.upd H D u) v m := by
  obtain ⟨t, r, f, h1, h2, h3, h4⟩ := h
  exact ⟨t, r, f, h1, sqT_updO hD d d2 h2, rowAt_upd hD d d2 h3, sqT_updO hD d d2 h4⟩
theorem NodE.dp {K : PySem.W.Frag} {H : Hp} {v : V} {m : Nd} (h : NodE K H v m) : Dp K H v (nodD m) := by
  obtain ⟨t, r, f, rfl, h2, h3, h4⟩ := h
  exact .tup h2 (.cons (dp_row h3) (.cons (dp_row ⟨f, rfl, h4⟩) .nil))
theorem lt_nod {a b : Nd} (h : lexL a.1 b.1) : dataLt (nodD b) (nodD a) = false := by
  unfold nodD
  rw [dataLt_tuple, dataLt_cons (alike_tupD _ _), eqv_tupD, if_neg (fun z => by
    have e := of_decide_eq_true z
    rw [e] at h
    exact lexL_irr _ h)]
  exact lt_tupD h
theorem alike_nod (a b : Nd) : alike (nodD a) (nodD b) = true := by
  unfold nodD
  rw [alike, alikeAll, alike_tupD, alikeAll, alike_tupD, alikeAll] <;> rfl
theorem depth_nod (a : Nd) : (nodD a).depth ≤ 60 := by
  have h1 := (lay_tupD a.1).2
  have h2 := (lay_tupD a.2).2
  unfold nodD
  simp only [PyData.depth, PyData.depthAll]
  omega
theorem sort_nod {L : List Nd} {i : Nat} (h : ∀ m ∈ L, m.1.length = i) (a : L.Pairwise fun a b => lexL a.1 b.1) : (L.map nodD).length ≤ 1 ∨ ((∀ d ∈ L.map nodD, ∀ e ∈ L.map nodD, alike d e = true) ∧ (∀ d ∈ L.map nodD, ∃ x r, d = PyData.tuple (x :: r)) ∧ (∀ d ∈ L.map nodD, d.depth ≤ 60) ∧ (L.map nodD).Pairwise fun a b => dataLt b a = false) := by
  refine .inr ⟨fun d h1 e h2 => ?_, fun d h1 => ?_, fun d h1 => ?_, ?_⟩
  · obtain ⟨m, _, rfl⟩ := List.mem_map.mp h1
    obtain ⟨n, _, rfl⟩ := List.mem_map.mp h2
    exact alike_nod _ _
  · obtain ⟨m, _, rfl⟩ := List.mem_map.mp h1
    exact ⟨_, _, rfl⟩
  · obtain ⟨m, _, rfl⟩ := List.mem_map.mp h1
    exact depth_nod _
  · rw [List.pairwise_map]
    exact a.imp fun h => lt_nod h
theorem FR.exp1_app (Ls : List (List Int)) (n : Nd) (j : Nat) (K : List (List Int)) : (FR.exp1 Ls n (j + 1) K) = (if frS (Ls.getD j []) n.2 ∈ (FR.exp1 Ls n j K).1 then ((FR.exp1 Ls n j K).1, (FR.exp1 Ls n j K).2) else ((FR.exp1 Ls n j K).1 ++ [frS (Ls.getD j []) n.2], (FR.exp1 Ls n j K).2 ++ [(n.1 ++ [(j : Int)], frS (Ls.getD j []) n.2)])) := rfl
end L2
namespace Law
open PySem L2
structure MI (K : PySem.W.Frag) (H : Hp) (RK RL : Addr) (Ls : List (List Int)) (st : List Int) (i : Nat) (KN : List (List Int)) (L : List Nd) (H' : Hp) : Prop where
  same : Same H H'
  kd : ∃ kvs : List (List Key × V), H' RK = some (.dT kvs) ∧ kvs.map (·.1) = KN.map keyL
  ld : ∃ kvs : List (List Key × V), H' RL = some (.dT kvs) ∧ KvAt K H' kvs L
  lv : FR.Lv Ls st i (KN ++ L.map (·.2)) L
  nd : (KN ++ L.map (·.2)).Nodup
  cnt : i ≤ KN.length
theorem MI.small {K : PySem.W.Frag} {H H' : Hp} {RK RL : Addr} {Ls : List (List Int)} {st : List Int} {i : Nat} {KN : List (List Int)} {L : List Nd} {U : List (List Int)} (I : MI K H RK RL Ls st i KN L H') (hU : ∀ p, RwOk Ls.length p → st.map (goS Ls p) ∈ U) : KN.length + L.length ≤ U.length := by
  have := List.Nodup.length_le_of_subset I.nd (l₂ := U) fun o ho => by
    obtain ⟨p, h1, _, h3⟩ := I.lv.known o ho
    rw [FR.rch_go] at h3
    rw [← h3]
    exact hU p h1
  rw [List.length_append, List.length_map] at this
  exact this
theorem MI.front {K : PySem.W.Frag} {H H' : Hp} {RK RL : Addr} {Ls : List (List Int)} {st : List Int} {i : Nat} {KN : List (List Int)} {L : List Nd} {n : Nat} (I : MI K H RK RL Ls st i KN L H') (lsok : LsOk n Ls) (sN : InN n st) {m : Nd} (hm : m ∈ L) : InN n m.2 ∧ m.2.length = st.length ∧ RwOk Ls.length m.1 ∧ m.1.length = i := by
  obtain ⟨h1, h2, h3⟩ := I.lv.rows m hm
  rw [FR.rch_go] at h3
  rw [← h3]
  exact ⟨mapN lsok h2 sN, List.length_map .., h2, h1⟩
structure FI (K : PySem.W.Frag) (H : Hp) (RK RL R2 S : Addr) (KQ : List (List Int)) (L : List Nd) (od : Obj) (kvs : List (List Key × V)) (acc : List V) (W : List Nd) (H' : Hp) : Prop where
  same : Same H H'
  kd : ∃ kq : List (List Key × V), H' RK = some (.dT kq) ∧ kq.map (·.1) = KQ.map keyL
  ld : H' RL = some (.frz od (.dT kvs))
  kv : KvAt K H' kvs L
  sd : H' S = some (.lst acc)
  no : AllIn (NodE K H') acc L
  r2 : ∃ kw : List (List Key × V), H' R2 = some (.dT kw) ∧ KvAt K H' kw W
theorem FI.more {K : PySem.W.Frag} {H : Hp} {RK RL R2 S : Addr} {KQ : List (List Int)} {L : List Nd} {od : Obj} {kvs : List (List Key × V)} {acc : List V} {W : List Nd} {H' G : Hp} (F : FI K H RK RL R2 S KQ L od kvs acc W H') (s : Same H' G) : FI K H RK RL R2 S KQ L od kvs acc W G where
  same := F.same.trans s
  kd := by
    obtain ⟨kq, h1, h2⟩ := F.kd
    exact ⟨kq, s _ _ h1, h2⟩
  ld := s _ _ F.ld
  kv := F.kv.mono fun _ _ r => RowAt.same s r
  sd := s _ _ F.sd
  no := F.no.mono fun _ _ z => NodE.same s z
  r2 := by
    obtain ⟨kw, h1, h2⟩ := F.r2
    exact ⟨kw, s _ _ h1, h2.mono fun _ _ r => RowAt.same s r⟩
theorem FR.exp1_le (Ls : List (List Int)) (n : Nd) : ∀ (i : Nat) (K : List (List Int)), (FR.exp1 Ls n i K).2.length ≤ i
  | 0, _ => Nat.le_refl _
  | i + 1, K => by
    rw [FR.exp1_app]
    have := FR.exp1_le Ls n i K
    split
    · exact Nat.le_succ_of_le this
    · rw [List.length_append]
      exact Nat.succ_le_succ this
theorem FR.expL_le (Ls : List (List Int)) : ∀ (L : List Nd) (K : List (List Int)), (FR.expL Ls L K).2.length ≤ L.length * Ls.length
  | [], _ => Nat.zero_le _
  | n :: L, K => by
    show ((FR.exp1 Ls n Ls.length K).2 ++ (FR.expL Ls L (FR.exp1 Ls n Ls.length K).1).2).length ≤ _
    have h1 := FR.exp1_le Ls n Ls.length K
    have h2 := FR.expL_le Ls L (FR.exp1 Ls n Ls.length K).1
    rw [List.length_append, List.length_cons, Nat.succ_mul]
    omega
def oneN (m : Nd) : Bool := decide ((lotF m.2).length = 1)
theorem dTup {kvs : List (List Key × V)} : (∀ y, HO.tup y ≠ HO.dT kvs) ∧ (∀ q y, HO.frz q (.tup y) ≠ HO.dT kvs) := ⟨fun y h => (by cases h), fun q y h => (by cases h)⟩
theorem fTup {od : Obj} {kvs : List (List Key × V)} : (∀ y, HO.tup y ≠ HO.frz od (.dT kvs)) ∧ (∀ q y, HO.frz q (.tup y) ≠ HO.frz od (.dT kvs)) := ⟨fun y h => (by cases h), fun q y h => (by
  injection h with _ h
  cases h)⟩
theorem row_le {L : List Nd} {i : Nat} (h : ∀ m ∈ L, m.1.length = i) (a : L.Pairwise fun a b => lexL a.1 b.1) (i0 : i = 0) : L.length ≤ 1 := by
  match L, h, a with
  | [], _, _ => exact Nat.zero_le _
  | [_], _, _ => exact Nat.le_refl _
  | x :: y :: t, h, a =>
    have hx := List.eq_nil_of_length_eq_zero ((h x List.mem_cons_self).trans i0)
    have hy := List.eq_nil_of_length_eq_zero ((h y (by simp)).trans i0)
    have := (List.pairwise_cons.mp a).1 y List.mem_cons_self
    rw [hx, hy] at this
    exact absurd this (lexL_irr [])
theorem depth_tup (c : List Int) : (tupD c).depth ≤ 60 := Nat.le_trans (lay_tupD c).2 (by decide)
theorem MI.open {K : PySem.W.Frag} {H H6 G : Hp} {RK RL : Addr} {Ls : List (List Int)} {st : List Int} {i : Nat} {KN : List (List Int)} {L : List Nd} {od : Obj} {kvs : List (List Key × V)} (I : MI K H RK RL Ls st i KN L H6) (RLH : H RL = none) (nKL : RK ≠ RL) (sG : Same H G) (kG : ∃ kq : List (List Key × V), G RK = some (.dT kq) ∧ kq.map (·.1) = KN.map keyL) (zG : G RL = some (.frz od (.dT kvs))) (vG : KvAt K G kvs L) : MI K H RK RL Ls st i KN L (upd G RL (.dT kvs)) where
  same := sG.mut RLH
  kd := by
    obtain ⟨kq, h1, h2⟩ := kG
    exact ⟨kq, by rw [upd_ne nKL]; exact h1, h2⟩
  ld := ⟨kvs, upd_same, vG.mono fun _ _ r => rowAt_upd zG fTup.1 fTup.2 r⟩
  lv := I.lv
  nd := I.nd
  cnt := I.cnt
open PySem.Spec PyProof.Rows PySem.W in
theorem sort_ok {L : List Nd} {i : Nat} (h : ∀ m ∈ L, m.1.length = i) (a : L.Pairwise fun a b => lexL a.1 b.1) : ((L.map (·.1)).map tupD).length ≤ 1 ∨ ((∀ d ∈ (L.map (·.1)).map tupD, ∀ e ∈ (L.map (·.1)).map tupD, alike d e = true) ∧ (∀ d ∈ (L.map (·.1)).map tupD, ∃ x r, d = PyData.tuple (x :: r)) ∧ (∀ d ∈ (L.map (·.1)).map tupD, d.depth ≤ 60) ∧ ((L.map (·.1)).map tupD).Pairwise fun a b => dataLt b a = false) := by
  by_cases i0 : i = 0
  · refine .inl ?_
    rw [List.length_map, List.length_map]
    exact row_le h a i0
  · have hd : ∀ d ∈ (L.map (·.1)).map tupD, ∃ m ∈ L, d = tupD m.1 := fun d hd => by
      obtain ⟨c, hc, rfl⟩ := List.mem_map.mp hd
      obtain ⟨m, hm, rfl⟩ := List.mem_map.mp hc
      exact ⟨m, hm, rfl⟩
    refine .inr ⟨fun d h1 e h2 => ?_, fun d h1 => ?_, fun d h1 => ?_, ?_⟩
    · obtain ⟨m, _, rfl⟩ := hd d h1
      obtain ⟨n, _, rfl⟩ := hd e h2
      exact alike_tupD _ _
    · obtain ⟨m, hm, rfl⟩ := hd d h1
      have l := h m hm
      obtain ⟨r, f⟩ := m
      cases r with
      | nil => exact absurd l.symm i0
      | cons x t => exact ⟨_, _, rfl⟩
    · obtain ⟨m, _, rfl⟩ := hd d h1
      exact depth_tup _
    · rw [List.map_map, List.pairwise_map]
      exact a.imp fun h => lt_tupD h
section
variable {P : Program} {w : World} {K : PySem.W.Frag} {mg : Str → Option Value} {base : Heap}
def spMerg (K : PySem.W.Frag) : Sp := fun vs H Q _ => ∃ (mp sa : Addr) (n : Nat) (mws : List V) (Ls : List (List Int)) (st : List Int) (U : List (List Int)), vs = [.ref mp, .ref sa] ∧ SqL K H mp mws ∧ AllIn (RowAt K H) mws Ls ∧ LsOk n Ls ∧ n ≤ 12 ∧ Ls.length ≤ 24 ∧ SqL K H sa (st.map V.int) ∧ InN n st ∧ st.length ≤ 12 ∧ (∀ p, RwOk Ls.length p → st.map (goS Ls p) ∈ U) ∧ U.length ≤ 4000 ∧
  ∀ (x : V) (r : Option (List Int)) (H' : Hp), Same H H' → FR.Best Ls st r → (match r with | none => x = .non | some l => RowAt K H' x l) → Q x H'
abbrev nLawMerging : List Str := ["_law_maps_here", "_law_states", "_law_known", "_law_level", "_law_turn", "_law_ended", "_law_front", "_law_later", "_law_row", "_law_move", "_law_there", "_law_state"]
theorem scLawMerging : FnScope nLawMerging ["_law_maps_here", "_law_states"] (defScope s_law_merging) := ⟨rfl, rfl, rfl, by decide +kernel, rfl, by decide +kernel, by decide +kernel⟩
theorem ok_lmerging {f : Addr} {fd : FuncData} (F : Fun K "_law_merging" "_law_merging" s_law_merging f fd) (T : NmA mg) : FnOk P w K mg base CX0 1 f fd ["_law_maps_here", "_law_states"] (spMerg K) := by
  refine F.ok scLawMerging (fun vs H Q E h => ?_) (fun cdv A' outer s H vs Q E hr h => ?_)
  · obtain ⟨mp, sa, n, mws, Ls, st, U, rfl, _⟩ := h
    rfl
  · obtain ⟨mp, sa, n, mws, Ls, st, U, rfl, hM, hA, lsok, n12, l24, hS, sN, s12, hU, u4, k⟩ := h
    have hu := hu_of hr
    refine ⟨_, pss_cons (ps_asg (pe_tup (pa_cons pe_dnewT (pa_cons pe_dnewT pa_nil))) (pg_tup (by rfl) (pgs_cons (pg_name (i := 2) scLawMerging.nd rfl (Or.inl rfl)) (pgs_cons (pg_name (i := 3) scLawMerging.nd rfl (Or.inr rfl)) pgs_nil))))
      (pss_cons (ps_dput hu (pv 3) (pe_callTy call_tuple_of (by rfl) T.tuple (by decide +kernel) (pa_cons (pv 1) pa_nil)) (pe_tup pa_nil) rfl)
      (pss_cons (ps_for PassesOwn.never rfl (pi_range1 (by rfl) T.range (pa_cons pe_int pa_nil)) (pg_name (i := 4) scLawMerging.nd rfl (Or.inl rfl))
        (pss_cons (ps_lock (ps_set (i := 5) scLawMerging.nd rfl (Or.inl rfl) (pe_callB (cr_sortId (units65 hr)) (by rfl) T.sorted (by decide +kernel) (pa_cons (pe_lc (own := [("_law_front", 6)]) (g := (gName 6)) (tt := _) rfl scLawMerging.nd  (pi_keys (pv 3)) (blkOk_by (own := [("_law_front", 6)]) (N := nLawMerging) (sc := defScope s_law_merging) (by decide +kernel)) (fun _ _ _ _ _ => (pg_name (i := 6) scLawMerging.nd rfl (Or.inl rfl))) (fun _ _ _ _ _ => (pts_one (pt_cmpR op_eq (pe_callB (r := rLenSet w) (show CallR _ (.builtin "len") (rLenSet w) from cr_lenSet) (by rfl) T.len PySem.boot_len (pa_cons (pe_callTy (r := rSetA K w) (show CallR _ (.type "set") (rSetA K w) from cr_setA (by rfl)) (by rfl) T.set (by decide +kernel) (pa_cons (pv 6) pa_nil)) pa_nil)) pe_int (nomark _)))) (fun _ _ _ _ _ => (pe_dget hu (pv 3) (pv 6) (fun _ _ => rfl)))) pa_nil))))
        (pss_cons (ps_if (PW.pt (pw_or (pt_cmpR op_gt (pe_callB call_len_seq (by rfl) T.len PySem.boot_len (pa_cons (pv 5) pa_nil)) pe_int (nomark _)) (pw_or1 (pt_cmpR op_eq (pe_callB cr_lenDT (by rfl) T.len PySem.boot_len (pa_cons (pv 3) pa_nil)) pe_int (nomark _)))))
          (pss_one (ps_ret (pe_ifExp (pt_cmpR op_gt (pe_callB call_len_seq (by rfl) T.len PySem.boot_len (pa_cons (pv 5) pa_nil)) pe_int (nomark _)) (pe_ix ix_list (pv 5) pe_int (fun _ _ => rfl)) pe_non))) pss_nil)
        (pss_cons (ps_lock (ps_for PassesOwn.never rfl (pi_keys (pv 3)) (pg_name (i := 6) scLawMerging.nd rfl (Or.inl rfl))
          (pss_one (ps_dput hu (pv 2) (pv 6) pe_bl rfl))))
        (pss_cons (ps_set (i := 7) scLawMerging.nd rfl (Or.inl rfl) pe_dnewT)
        (pss_cons (ps_lock (ps_for PassesOwn.never rfl (pi_list (pe_callB (cr_sortId (units65 hr)) (by rfl) T.sorted (by decide +kernel) (pa_cons (pe_lc (own := [("_law_front", 6)]) (g := (gName 6)) (tt := tYes) rfl scLawMerging.nd  (pi_keys (pv 3)) (blkOk_by (own := [("_law_front", 6)]) (N := nLawMerging) (sc := defScope s_law_merging) (by decide +kernel)) (fun _ _ _ _ _ => (pg_name (i := 6) scLawMerging.nd rfl (Or.inl rfl))) (fun _ _ _ _ _ => pts_nil) (fun _ _ _ _ _ => (pe_tup (pa_cons (pe_dget hu (pv 3) (pv 6) (fun _ _ => rfl)) (pa_cons (pv 6) pa_nil))))) pa_nil))) (pg_tup (by rfl) (pgs_cons (pg_name (i := 8) scLawMerging.nd rfl (Or.inl rfl)) (pgs_cons (pg_name (i := 6) scLawMerging.nd rfl (Or.inl rfl)) pgs_nil)))
          (pss_one (ps_for PassesOwn.never rfl (pi_range1 (by rfl) T.range (pa_cons (pe_callB call_len_seq (by rfl) T.len PySem.boot_len (pa_cons (pv 0) pa_nil)) pa_nil)) (pg_name (i := 9) scLawMerging.nd rfl (Or.inr rfl))
            (pss_cons (ps_set (i := 10) scLawMerging.nd rfl (Or.inl rfl) (pe_callTy call_tuple_of (by rfl) T.tuple (by decide +kernel) (pa_cons (pe_lc (own := [("_law_state", 11)]) (g := (gName 11)) (tt := tYes) rfl scLawMerging.nd  (pi_tup (pv 6)) (blkOk_by (own := [("_law_state", 11)]) (N := nLawMerging) (sc := defScope s_law_merging) (by decide +kernel)) (fun _ _ _ _ _ => (pg_name (i := 11) scLawMerging.nd rfl (Or.inl rfl))) (fun _ _ _ _ _ => pts_nil) (fun _ _ _ _ _ => (pe_ix (r := rIxT K) (show IxR _ (rIxT K) from ix_tup) (pe_ix (r := rIxL K) (show IxR _ (rIxL K) from ix_list) (pv 0) (pv 9) (fun _ _ => rfl)) (pv 11) (fun _ _ => rfl)))) pa_nil)))
            (pss_one (ps_if (PW.pt (pw_and (pt_cmp (pc_dnotin hu (pv 10) (pv 2))) (pw_and1 (pt_cmp (pc_dnotin hu (pv 10) (pv 7))))))
              (pss_one (ps_dput hu (pv 7) (pv 10) (pe_op op_catA (pv 8) (pe_tup (pa_cons (pv 9) pa_nil))) rfl)) pss_nil)))))))
        (pss_one (ps_set (i := 3) scLawMerging.nd rfl (Or.inr rfl) (pv 7)))))))))
      (pss_one (ps_ret pe_non)))), ?_⟩
    refine fun RK hRK => ?_
    refine new_step hRK fun H1 a1 k1 => ?_
    refine fun RL hRL => ?_
    have nKL : RK ≠ RL := ne_of_none k1 hRL
    have RLH : H RL = none := a1.free hRL
    refine new_step hRL fun H2 a2 l2 => ?_
    refine ⟨by show 2 ≤ sizeLine; decide, fun T hT => ?_⟩
    refine new_step hT fun H3 a3 t3 => ?_
    refine ⟨T, _, rfl, SqT.of t3, rfl, _, _, rfl, _, _, rfl, rfl, ?_⟩
    refine ⟨by show 0 ≤ sizeLine; decide, fun e0 he0 => ?_⟩
    refine new_step he0 fun H4 a4 q4 => ?_
    have a14 := a1.trans (a2.trans (a3.trans a4))
    refine ⟨_, rfl, _, rfl, sa, _, rfl, .inl ⟨a14.sqL hS, fun f0 hf0 => ?_⟩⟩
    refine new_step hf0 fun H5 a5 w5 => ?_
    have l5 := (a3.trans (a4.trans a5)) _ _ l2
    have k5 := (a2.trans (a3.trans (a4.trans a5))) _ _ k1
    refine ⟨RL, _, rfl, DPut.t (k := keyL st) l5 (by rw [keyL_v]; exact w5) (by show 0 < sizeLine; decide), ?_⟩
    have I0 : MI K H RK RL Ls st 0 [] [([], st)] (upd H5 RL (.dT [(keyL st, .ref e0)])) := {
      same := (a14.trans a5).mut RLH
      kd := ⟨[], by rw [upd_ne nKL]; exact k5, rfl⟩
      ld := ⟨_, upd_same, .cons (n := ([], st)) (rowAt_upd l5 dTup.1 dTup.2 ⟨e0, rfl, SqT.of (a5 _ _ q4)⟩) .nil⟩
      lv := FR.Lv.start Ls st
      nd := by simp
      cnt := Nat.zero_le _ }
    refine ⟨_, rfl, by decide, by decide, ?_⟩
    refine for_range (lo := 0) (n := 4100) (fun i σ H' => ∃ (RL : Addr) (KN : List (List Int)) (L : List Nd), H RL = none ∧ RK ≠ RL ∧ MI K H RK RL Ls st i KN L H' ∧ ∃ u4 u5 u6 u7 u8 u9 u10 u11 : Option V, σ = [some (.ref mp), some (.ref sa), some (.ref RK), some (.ref RL), u4, u5, u6, u7, u8, u9, u10, u11]) ⟨RL, [], _, RLH, nKL, I0, none, none, none, none, none, none, none, none, rfl⟩ ?_ ?_
    · clear nKL RLH a2 l2 l5 I0
      rintro i σ H6 hi ⟨RL, KN, L, RLH, nKL, I, u4, u5, u6, u7, u8, u9, u10, u11, rfl⟩
      obtain ⟨kvsK, hk, hK⟩ := I.kd
      obtain ⟨kvs, hl, hkv⟩ := I.ld
      have small := I.small hU
      have frn := fun {m : Nd} (hm : m ∈ L) => I.front lsok sN hm
      have ndL : (L.map (·.2)).Nodup := (List.nodup_append.mp I.nd).2.1
      have klen := hkv.len
      refine ⟨RL, .dT kvs, hl, trivial, fun od => ?_⟩
      have bS : Same H (upd H6 RL (.frz od (.dT kvs))) := I.same.mut RLH
      have bk : (upd H6 RL (.frz od (.dT kvs))) RK = some (.dT kvsK) := by rw [upd_ne nKL]; exact hk
      have bz : (upd H6 RL (.frz od (.dT kvs))) RL = some (.frz od (.dT kvs)) := upd_same
      have bv : KvAt K (upd H6 RL (.frz od (.dT kvs))) kvs L := hkv.mono fun _ _ r => rowAt_upd hl dTup.1 dTup.2 r
      generalize upd H6 RL (.frz od (.dT kvs)) = H7 at bS bk bz bv
      refine ⟨_, rfl, RL, od, rfl, .inr ⟨kvs, bz, fun D hD => ?_⟩⟩
      refine lpG walk_keysT (fun j G => Same H7 G ∧ ∃ acc, G D = some (.lst acc) ∧ AllIn (RowAt K G) acc (((L.take j).filter oneN).map (·.1))) ⟨Same.new hD, [], upd_same, AllIn.nil⟩ (fun j G _ h => h.1 _ _ bz) (fun j z G G' hj g y => ?_) fun G g => ?_
      · obtain ⟨rfl, kk, v, kq, hkj, rfl, hq⟩ := y
        obtain ⟨s1, acc, d1, A1⟩ := g
        obtain ⟨m, hm, rfl, rv⟩ := bv.at_ hkj
        rw [keyL_v] at hq
        have mm := List.mem_of_getElem? hm
        obtain ⟨mN, ml, _, _⟩ := frn mm
        have al : acc.length ≤ 4000 := by
          have := A1.1
          rw [List.length_map] at this
          have := List.length_filter_le oneN (L.take j)
          rw [List.length_take] at this
          omega
        refine ⟨rfl, _, rfl, kq, m.2, rfl, .inr (SqT.of hq), by omega, fun q c hq' hc => ?_⟩
        refine ⟨q, _, c, rfl, upd_same, fun ⟨ms2, nd2, ln2, iff2⟩ => ⟨rfl, _, rfl, ?_⟩⟩
        have ce : c = (lotF m.2).length := by
          rw [← ln2]
          exact lot_len (mN.in12 n12) nd2 fun k => by rw [← iff2 k, decide_eq_true_iff]
        rw [dec_len1, ce]
        refine new_step hq' fun G2 s2 _ => ?_
        have d2 := s2 _ _ d1
        have s12 := s1.trans s2
        have tk : ((L.take (j + 1)).filter oneN).map (·.1) = ((L.take j).filter oneN).map (·.1) ++ (if oneN m = true then [m.1] else []) := by
          rw [List.take_add_one, hm, List.filter_append, List.map_append]
          congr 1
          show List.map _ (List.filter oneN [m]) = _
          rw [List.filter_cons, List.filter_nil]
          split <;> rfl
        refine ite2 (fun h => ?_) (fun h => ?_)
        · obtain ⟨v2, g1, g2⟩ := bv.get ndL mm
          refine ⟨_, rfl, _, rfl, RL, _, rfl, .inr ⟨kvs, keyL m.2, kq, .inr ⟨od, s12 _ _ bz⟩, rfl, by rw [keyL_v]; exact s2 _ _ hq, g1.symm⟩, acc, d2, by rw [sizeLine_eq]; omega, s12.mut hD, _, upd_same, ?_⟩
          have h' : oneN m = true := h
          rw [tk, if_pos h']
          exact AllIn.snoc (A1.mono fun _ _ z => (RowAt.same s2 z).upd d2) ((RowAt.same s12 g2).upd d2)
        · refine ⟨s12, acc, d2, ?_⟩
          have h' : ¬ oneN m = true := h
          rw [tk, if_neg h', List.append_nil]
          exact A1.mono fun _ _ z => RowAt.same s2 z
      obtain ⟨s8, acc, d8, A8⟩ := g
      rw [klen, List.take_length] at A8
      have so := sort_ok (L := L.filter oneN) (i := i) (fun m hm => (frn ((List.mem_filter.mp hm).1)).2.2.2) (I.lv.asc.sublist List.filter_sublist)
      refine ⟨D, acc, _, rfl, SqL.of d8, dp_all (g := tupD) (R := RowAt K G) (fun _ _ => dp_row) A8, so, fun E9 H9 s9 e9 => ?_⟩
      have s79 := s8.trans s9
      have z9 := s79 _ _ bz
      refine ⟨z9, ?_⟩
      have A9 := A8.mono fun _ _ z => rowAt_upd (u := .dT kvs) z9 fTup.1 fTup.2 (RowAt.same s9 z)
      have e9' : upd H9 RL (.dT kvs) E9 = some (.lst acc) := by
        rw [upd_ne (fun e => by rw [e, z9] at e9; cases e9)]
        exact e9
      have I9 := I.open RLH nKL (bS.trans s79) ⟨_, s79 _ _ bk, hK⟩ z9 (bv.mono fun _ _ r => RowAt.same s79 r)
      generalize upd H9 RL (.dT kvs) = H10 at A9 e9' I9 ⊢
      clear bS bk bz bv hD s8 d8 A8 s9 e9 s79 z9 I hk hl hkv klen
      obtain ⟨kvsK, hk, hK⟩ := I9.kd
      obtain ⟨kvs, hl, hkv⟩ := I9.ld
      have klen := hkv.len
      refine ⟨_, rfl, E9, _, rfl, .inl (SqL.of e9'), _, _, rfl, rfl, _, rfl, ite2 (fun c1 => ?_) (fun c1 => ?_)⟩
      · refine ite2 (fun _ => ?_) (fun h => absurd rfl h)
        have c0 := of_decide_eq_true c1
        have accN : acc.length = (L.filter oneN).length := by rw [A9.1, List.length_map]
        cases hF : L.filter oneN with
        | nil =>
          rw [hF] at accN
          rw [accN] at c0
          exact absurd c0 (by decide)
        | cons m rest =>
          rw [hF] at A9
          obtain ⟨pre, post, eL, hpre, hm, _⟩ := List.filter_eq_cons_iff.mp hF
          have hacc : acc[0]? = some acc[0] := List.getElem?_eq_getElem (by rw [A9.1]; exact Nat.succ_pos _)
          obtain ⟨m', em, hrow⟩ := A9.2 0 _ hacc
          cases em
          refine ⟨_, rfl, E9, _, rfl, .inl (SqL.of e9'), _, _, rfl, rfl, _, rfl, ite2 (fun _ => ?_) (fun h => absurd c1 h)⟩
          refine ⟨_, rfl, E9, _, (0 : Int), _, rfl, rfl, SqL.of e9', (atI_nat hacc : atI acc ((0 : Nat) : Int) = _), ?_⟩
          refine k _ (some m.1) H10 I9.same ?_ hrow
          have lr : FR.LR Ls (KN ++ L.map (·.2)) L (some m.1) := by
            have z := FR.LR.hit (Ls := Ls) (KN ++ L.map (·.2)) pre m post (fun q hq z => hpre q hq (decide_eq_true z)) (of_decide_eq_true hm)
            rw [← eL] at z
            exact z
          exact lr.best i I9.lv
      · have c0 : ¬ (0 : Int) < (acc.length : Nat) := fun z => c1 (decide_eq_true z)
        have hns : ∀ m ∈ L, (lotF m.2).length ≠ 1 := fun m hm z => by
          have q : m ∈ L.filter oneN := List.mem_filter.mpr ⟨hm, decide_eq_true z⟩
          have q := List.length_pos_of_mem q
          rw [A9.1, List.length_map] at c0
          omega
        refine ⟨_, rfl, RL, kvs, rfl, hl, rfl, _, rfl, ite2 (fun c2 => ?_) (fun c2 => ?_)⟩
        · refine ⟨_, rfl, E9, _, rfl, .inl (SqL.of e9'), _, _, rfl, rfl, _, rfl, ite2 (fun h => absurd h c1) (fun _ => ?_)⟩
          refine k .non none H10 I9.same ?_ rfl
          have L0 : L = [] := by
            have z := of_decide_eq_true c2
            injection z with z
            exact List.eq_nil_of_length_eq_zero (by omega)
          have lv := I9.lv
          rw [L0] at lv
          exact (FR.LR.nil _).best i lv
        have Lne : L ≠ [] := fun z => by
          refine c2 ?_
          rw [klen, z] <;> rfl
        clear c2 c1 c0 A9 e9'
        refine ⟨RL, .dT kvs, hl, trivial, fun od => ?_⟩
        have bS : Same H (upd H10 RL (.frz od (.dT kvs))) := I9.same.mut RLH
        have bk : (upd H10 RL (.frz od (.dT kvs))) RK = some (.dT kvsK) := by rw [upd_ne nKL]; exact hk
        have bz : (upd H10 RL (.frz od (.dT kvs))) RL = some (.frz od (.dT kvs)) := upd_same
        have bv : KvAt K (upd H10 RL (.frz od (.dT kvs))) kvs L := hkv.mono fun _ _ r => rowAt_upd hl dTup.1 dTup.2 r
        generalize upd H10 RL (.frz od (.dT kvs)) = H11 at bS bk bz bv
        refine ⟨_, rfl, RL, od, rfl, .inr ⟨kvs, bz, ?_⟩⟩
        refine for_it walk_keysT (fun j σ H' => (Same H H' ∧ (∃ kq : List (List Key × V), H' RK = some (.dT kq) ∧ kq.map (·.1) = (KN ++ (L.take j).map (·.2)).map keyL) ∧ H' RL = some (.frz od (.dT kvs)) ∧ KvAt K H' kvs L) ∧ ∃ u4 u5 u6 u7 u8 u9 u10 u11 : Option V, σ = [some (.ref mp), some (.ref sa), some (.ref RK), some (.ref RL), u4, u5, u6, u7, u8, u9, u10, u11]) ⟨⟨bS, ⟨_, bk, by rw [List.take_zero, List.map_nil, List.append_nil]; exact hK⟩, bz, bv⟩, _, _, _, _, _, _, _, _, rfl⟩ (fun j σ G _ h => h.1.2.2.1) ?_ ?_
        · rintro j x σ G G' hj ⟨⟨gS, ⟨kq, gk, gK⟩, gz, gv⟩, u4, u5, u6, u7, u8, u9, u10, u11, rfl⟩ y
          obtain ⟨rfl, kk, v, fa, hkj, rfl, hq⟩ := y
          obtain ⟨m, hm, rfl, rv⟩ := gv.at_ hkj
          rw [keyL_v] at hq
          have jl := (List.getElem?_eq_some_iff.mp hm).1
          have nin : m.2 ∉ KN ++ (L.take j).map (·.2) := fun z => by
            have nd := I9.nd
            have eL : L = L.take j ++ m :: L.drop (j + 1) := by
              have := List.getElem?_eq_some_iff.mp hm
              obtain ⟨hh, rfl⟩ := this
              rw [List.getElem_cons_drop, List.take_append_drop]
            rw [eL, List.map_append, ← List.append_assoc, List.map_cons, List.nodup_append] at nd
            exact nd.2.2 _ z _ List.mem_cons_self rfl
          have hnone : valV kq (keyL m.2) = none := by
            have z := keys_has gK m.2
            rw [decide_eq_false nin] at z
            cases h : valV kq (keyL m.2) with
            | none => rfl
            | some _ => rw [h] at z; cases z
          have kl := congrArg List.length gK
          rw [List.length_map, List.length_map, List.length_append, List.length_map, List.length_take] at kl
          refine ⟨_, rfl, _, rfl, RK, _, rfl, DPut.t (k := keyL m.2) gk (by rw [keyL_v]; exact hq) (by rw [sizeLine_eq]; omega), ?_⟩
          rw [putK_new _ hnone]
          refine ⟨⟨gS.mut hRK, ⟨_, upd_same, ?_⟩, by rw [upd_ne (Ne.symm nKL)]; exact gz, gv.mono fun _ _ r => rowAt_upd gk dTup.1 dTup.2 r⟩, _, _, _, _, _, _, _, _, rfl⟩
          rw [List.map_append, gK, List.take_add_one, hm, List.map_append, List.map_append, List.map_append, List.map_append, List.append_assoc] <;> rfl
        rintro σ G ⟨⟨gS, ⟨kq, gk, gK⟩, gz, gv⟩, u4, u5, u6, u7, u8, u9, u10, u11, rfl⟩
        rw [klen, List.take_length] at gK
        refine ⟨gz, ?_⟩
        have bS : Same H (upd G RL (.dT kvs)) := gS.mut RLH
        have bk : (upd G RL (.dT kvs)) RK = some (.dT kq) := by rw [upd_ne nKL]; exact gk
        have bz : (upd G RL (.dT kvs)) RL = some (.dT kvs) := upd_same
        have bv : KvAt K (upd G RL (.dT kvs)) kvs L := gv.mono fun _ _ r => rowAt_upd gz fTup.1 fTup.2 r
        generalize upd G RL (.dT kvs) = H12 at bS bk bz bv
        clear gS gk gz gv hk hl hkv hK
        refine fun R2 hR2 => ?_
        have nK2 : RK ≠ R2 := ne_of_none bk hR2
        have nL2 : RL ≠ R2 := ne_of_none bz hR2
        have R2H : H R2 = none := bS.free hR2
        refine new_step hR2 fun H13 a13 r13 => ?_
        have bS := bS.trans a13
        have bk := a13 _ _ bk
        have bz := a13 _ _ bz
        have bv := bv.mono fun _ _ r => RowAt.same a13 r
        refine ⟨RL, .dT kvs, bz, trivial, fun oe => ?_⟩
        have cS : Same H (upd H13 RL (.frz oe (.dT kvs))) := bS.mut RLH
        have ck : (upd H13 RL (.frz oe (.dT kvs))) RK = some (.dT kq) := by rw [upd_ne nKL]; exact bk
        have c2' : (upd H13 RL (.frz oe (.dT kvs))) R2 = some (.dT []) := by rw [upd_ne (Ne.symm nL2)]; exact r13
        have cz : (upd H13 RL (.frz oe (.dT kvs))) RL = some (.frz oe (.dT kvs)) := upd_same
        have cv : KvAt K (upd H13 RL (.frz oe (.dT kvs))) kvs L := bv.mono fun _ _ r => rowAt_upd bz dTup.1 dTup.2 r
        generalize upd H13 RL (.frz oe (.dT kvs)) = H14 at cS ck c2' cz cv
        clear bS bk bz bv r13 a13 hR2
        refine ⟨_, rfl, RL, oe, rfl, .inr ⟨kvs, cz, fun D hD => ?_⟩⟩
        refine lpG walk_keysT (fun j G => Same H14 G ∧ ∃ acc, G D = some (.lst acc) ∧ AllIn (NodE K G) acc (L.take j)) ⟨Same.new hD, [], upd_same, AllIn.nil⟩ (fun j G _ h => h.1 _ _ cz) (fun j z G G' hj g y => ?_) fun G g => ?_
        · obtain ⟨rfl, kk, v, fa, hkj, rfl, hq⟩ := y
          obtain ⟨s1, acc, d1, A1⟩ := g
          obtain ⟨m, hm, rfl, rv⟩ := cv.at_ hkj
          rw [keyL_v] at hq
          have mm := List.mem_of_getElem? hm
          have al : acc.length ≤ 4000 := by
            rw [A1.1, List.length_take]
            omega
          obtain ⟨v2, g1, g2⟩ := cv.get ndL mm
          refine ⟨rfl, _, rfl, _, rfl, RL, _, rfl, .inr ⟨kvs, keyL m.2, fa, .inr ⟨oe, s1 _ _ cz⟩, rfl, by rw [keyL_v]; exact hq, g1.symm⟩, _, rfl, by show 2 ≤ sizeLine; decide, fun t ht => ?_⟩
          refine new_step ht fun G2 s2 e2 => ?_
          have d2 := s2 _ _ d1
          refine ⟨acc, d2, by rw [sizeLine_eq]; omega, (s1.trans s2).mut hD, _, upd_same, ?_⟩
          rw [List.take_add_one, hm]
          have dL : ∀ y, HO.tup y ≠ HO.lst acc := fun y h => by cases h
          have dL2 : ∀ q y, HO.frz q (.tup y) ≠ HO.lst acc := fun q y h => by cases h
          exact AllIn.snoc (A1.mono fun _ _ z => NodE.upd d2 dL dL2 (NodE.same s2 z)) (NodE.upd d2 dL dL2 ⟨t, v2, fa, rfl, SqT.of e2, RowAt.same (s1.trans s2) g2, SqT.of (s2 _ _ hq)⟩)
        obtain ⟨s15, acc, d15, A15⟩ := g
        rw [klen, List.take_length] at A15
        refine ⟨D, acc, _, rfl, SqL.of d15, dp_all (g := nodD) (R := NodE K G) (fun _ _ h => h.dp) A15, sort_nod (i := i) (fun m hm => (frn hm).2.2.2) I9.lv.asc, fun S16 H16 s16 e16 => ?_⟩
        have F0 : FI K H RK RL R2 S16 (KN ++ L.map (·.2)) L oe kvs acc [] H16 := {
          same := cS.trans (s15.trans s16)
          kd := ⟨kq, (s15.trans s16) _ _ ck, gK⟩
          ld := (s15.trans s16) _ _ cz
          kv := cv.mono fun _ _ r => RowAt.same (s15.trans s16) r
          sd := e16
          no := A15.mono fun _ _ z => NodE.same s16 z
          r2 := ⟨[], (s15.trans s16) _ _ c2', .nil⟩ }
        clear cS ck c2' cz cv s15 d15 A15 s16 e16
        generalize hKQ : KN ++ L.map (·.2) = KQ at F0 gK
        have lv9 := I9.lv
        have nd9 := I9.nd
        rw [hKQ] at lv9 nd9
        refine ⟨S16, rfl, ⟨_, SqL.of F0.sd⟩, ?_⟩
        refine for_list (K := K) (a := S16) (xs := acc) (fun j σ H' => FI K H RK RL R2 S16 KQ L oe kvs acc (FR.expL Ls (L.take j) KQ).2 H' ∧ ∃ u4 u5 u6 u8 u9 u10 u11 : Option V, σ = [some (.ref mp), some (.ref sa), some (.ref RK), some (.ref RL), u4, u5, u6, some (.ref R2), u8, u9, u10, u11]) ⟨F0, _, _, _, _, _, _, _, rfl⟩ (fun j σ G _ h => SqL.of h.1.sd) ?_ ?_
        · clear F0 u4 u5 u6 u7 u8 u9 u10 u11
          rintro j x σ G hj ⟨F, u4, u5, u6, u8, u9, u10, u11, rfl⟩
          obtain ⟨m, hm, t, r, fa, rfl, ht, hr', hf'⟩ := F.no.2 j x hj
          have jl := (List.getElem?_eq_some_iff.mp hm).1
          have mm := List.mem_of_getElem? hm
          obtain ⟨mN, ml, mr, mi⟩ := frn mm
          obtain ⟨ra, rfl, hra⟩ := hr'
          refine ⟨t, _, rfl, ht, rfl, _, _, rfl, _, _, rfl, rfl, ?_⟩
          have mwl := hA.1
          refine ⟨_, rfl, mp, mws, rfl, .inl (F.same.sqL hM), ((mws.length : Nat) : Int), rfl, by omega, by omega, ?_⟩
          rw [Int.toNat_natCast]
          have El := FR.expL_le Ls (L.take j) KQ
          have Ek := FR.expL_known Ls (L.take j) KQ
          generalize eEx : FR.expL Ls (L.take j) KQ = Ex at F El Ek
          rw [List.length_take] at El
          have Eb : Ex.2.length ≤ 96000 := by
            have := Nat.mul_le_mul (show min j L.length ≤ 4000 by omega) l24
            omega
          refine for_range (lo := 0) (n := mws.length) (fun q σ H' => (FI K H RK RL R2 S16 KQ L oe kvs acc (Ex.2 ++ (FR.exp1 Ls m q Ex.1).2) H' ∧ SqT K H' ra (m.1.map V.int) ∧ SqT K H' fa (m.2.map V.int)) ∧ ∃ u9 u10 u11 : Option V, σ = [some (.ref mp), some (.ref sa), some (.ref RK), some (.ref RL), u4, u5, some (.ref fa), some (.ref R2), some (.ref ra), u9, u10, u11]) ⟨⟨by show FI K H RK RL R2 S16 KQ L oe kvs acc (Ex.2 ++ []) G; rw [List.append_nil]; exact F, hra, hf'⟩, _, _, _, rfl⟩ ?_ ?_
          · clear F hra hf' u9 u10 u11
            rintro q σ G2 hq ⟨⟨F, hra, hf'⟩, u9, u10, u11, rfl⟩
            rw [Int.zero_add]
            have qm : q < Ls.length := by omega
            obtain ⟨xs, hxs, la, ela, hla⟩ := hA.2 q mws[q] (List.getElem?_eq_getElem hq)
            have ld := lsok xs (List.mem_of_getElem? hxs)
            have hat : atI mws ((q : Nat) : Int) = some (.ref la) := by rw [← ela]; exact atI_nat (List.getElem?_eq_getElem hq)
            refine ⟨_, rfl, fa, rfl, ⟨_, hf'⟩, fun D hD => ?_⟩
            refine lc_tup (K := K) (a := fa) (xs := m.2.map V.int) (fun t H' => Same G2 H' ∧ H' D = some (.lst (((frS xs m.2).take t).map V.int))) ⟨Same.new hD, upd_same⟩ (fun t H' _ h => h.1.sqT hf') (fun t y G3 ht g => ?_) fun G3 g => ?_
            · obtain ⟨s3, e3⟩ := g
              rw [List.getElem?_map] at ht
              obtain ⟨z, hz, rfl⟩ := Option.map_eq_some_iff.mp ht
              have zb := mN z (List.mem_of_getElem? hz)
              have tl := (List.getElem?_eq_some_iff.mp hz).1
              have s23 := F.same.trans s3
              refine ⟨rfl, _, rfl, _, rfl, mp, mws, ((q : Nat) : Int), _, rfl, rfl, s23.sqL hM, hat, _, rfl, la, _, z, _, rfl, rfl, s23.sqT hla, step_at ld zb, ?_⟩
              refine ⟨_, e3, ?_, s3.mut hD, ?_⟩
              · rw [List.length_map, List.length_take, sizeLine_eq]
                omega
              · have e : (frS xs m.2)[t]? = some (stepS xs z) := by
                  show (m.2.map (stepS xs))[t]? = _
                  rw [List.getElem?_map, hz] <;> rfl
                rw [upd_same, List.take_add_one (i := t), e, List.map_append] <;> rfl
            obtain ⟨s3, e3⟩ := g
            rw [List.take_of_length_le (by show (m.2.map (stepS xs)).length ≤ _; rw [List.length_map, List.length_map]; exact Nat.le_refl _)] at e3
            refine ⟨D, _, rfl, .inl ⟨SqL.of e3, fun T hT => ?_⟩⟩
            refine new_step hT fun G4 s4 e4 => ?_
            have s24 := s3.trans s4
            have F4 := F.more s24
            have hra4 := s24.sqT hra
            have hf4 := s24.sqT hf'
            obtain ⟨kq4, gk4, gK4⟩ := F4.kd
            obtain ⟨kw, gw, gW⟩ := F4.r2
            have xe := FR.exp1_app Ls m q Ex.1
            have gd : Ls.getD q [] = xs := by rw [List.getD_eq_getElem?_getD, hxs] <;> rfl
            rw [gd] at xe
            have ck := FR.exp1_known Ls m Ex.1 q
            have cl := FR.exp1_le Ls m q Ex.1
            have mem : frS xs m.2 ∈ (FR.exp1 Ls m q Ex.1).1 ↔ frS xs m.2 ∈ KQ ∨ frS xs m.2 ∈ (Ex.2 ++ (FR.exp1 Ls m q Ex.1).2).map (·.2) := by
              rw [ck, Ek, List.append_assoc, ← List.map_append, List.mem_append]
            refine ⟨_, rfl, _, rfl, RK, _, rfl, DGet.t gk4 (by rw [keyL_v]; exact e4), _, rfl, ?_⟩
            rw [keys_has gK4]
            refine ite2 (fun c1 => ?_) (fun c1 => ?_)
            · have n1 : frS xs m.2 ∉ KQ := fun z => by
                rw [decide_eq_true z] at c1
                cases c1
              refine ⟨_, rfl, _, rfl, R2, _, rfl, DGet.t gw (by rw [keyL_v]; exact e4), _, rfl, ?_⟩
              rw [gW.has]
              refine ite2 (fun c2 => ?_) (fun c2 => ?_)
              · have n2 : frS xs m.2 ∉ (Ex.2 ++ (FR.exp1 Ls m q Ex.1).2).map (·.2) := fun z => by
                  rw [decide_eq_true z] at c2
                  cases c2
                have nin : frS xs m.2 ∉ (FR.exp1 Ls m q Ex.1).1 := fun z => (mem.mp z).elim n1 n2
                rw [if_neg nin] at xe
                have hnone : valV kw (keyL (frS xs m.2)) = none := by
                  have z := gW.has (frS xs m.2)
                  rw [decide_eq_false n2] at z
                  cases h : valV kw (keyL (frS xs m.2)) with
                  | none => rfl
                  | some _ => rw [h] at z; cases z
                have kl := gW.len
                rw [List.length_append] at kl
                refine ⟨_, rfl, _, rfl, by show 1 ≤ sizeLine; decide, fun tb htb => ?_⟩
                refine new_step htb fun G5 s5 e5 => ?_
                refine catAny (s5.sqT hra4) (SqT.of e5) (by rw [List.length_map, sizeLine_eq]; show m.1.length + 1 ≤ _; omega) fun rb G6 s6 e6 => ?_
                have s46 := s5.trans s6
                have F6 := F4.more s46
                have gw6 := s46 _ _ gw
                have gW6 := gW.mono fun _ _ r => RowAt.same s46 r
                refine ⟨_, rfl, _, rfl, R2, _, rfl, DPut.t (k := keyL (frS xs m.2)) gw6 (by rw [keyL_v]; exact s46 _ _ e4) (by rw [sizeLine_eq]; omega), ?_⟩
                rw [putK_new _ hnone, xe]
                have nS : S16 ≠ R2 := fun e => by
                  have z := F6.sd
                  rw [e, gw6] at z
                  cases z
                refine ⟨⟨?_, sqT_updO gw6 dTup.1 dTup.2 (s46.sqT hra4), sqT_updO gw6 dTup.1 dTup.2 (s46.sqT hf4)⟩, _, _, _, rfl⟩
                show FI K H RK RL R2 S16 KQ L oe kvs acc (Ex.2 ++ ((FR.exp1 Ls m q Ex.1).2 ++ [(m.1 ++ [(q : Int)], frS xs m.2)])) _
                rw [← List.append_assoc]
                exact {
                  same := F6.same.mut R2H
                  kd := by
                    obtain ⟨kq6, h1, h2⟩ := F6.kd
                    exact ⟨kq6, by rw [upd_ne nK2]; exact h1, h2⟩
                  ld := by rw [upd_ne nL2]; exact F6.ld
                  kv := F6.kv.mono fun _ _ r => rowAt_upd gw6 dTup.1 dTup.2 r
                  sd := by rw [upd_ne nS]; exact F6.sd
                  no := F6.no.mono fun _ _ z => NodE.upd gw6 dTup.1 dTup.2 z
                  r2 := ⟨_, upd_same, KvAt.snoc (n := (m.1 ++ [(q : Int)], frS xs m.2)) (gW6.mono fun _ _ r => rowAt_upd gw6 dTup.1 dTup.2 r) ⟨rb, rfl, by rw [List.map_append]; exact sqT_updO gw6 dTup.1 dTup.2 e6⟩⟩ }
              · have isin : frS xs m.2 ∈ (FR.exp1 Ls m q Ex.1).1 := mem.mpr (.inr (Classical.byContradiction fun z => c2 (by rw [decide_eq_false z] <;> rfl)))
                rw [if_pos isin] at xe
                rw [xe]
                exact ⟨⟨F4, hra4, hf4⟩, _, _, _, rfl⟩
            · refine ite2 (fun h => absurd h Bool.false_ne_true) (fun _ => ?_)
              have isin : frS xs m.2 ∈ (FR.exp1 Ls m q Ex.1).1 := mem.mpr (.inl (Classical.byContradiction fun z => c1 (by rw [decide_eq_false z] <;> rfl)))
              rw [if_pos isin] at xe
              rw [xe]
              exact ⟨⟨F4, hra4, hf4⟩, _, _, _, rfl⟩
          · rintro σ G2 ⟨⟨F, hra, hf'⟩, u9, u10, u11, rfl⟩
            have tk : L.take (j + 1) = L.take j ++ [m] := by rw [List.take_add_one, hm] <;> rfl
            rw [tk, FR.expL_snoc, eEx]
            rw [mwl] at F
            exact ⟨F, _, _, _, _, _, _, _, rfl⟩
        · rintro σ G ⟨F, u4, u5, u6, u8, u9, u10, u11, rfl⟩
          have al := F.no.1
          rw [al, List.take_length] at F
          refine ⟨F.ld, ?_⟩
          have lv := lv9.step hns
          have ek := FR.expL_known Ls L KQ
          have nd := FR.expL_nd (Ls := Ls) L nd9
          rw [ek] at lv nd
          obtain ⟨kq9, h1, h2⟩ := F.kd
          obtain ⟨kw, h3, h4⟩ := F.r2
          refine ⟨_, rfl, R2, KQ, _, R2H, nK2, {
            same := F.same.mut RLH
            kd := ⟨kq9, by rw [upd_ne nKL]; exact h1, h2⟩
            ld := ⟨kw, by rw [upd_ne (Ne.symm nL2)]; exact h3, h4.mono fun _ _ r => rowAt_upd F.ld fTup.1 fTup.2 r⟩
            lv := lv
            nd := nd
            cnt := ?_ }, _, _, _, _, _, _, _, _, rfl⟩
          have q1 := I9.cnt
          have q2 := List.length_pos_iff.mpr Lne
          rw [← hKQ, List.length_append, List.length_map]
          omega
    · rintro σ H6 ⟨RL, KN, L, _, _, I, _⟩
      have q1 := I.small hU
      have q2 := I.cnt
      omega
end
end Law

namespace Law
open PySem L2
/-! ### what is drawn, as data -/
def tldD (x k : Int) : PyData := .tuple [.str "told", .int x, .int k]
def undD (e : List Int) (k : Int) : PyData := .tuple [.str "undecided", tupD e, .int k]
theorem ok_tldX : PyData.strOk (Str.ofString "told") = true := by decide +kernel
theorem ok_undX : PyData.strOk (Str.ofString "undecided") = true := by decide +kernel
theorem lay_tld (x k : Int) : (tldD x k).canLay0 = true ∧ (tldD x k).depth ≤ 2 := by
  unfold tldD
  refine ⟨?_, ?_⟩
  · simp only [PyData.canLay0, PyData.canLayAll0, ok_tldX, Bool.and_self]
  · simp only [PyData.depth, PyData.depthAll]
    omega
theorem lay_und (e : List Int) (k : Int) : (undD e k).canLay0 = true ∧ (undD e k).depth ≤ 2 := by
  have h := lay_tupD e
  unfold undD
  refine ⟨?_, ?_⟩
  · simp only [PyData.canLay0, PyData.canLayAll0, h.1, ok_undX, Bool.and_self]
  · simp only [PyData.depth, PyData.depthAll]
    omega
theorem sh_tld (x k : Int) : SeqAt.shaped (tldD x k) = true := shaped_of (lay_tld x k) (by decide)
theorem sh_und (e : List Int) (k : Int) : SeqAt.shaped (undD e k) = true := shaped_of (lay_und e k) (by decide)
theorem dp_tld {K : PySem.W.Frag} {H : Hp} {t : Addr} {x k : Int} (h : SqT K H t [.str "told", .int x, .int k]) : Dp K H (.ref t) (tldD x k) := .tup h (.cons (.str _) (.cons (.int _) (.cons (.int _) .nil)))
theorem dp_und {K : PySem.W.Frag} {H : Hp} {t l : Addr} {e : List Int} {k : Int} (h : SqT K H t [.str "undecided", .ref l, .int k]) (g : SqT K H l (e.map V.int)) : Dp K H (.ref t) (undD e k) := .tup h (.cons (.str _) (.cons (dp_row ⟨l, rfl, g⟩) (.cons (.int _) .nil)))
theorem ne_same (x : V) : (!decide (x = x)) = false := by rw [decide_eq_true rfl] <;> rfl
theorem str_ut : decide (V.str ("undecided" : Str) = V.str ("told" : Str)) = false := decide_eq_false fun e => absurd (V.str.inj e) (by decide +kernel)
theorem all_one {e : List Int} {z : Int} (h : ∀ x ∈ e, x = z) (ne : 0 < e.length) : e.getD 0 0 = z := by
  cases e with
  | nil => exact absurd ne (by decide)
  | cons x t => exact h x List.mem_cons_self
theorem sel_sub {Ls : List (List Int)} {n : Nat} {st cs : List Int} (hs : InM n st) {k : Nat} {x : Int} (h : x ∈ selF Ls n st cs k) : x ∈ selF Ls n (upto n) cs k := by
  obtain ⟨s, hs2, rfl⟩ := List.mem_map.mp (show x ∈ st.map fun s => (endsF Ls n (cs.take k)).getD s.toNat 0 from h)
  exact List.mem_map.mpr ⟨s, mem_upto.mpr (hs s hs2), rfl⟩
end Law
namespace Law
open PySem L2
section
variable {P : Program} {w : World} {K : PySem.W.Frag} {mg : Str → Option Value} {base : Heap}
def spIsDr (K : PySem.W.Frag) (C : Addr) : Sp := fun vs H Q _ => ∃ (y mp o ca : Addr) (lo hi : Int) (b : Bool) (n : Nat) (ms : List Mv) (mws ws : List V) (cs : List (List Int)) (row : List Int), vs = [.ref y, .ref mp, .ref o, .int lo, .int hi, .ref ca, .str (plS b)] ∧ SysAt K C H y n ms ∧ SysOk n ms ∧ SqL K H mp mws ∧ AllIn (RowAt K H) mws (LsOf ms) ∧ SqT K H o ws ∧ AllIn (RowAt K H) ws cs ∧ OrdOk n cs ∧ BrkAt (LsOf ms) cs none ∧ EndAt n (lowB n cs) (some lo) ∧ EndAt n (highB n cs) (some hi) ∧ SqT K H ca (row.map V.int) ∧ CsOk ms.length row ∧ row.length ≤ 400 ∧ (∀ k, oneF (LsOf ms) n [lo, hi] row k = oneF (LsOf ms) n (upto n) row k) ∧ ∀ H', Same H H' → Q (.bl true) H'
abbrev nLawIsDrawnRight : List Str := ["_law_system", "_law_maps_here", "_law_order", "_law_low_here", "_law_high", "_law_coins_here", "_law_plan", "_law_many", "_law_word", "_law_state", "_law_looked", "_law_told", "_law_all_told", "_law_own"]
theorem scLawIsDrawnRight : FnScope nLawIsDrawnRight ["_law_system", "_law_maps_here", "_law_order", "_law_low_here", "_law_high", "_law_coins_here", "_law_plan"] (defScope s_law_is_drawn_right) := ⟨rfl, rfl, rfl, by decide +kernel, rfl, by decide +kernel, by decide +kernel⟩
theorem ok_is_drawn_right {f : Addr} {fd : FuncData} {fcDrawnBy : Addr} {fdcDrawnBy : FuncData} {fcDrwE : Addr} {fdcDrwE : FuncData} {fcDrawn : Addr} {fdcDrawn : FuncData} {C : Addr} (F : Fun K "_law_is_drawn_right" "_law_is_drawn_right" s_law_is_drawn_right f fd) (T : NmA mg) (cDrawnBy : Cl P w K mg base CX0 2 "_law_drawn_by" fcDrawnBy fdcDrawnBy ["_law_maps_here", "_law_coins_here", "_law_plan", "_law_states", "_law_many"] (spDrawnBy K)) (cDrwE : Cl P w K mg base CX0 9 "drawn_by_ends" fcDrwE fdcDrwE ["system", "order", "coins", "plan"] (spDrwE K C)) (cDrawn : Cl P w K mg base CX0 5 "drawn" fcDrawn fdcDrawn ["system", "coins", "plan"] (spDrawn K C)) (S : SysT K mg C) : FnOk P w K mg base CX0 10 f fd ["_law_system", "_law_maps_here", "_law_order", "_law_low_here", "_law_high", "_law_coins_here", "_law_plan"] (spIsDr K C) := by
  refine F.ok scLawIsDrawnRight (fun vs H Q E h => ?_) (fun cdv A' outer s H vs Q E hr h => ?_)
  · obtain ⟨y, mp, o, ca, lo, hi, b, n, ms, mws, ws, cs, row, rfl, _⟩ := h
    rfl
  · obtain ⟨y, mp, o, ca, lo, hi, b, n, ms, mws, ws, cs, row, rfl, hS, ok, hM, hA, hO, hW, oo, kp, el, eh, hC, cok, c400, one, k⟩ := h
    have hu := hu_of hr
    refine ⟨_, pss_cons (ps_set (i := 7) scLawIsDrawnRight.nd rfl (Or.inl rfl) (pe_fld (pv 0) rfl))
      (pss_cons (ps_asg (cDrawnBy.call (hr.mono (by decide)) (pa_cons (pv 1) (pa_cons (pv 5) (pa_cons (pv 6) (pa_cons (pe_lst (pa_cons (pv 3) (pa_cons (pv 4) pa_nil))) (pa_cons (pv 7) pa_nil)))))) (pg_tup (by rfl) (pgs_cons (pg_name (i := 8) scLawIsDrawnRight.nd rfl (Or.inl rfl)) (pgs_cons (pg_name (i := 9) scLawIsDrawnRight.nd rfl (Or.inl rfl)) (pgs_cons (pg_name (i := 10) scLawIsDrawnRight.nd rfl (Or.inl rfl)) pgs_nil)))))
      (pss_cons (ps_par (i := 11) (j := 12) (by rfl) scLawIsDrawnRight.nd rfl rfl (by decide) rfl rfl (pa_cons (cDrwE.call (hr.mono (by decide)) (pa_cons (pv 0) (pa_cons (pv 2) (pa_cons (pv 5) (pa_cons (pv 6) pa_nil))))) (pa_cons (cDrawn.call (hr.mono (by decide)) (pa_cons (pv 0) (pa_cons (pv 5) (pa_cons (pv 6) pa_nil)))) pa_nil)) (by rfl))
      (pss_cons (ps_if (PW.pt (pw_or (pt_cmpR (op_neD hr.units) (pv 11) (pe_tup (pa_cons (pv 8) (pa_cons (pe_ifExp (pt_cmpR op_eq (pv 8) pe_str (nomark _)) (pv 9) (pe_callTy call_tuple_of (by rfl) T.tuple (by decide +kernel) (pa_cons (pv 9) pa_nil))) (pa_cons (pv 10) pa_nil)))) (nomark _)) (pw_or1 (pt_val (pe_callB call_isi (by rfl) T.isi (by decide +kernel) (pa_cons (pe_ix ix_tup (pv 11) pe_int (fun _ _ => rfl)) (pa_cons (pe_bltn (v := .ty "bool") (u := .type "bool") (by rfl) T.bool (by decide +kernel) rfl) pa_nil)))))))
        (pss_one (ps_ret pe_bl)) pss_nil)
      (pss_cons (ps_set (i := 13) scLawIsDrawnRight.nd rfl (Or.inl rfl) (cDrawnBy.call (hr.mono (by decide)) (pa_cons (pv 1) (pa_cons (pv 5) (pa_cons (pv 6) (pa_cons (pe_listRg (by rfl) (by rfl) T.list (prg_1 (by rfl) T.range (pv 7))) (pa_cons (pv 7) pa_nil)))))))
      (pss_cons (ps_if (PW.pt (pw_or (pt_cmpR op_ne (pe_ix ix_tup (pv 13) pe_int (fun _ _ => rfl)) (pv 8) (nomark _)) (pw_or (pt_cmpR op_ne (pe_ix ix_tup (pv 13) pe_int (fun _ _ => rfl)) (pv 10) (nomark _)) (pw_or1 (PW.pt (pw_and (pt_cmpR op_eq (pv 8) pe_str (nomark _)) (pw_and1 (pt_cmpR (op_neD hr.units) (pe_ix ix_tup (pv 13) pe_int (fun _ _ => rfl)) (pv 9) (nomark _)))))))))
        (pss_one (ps_ret pe_bl)) pss_nil)
      (pss_one (ps_ret (pe_cmpR (op_eqD hr.units) (pv 12) (pe_tup (pa_cons (pe_ix ix_tup (pv 13) pe_int (fun _ _ => rfl)) (pa_cons (pe_ifExp (pt_cmpR op_eq (pv 8) pe_str (nomark _)) (pe_ix ix_tup (pv 13) pe_int (fun _ _ => rfl)) (pe_callTy call_tuple_of (by rfl) T.tuple (by decide +kernel) (pa_cons (pe_callB (cr_sortedSet (by rfl)) (by rfl) T.sorted (by decide +kernel) (pa_cons (pe_callTy (cr_setA (by rfl)) (by rfl) T.set (by decide +kernel) (pa_cons (pe_ix ix_tup (pv 13) pe_int (fun _ _ => rfl)) pa_nil)) pa_nil)) pa_nil))) (pa_cons (pv 10) pa_nil)))) (nomark _))))))))), ?_⟩
    have m12 := ok.m2
    have m1 := ok.m1
    have lk : LdsOk n (LsOf ms) := lds_ok ok
    have lms : (LsOf ms).length = ms.length := List.length_map ..
    have cok2 : CsOk (LsOf ms).length row := by rw [lms]; exact cok
    have lN : InM n [lo, hi] := fun z hz => by
      rcases List.mem_cons.mp hz with rfl | hz
      · exact mem_upto.mp el.1
      · rw [List.mem_singleton.mp hz]
        exact mem_upto.mp eh.1
    have uN : InM n (upto n) := fun z hz => mem_upto.mp hz
    have ul := upto_len n
    have efn : oneF (LsOf ms) n [lo, hi] row = oneF (LsOf ms) n (upto n) row := funext one
    obtain ⟨dx, mv, hp, hmv⟩ := id hS
    refine ⟨_, rfl, y, C, dx, _, _, rfl, hp, S.cl, S.nK, sysF_many _ _, ?_⟩
    refine ⟨_, rfl, _, rfl, _, rfl, _, rfl, _, rfl, by show 2 ≤ sizeLine; decide, fun L hL => ?_⟩
    refine new_step hL fun H1 s1 e1 => ?_
    refine ⟨_, rfl, mp, ca, L, b, n, mws, LsOf ms, row, [lo, hi], rfl, s1.sqL hM, hA.mono fun _ _ z => RowAt.same s1 z, lk, s1.sqT hC, cok2, c400, SqL.of e1, lN, by show 2 ≤ 12; decide, by show 1 ≤ 2; decide, fun t1 H2 k1 s2 d1 p1 => ?_⟩
    have s02 := s1.trans s2
    obtain ⟨sel1, sel2⟩ := sel_in lk lN cok2 k1
    obtain ⟨su1, su2⟩ := sel_in lk uN cok2 k1
    have e12 := sel1.in12 m12
    have u12 := su1.in12 m12
    have rg : RgOk 0 (n : Int) := RgOk.of_le (by decide) (by omega) (by decide) (by omega)
    have t4s : ∀ {G : Hp}, Same H G → _ := fun {G : Hp} (s : Same H G) => (⟨s.sqL hM, hA.mono fun _ _ z => RowAt.same s z, s.sqT hC⟩ : SqL K G mp mws ∧ AllIn (RowAt K G) mws (LsOf ms) ∧ SqT K G ca (row.map V.int))
    rcases d1 with ⟨o1, T1⟩ | ⟨o1, l, T1, hl⟩
    · have o2 : oneF (LsOf ms) n (upto n) row k1 = true := by rw [← one]; exact o1
      obtain ⟨z, z1, z2, z3⟩ := lot_one u12 (of_decide_eq_true o2)
      have g1 : (selF (LsOf ms) n [lo, hi] row k1).getD 0 0 = z := all_one (fun x hx => z2 x (sel_sub lN hx)) (by rw [sel2]; exact Nat.succ_pos _)
      have g2 : (selF (LsOf ms) n (upto n) row k1).getD 0 0 = z := all_one z2 (by rw [su2]; omega)
      have g3 : (lotF (selF (LsOf ms) n (upto n) row k1)).headD 0 = z := by rw [z1] <;> rfl
      rw [g1] at T1
      refine ⟨t1, _, rfl, T1, rfl, _, _, rfl, _, _, rfl, _, _, rfl, rfl, ?_⟩
      refine ⟨_, rfl, _, rfl, _, rfl, _, rfl, y, o, ca, b, n, ms, ws, cs, lo, hi, row, rfl, hS.same s02, ok, s02.sqT hO, hW.mono fun _ _ z => RowAt.same s02 z, oo, kp, el, eh, s02.sqT hC, cok, c400, fun t2 H3 k2 s3 d2 p2 => ?_⟩
      have s03 := s02.trans s3
      refine ⟨_, rfl, _, rfl, _, rfl, y, ca, b, n, ms, row, rfl, hS.same s03, lk, s03.sqT hC, cok, c400, fun t3 H4 k3 s4 d3 p3 => ?_⟩
      have s04 := s03.trans s4
      obtain rfl : k2 = k1 := p2.uniq p1
      have q1 : Pick b row.length (oneF (LsOf ms) n (upto n) row) k2 := by rw [← efn]; exact p1
      obtain rfl : k3 = k2 := p3.uniq q1
      have T2 : SqT K H3 t2 [.str "told", .int z, .int (k3 : Int)] := by
        rcases d2 with ⟨_, T2⟩ | ⟨o3, _⟩
        · rw [← g1]
          exact T2
        · have o3 : oneF (LsOf ms) n [lo, hi] row k3 = false := o3
          rw [o1] at o3
          cases o3
      have T3 : SqT K H4 t3 [.str "told", .int z, .int (k3 : Int)] := by
        rcases d3 with ⟨_, T3⟩ | ⟨o3, _⟩
        · rw [← g3]
          exact T3
        · exact absurd (of_decide_eq_true o2) o3
      refine ⟨_, _, rfl, ?_⟩
      refine ⟨_, rfl, _, rfl, _, rfl, rfl, _, rfl, ?_⟩
      rw [decide_eq_true rfl]
      refine iteT ⟨_, rfl, _, rfl, by show 3 ≤ sizeLine; decide, fun t ht => ?_⟩
      refine new_step ht fun H5 s5 e5 => ?_
      refine ⟨_, _, dp_tld ((s4.trans s5).sqT T2), dp_tld (SqT.of e5), sh_tld _ _, sh_tld _ _, _, rfl, ?_⟩
      rw [eqv_same (sh_tld _ _)]
      refine iteF ?_
      refine ⟨_, rfl, t2, _, _, _, rfl, rfl, (s4.trans s5).sqT T2, atI_nat (j := 2) rfl, _, _, _, _, _, rfl, .ty "bool", .base (.int _), (show PySem.W.kitOne K (.type "int") (.type "bool") = some false from kit_ty (by decide +kernel)), _, rfl, iteF ?_⟩
      refine ⟨_, rfl, _, rfl, _, rfl, _, rfl, (n : Int), rfl, rg, fun q hq => ?_⟩
      refine new_step hq fun H6 s6 e6 => ?_
      rw [rgV_up] at e6
      have s46 := s5.trans s6
      obtain ⟨v1, v2, v3⟩ := t4s (s04.trans s46)
      refine ⟨_, rfl, mp, ca, q, b, n, mws, LsOf ms, row, upto n, rfl, v1, v2, lk, v3, cok2, c400, SqL.of e6, uN, by rw [ul]; exact m12, by rw [ul]; exact m1, fun t4 H7 k4 s7 d4 p4 => ?_⟩
      obtain rfl : k4 = k3 := p4.uniq q1
      have T4 : SqT K H7 t4 [.str "told", .int z, .int (k4 : Int)] := by
        rcases d4 with ⟨_, T4⟩ | ⟨o3, _⟩
        · rw [← g2]
          exact T4
        · rw [o2] at o3
          cases o3
      refine ⟨_, rfl, t4, _, _, _, rfl, rfl, T4, atI_nat (j := 0) rfl, _, rfl, rfl, _, rfl, ?_⟩
      rw [ne_same]
      refine iteF ⟨_, rfl, t4, _, _, _, rfl, rfl, T4, atI_nat (j := 2) rfl, _, rfl, rfl, _, rfl, ?_⟩
      rw [ne_same]
      refine iteF ⟨_, rfl, rfl, _, rfl, ?_⟩
      rw [decide_eq_true rfl]
      refine iteT ⟨_, rfl, t4, _, _, _, rfl, rfl, T4, atI_nat (j := 1) rfl, _, rfl, .int z, .int z, .int _, .int _, rfl, rfl, _, rfl, ?_⟩
      rw [eqv_same rfl]
      refine iteF ?_
      refine ⟨_, rfl, _, rfl, t4, _, _, _, rfl, rfl, T4, atI_nat (j := 0) rfl, _, rfl, rfl, _, rfl, ?_⟩
      rw [decide_eq_true rfl]
      refine iteT ⟨_, rfl, t4, _, _, _, rfl, rfl, T4, atI_nat (j := 1) rfl, _, rfl, by show 3 ≤ sizeLine; decide, fun t5 ht5 => ?_⟩
      refine new_step ht5 fun H8 s8 e8 => ?_
      have s48 := s46.trans (s7.trans s8)
      refine ⟨_, _, dp_tld (s48.sqT T3), dp_tld (SqT.of e8), sh_tld _ _, sh_tld _ _, ?_⟩
      rw [eqv_same (sh_tld _ _)]
      exact k H8 (s04.trans s48)
    · have o2 : oneF (LsOf ms) n (upto n) row k1 = false := by rw [← one]; exact o1
      refine ⟨t1, _, rfl, T1, rfl, _, _, rfl, _, _, rfl, _, _, rfl, rfl, ?_⟩
      refine ⟨_, rfl, _, rfl, _, rfl, _, rfl, y, o, ca, b, n, ms, ws, cs, lo, hi, row, rfl, hS.same s02, ok, s02.sqT hO, hW.mono fun _ _ z => RowAt.same s02 z, oo, kp, el, eh, s02.sqT hC, cok, c400, fun t2 H3 k2 s3 d2 p2 => ?_⟩
      have s03 := s02.trans s3
      refine ⟨_, rfl, _, rfl, _, rfl, y, ca, b, n, ms, row, rfl, hS.same s03, lk, s03.sqT hC, cok, c400, fun t3 H4 k3 s4 d3 p3 => ?_⟩
      have s04 := s03.trans s4
      obtain rfl : k2 = k1 := p2.uniq p1
      have q1 : Pick b row.length (oneF (LsOf ms) n (upto n) row) k2 := by rw [← efn]; exact p1
      obtain rfl : k3 = k2 := p3.uniq q1
      obtain ⟨l2, T2, g2⟩ : ∃ l2, SqT K H3 t2 [.str "undecided", .ref l2, .int (k3 : Int)] ∧ SqT K H3 l2 ((selF (LsOf ms) n [lo, hi] row k3).map V.int) := by
        rcases d2 with ⟨o3, T2⟩ | ⟨_, l2, T2, g2⟩
        · have o3 : oneF (LsOf ms) n [lo, hi] row k3 = true := o3
          rw [o1] at o3
          cases o3
        · exact ⟨l2, T2, g2⟩
      obtain ⟨l3, T3, g3⟩ : ∃ l3, SqT K H4 t3 [.str "undecided", .ref l3, .int (k3 : Int)] ∧ SqT K H4 l3 ((lotF (selF (LsOf ms) n (upto n) row k3)).map V.int) := by
        rcases d3 with ⟨o3, _⟩ | ⟨_, l3, T3, g3⟩
        · exact absurd o3 (of_decide_eq_false o2)
        · exact ⟨l3, T3, g3⟩
      refine ⟨_, _, rfl, ?_⟩
      refine ⟨_, rfl, _, rfl, _, rfl, rfl, _, rfl, ?_⟩
      rw [str_ut]
      refine iteF ⟨_, rfl, l, _, rfl, .inl ⟨SqL.of ((s3.trans s4) _ _ hl), fun l5 hl5 => ?_⟩⟩
      refine new_step hl5 fun H5 s5 e5 => ?_
      refine ⟨_, rfl, by show 3 ≤ sizeLine; decide, fun t ht => ?_⟩
      refine new_step ht fun H6 s6 e6 => ?_
      have s46 := s5.trans s6
      have s36 := s4.trans s46
      refine ⟨_, _, dp_und (s36.sqT T2) (s36.sqT g2), dp_und (SqT.of e6) (SqT.of (s6 _ _ e5)), sh_und _ _, sh_und _ _, _, rfl, ?_⟩
      rw [eqv_same (sh_und _ _)]
      refine iteF ?_
      refine ⟨_, rfl, t2, _, _, _, rfl, rfl, s36.sqT T2, atI_nat (j := 2) rfl, _, _, _, _, _, rfl, .ty "bool", .base (.int _), (show PySem.W.kitOne K (.type "int") (.type "bool") = some false from kit_ty (by decide +kernel)), _, rfl, iteF ?_⟩
      refine ⟨_, rfl, _, rfl, _, rfl, _, rfl, (n : Int), rfl, rg, fun q hq => ?_⟩
      refine new_step hq fun H7 s7 e7 => ?_
      rw [rgV_up] at e7
      have s47 := s46.trans s7
      obtain ⟨v1, v2, v3⟩ := t4s (s04.trans s47)
      refine ⟨_, rfl, mp, ca, q, b, n, mws, LsOf ms, row, upto n, rfl, v1, v2, lk, v3, cok2, c400, SqL.of e7, uN, by rw [ul]; exact m12, by rw [ul]; exact m1, fun t4 H8 k4 s8 d4 p4 => ?_⟩
      obtain rfl : k4 = k3 := p4.uniq q1
      obtain ⟨l4, T4, g4⟩ : ∃ l4, SqT K H8 t4 [.str "undecided", .ref l4, .int (k4 : Int)] ∧ H8 l4 = some (.lst ((selF (LsOf ms) n (upto n) row k4).map V.int)) := by
        rcases d4 with ⟨o3, T4⟩ | ⟨_, l4, T4, g4⟩
        · rw [o2] at o3
          cases o3
        · exact ⟨l4, T4, g4⟩
      refine ⟨_, rfl, t4, _, _, _, rfl, rfl, T4, atI_nat (j := 0) rfl, _, rfl, rfl, _, rfl, ?_⟩
      rw [ne_same]
      refine iteF ⟨_, rfl, t4, _, _, _, rfl, rfl, T4, atI_nat (j := 2) rfl, _, rfl, rfl, _, rfl, ?_⟩
      rw [ne_same]
      refine iteF ⟨_, rfl, rfl, _, rfl, ?_⟩
      rw [str_ut]
      refine iteF (iteF ?_)
      refine ⟨_, rfl, _, rfl, t4, _, _, _, rfl, rfl, T4, atI_nat (j := 0) rfl, _, rfl, rfl, _, rfl, ?_⟩
      rw [str_ut]
      refine iteF ⟨_, rfl, t4, _, _, _, rfl, rfl, T4, atI_nat (j := 1) rfl, l4, _, rfl, .inl (SqL.of g4), by rw [su2]; omega, fun q2 c hq2 hc => ?_⟩
      refine new_step hq2 fun G1 x1 y1 => ?_
      refine ⟨q2, _, c, rfl, y1, by omega, fun ns r p1 p2 p3 hr' => ?_⟩
      refine new_step hr' fun G2 x2 y2 => ?_
      refine ⟨r, _, rfl, .inl ⟨SqL.of y2, fun l9 hl9 => ?_⟩⟩
      refine new_step hl9 fun H9 s9 e9 => ?_
      have en : ns = lotF (selF (LsOf ms) n (upto n) row k4) := lot_eq u12 p1 fun z => by rw [p2 z, decide_eq_true_iff]
      have s89 := x1.trans (x2.trans s9)
      rw [en] at e9
      refine ⟨_, rfl, by show 3 ≤ sizeLine; decide, fun t5 ht5 => ?_⟩
      refine new_step ht5 fun H10 s10 e10 => ?_
      have s410 := s47.trans (s8.trans (s89.trans s10))
      refine ⟨_, _, dp_und (s410.sqT T3) (s410.sqT g3), dp_und (SqT.of e10) (SqT.of (s10 _ _ e9)), sh_und _ _, sh_und _ _, ?_⟩
      rw [eqv_same (sh_und _ _)]
      exact k H10 (s04.trans s410)
end
end Law

namespace Law
open PySem L2
/-! ### what kept maps do together -/
structure MonF (w : Nat) (F : Int → Int) : Prop where
  inn : ∀ a : Int, 0 ≤ a → a < (w : Int) → 0 ≤ F a ∧ F a < (w : Int)
  mono : ∀ a b : Int, 0 ≤ a → a ≤ b → b < (w : Int) → F a ≤ F b
theorem mon_step {w : Nat} {f : List Int} (h : LdOk w f) (p : f.Pairwise (· ≤ ·)) : MonF w (stepS f) where
  inn a h0 h1 := stepS_in h ⟨h0, h1⟩
  mono a b h0 hab hb := by
    have hl := h.1
    unfold stepS
    have hi : a.toNat < f.length := by omega
    have hj : b.toNat < f.length := by omega
    rw [List.getD_eq_getElem?_getD, List.getD_eq_getElem?_getD, List.getElem?_eq_getElem hi, List.getElem?_eq_getElem hj]
    show f[a.toNat] ≤ f[b.toNat]
    by_cases e : a.toNat = b.toNat
    · have z : f[a.toNat]? = f[b.toNat]? := by rw [e]
      rw [List.getElem?_eq_getElem hi, List.getElem?_eq_getElem hj] at z
      exact Int.le_of_eq (Option.some.inj z)
    · exact (List.pairwise_iff_getElem.mp p) _ _ hi hj (by omega)
theorem MonF.comp {w : Nat} {F G : Int → Int} (hF : MonF w F) (hG : MonF w G) : MonF w fun a => G (F a) where
  inn a h0 h1 := hG.inn _ (hF.inn a h0 h1).1 (hF.inn a h0 h1).2
  mono a b h0 hab hb := hG.mono _ _ (hF.inn a h0 (by omega)).1 (hF.mono a b h0 hab hb) (hF.inn b (by omega) hb).2
theorem kept_row {w h : Nat} {cs Ls : List (List Int)} (lsok : LsOk cs.length Ls) (hk : ∀ xs ∈ Ls, Kept w h cs xs) : ∀ row : List Int, RwOk Ls.length row → ∃ F G : Int → Int, MonF w F ∧ MonF h G ∧ ∀ (s : Nat) (a b : Int), cs[s]? = some [a, b] → cs[(goS Ls row (s : Int)).toNat]? = some [F a, G b]
  | [], _ => ⟨fun a => a, fun a => a, ⟨fun _ h0 h1 => ⟨h0, h1⟩, fun _ _ _ h _ => h⟩, ⟨fun _ h0 h1 => ⟨h0, h1⟩, fun _ _ _ h _ => h⟩, fun s a b hs => by
      show cs[((s : Int)).toNat]? = _
      rw [Int.toNat_natCast]
      exact hs⟩
  | c :: row, hr => by
    have hc := hr c List.mem_cons_self
    obtain ⟨F, G, hF, hG, hs⟩ := kept_row lsok hk row fun r hr' => hr r (List.mem_cons_of_mem _ hr')
    have ci : c.toNat < Ls.length := by omega
    have gd : Ls.getD c.toNat [] = Ls[c.toNat] := by rw [List.getD_eq_getElem?_getD, List.getElem?_eq_getElem ci] <;> rfl
    obtain ⟨f, g, f1, f2, g1, g2, st⟩ := hk _ (List.getElem_mem ci)
    refine ⟨fun a => F (stepS f a), fun b => G (stepS g b), (mon_step f1 f2).comp hF, (mon_step g1 g2).comp hG, fun s a b e => ?_⟩
    have z := st s a b e
    have sl := (List.getElem?_eq_some_iff.mp e).1
    have sb := stepS_in (lsok _ (List.getElem_mem ci)) (s := (s : Int)) ⟨by omega, by omega⟩
    have y := hs _ _ _ z
    rw [Int.toNat_of_nonneg sb.1] at y
    show cs[(goS Ls row (stepS (Ls.getD c.toNat []) (s : Int))).toNat]? = _
    rw [gd]
    exact y
theorem kept_one {w h : Nat} {cs Ls : List (List Int)} (f : FrmOk w h cs) (lsok : LsOk cs.length Ls) (hk : ∀ xs ∈ Ls, Kept w h cs xs) {lo hi : Nat} (hlo : cs[lo]? = some [0, 0]) (hhi : cs[hi]? = some [(w : Int) - 1, (h : Int) - 1]) {row : List Int} (hr : RwOk Ls.length row) (e : goS Ls row (lo : Int) = goS Ls row (hi : Int)) : ∀ s ∈ upto cs.length, goS Ls row s = goS Ls row (lo : Int) := by
  obtain ⟨F, G, hF, hG, hs⟩ := kept_row lsok hk row hr
  have w1 := f.w1
  have h1 := f.h1
  have zl := hs lo _ _ hlo
  have zh := hs hi _ _ hhi
  rw [← e, zl] at zh
  have zz := Option.some.inj zh
  injection zz with e1 e2
  injection e2 with e2 _
  intro s hs'
  obtain ⟨s0, s1⟩ := mem_upto.mp hs'
  obtain ⟨j, rfl⟩ := Int.eq_ofNat_of_zero_le s0
  have jl : j < cs.length := by omega
  obtain ⟨a, b, ec, a0, a1, b0, b1⟩ := f.mem (List.getElem_mem jl)
  have zj := hs j a b (by rw [List.getElem?_eq_getElem jl, ec])
  have x1 := hF.mono 0 a (Int.le_refl _) a0 a1
  have x2 := hF.mono a ((w : Int) - 1) a0 (by omega) (by omega)
  have y1 := hG.mono 0 b (Int.le_refl _) b0 b1
  have y2 := hG.mono b ((h : Int) - 1) b0 (by omega) (by omega)
  rw [show F a = F 0 by omega, show G b = G 0 by omega] at zj
  have ll := (List.getElem?_eq_some_iff.mp hlo).1
  have q := nd_ix f.nd zj zl
  have g1 := goS_in lsok row (j : Int) hr ⟨by omega, by omega⟩
  have g2 := goS_in lsok row (lo : Int) hr ⟨by omega, by omega⟩
  omega
theorem one_iff {n : Nat} (hn : n ≤ 12) {e : List Int} (h : InN n e) (ne : 0 < e.length) : (lotF e).length = 1 ↔ ∀ x ∈ e, ∀ y ∈ e, x = y := by
  constructor
  · intro e1
    obtain ⟨z, _, h2, _⟩ := lot_one (h.in12 hn) e1
    exact fun x hx y hy => by rw [h2 x hx, h2 y hy]
  · intro e1
    cases e with
    | nil => exact absurd ne (by decide)
    | cons x t =>
      have h1 : InN n [x] := fun z hz => by
        rw [List.mem_singleton.mp hz]
        exact h x List.mem_cons_self
      rw [lot_congr (h.in12 hn) (h1.in12 hn) fun k => ⟨fun hk => List.mem_singleton.mpr (e1 k hk x List.mem_cons_self), fun hk => by rw [List.mem_singleton.mp hk]; exact List.mem_cons_self⟩, lot_id hn h1 (List.pairwise_singleton _ _)] <;> rfl
/-- both ends come together as all do -/
theorem ends_one {w h : Nat} {cs Ls : List (List Int)} (f : FrmOk w h cs) (lsok : LsOk cs.length Ls) (hk : ∀ xs ∈ Ls, Kept w h cs xs) {lo hi : Nat} (hlo : cs[lo]? = some [0, 0]) (hhi : cs[hi]? = some [(w : Int) - 1, (h : Int) - 1]) {row : List Int} (hr : RwOk Ls.length row) : (lotF ([(lo : Int), (hi : Int)].map (goS Ls row))).length = 1 ↔ (lotF ((upto cs.length).map (goS Ls row))).length = 1 := by
  obtain ⟨n1, n12⟩ := f.many
  have ll := (List.getElem?_eq_some_iff.mp hlo).1
  have hl := (List.getElem?_eq_some_iff.mp hhi).1
  have lN : InN cs.length [(lo : Int), (hi : Int)] := fun z hz => by
    rcases List.mem_cons.mp hz with rfl | hz
    · omega
    · rw [List.mem_singleton.mp hz]
      omega
  have uN : InN cs.length (upto cs.length) := fun z hz => mem_upto.mp hz
  rw [one_iff n12 (mapN lsok hr lN) (by rw [List.length_map]; exact Nat.succ_pos _), one_iff n12 (mapN lsok hr uN) (by rw [List.length_map, upto_len]; exact n1)]
  constructor
  · intro e x hx y hy
    have e0 := e (goS Ls row (lo : Int)) (List.mem_map.mpr ⟨_, List.mem_cons_self, rfl⟩) (goS Ls row (hi : Int)) (List.mem_map.mpr ⟨(hi : Int), by simp, rfl⟩)
    have k := kept_one f lsok hk hlo hhi hr e0
    obtain ⟨s, hs, rfl⟩ := List.mem_map.mp hx
    obtain ⟨t, ht, rfl⟩ := List.mem_map.mp hy
    rw [k s hs, k t ht]
  · intro e x hx y hy
    obtain ⟨s, hs, rfl⟩ := List.mem_map.mp hx
    obtain ⟨t, ht, rfl⟩ := List.mem_map.mp hy
    exact e _ (List.mem_map.mpr ⟨s, mem_upto.mpr (lN s hs), rfl⟩) _ (List.mem_map.mpr ⟨t, mem_upto.mpr (lN t ht), rfl⟩)
theorem best_cong {Ls : List (List Int)} {st st' : List Int} (h : ∀ p, RwOk Ls.length p → ((lotF (FR.rch Ls st p)).length = 1 ↔ (lotF (FR.rch Ls st' p)).length = 1)) {r : Option (List Int)} (b : FR.Best Ls st r) : FR.Best Ls st' r := by
  cases r with
  | none => exact fun p hp e => b p hp ((h p hp).mpr e)
  | some r =>
    obtain ⟨b1, b2, b3⟩ := b
    exact ⟨b1, (h r b1).mp b2, fun p hp e => b3 p hp ((h p hp).mpr e)⟩
theorem sel_go {n : Nat} {Ls : List (List Int)} (ok : LdsOk n Ls) {st cs : List Int} (hs : InM n st) (hc : CsOk Ls.length cs) (k : Nat) : selF Ls n st cs k = st.map (goS Ls (cs.take k).reverse) := by
  show st.map (fun s => (endsF Ls n (cs.take k)).getD s.toNat 0) = _
  refine List.map_congr_left fun s h => ?_
  obtain ⟨s0, s1⟩ := hs s h
  obtain ⟨j, rfl⟩ := Int.eq_ofNat_of_zero_le s0
  rw [← behind_ends ok (hc.take k), ← behind_go, Int.toNat_natCast, List.getD_eq_getElem?_getD, List.getElem?_map, upto_get (show j < n by omega)] <;> rfl
theorem ends_drawn {w h : Nat} {cs Ls : List (List Int)} (f : FrmOk w h cs) (lsok : LsOk cs.length Ls) (hk : ∀ xs ∈ Ls, Kept w h cs xs) {lo hi : Nat} (hlo : cs[lo]? = some [0, 0]) (hhi : cs[hi]? = some [(w : Int) - 1, (h : Int) - 1]) {row : List Int} (hr : CsOk Ls.length row) (k : Nat) : oneF Ls cs.length [(lo : Int), (hi : Int)] row k = oneF Ls cs.length (upto cs.length) row k := by
  obtain ⟨n1, n12⟩ := f.many
  have ok : LdsOk cs.length Ls := ldsok n1 n12 lsok
  have ll := (List.getElem?_eq_some_iff.mp hlo).1
  have hl := (List.getElem?_eq_some_iff.mp hhi).1
  have lN : InM cs.length [(lo : Int), (hi : Int)] := fun z hz => by
    rcases List.mem_cons.mp hz with rfl | hz
    · omega
    · rw [List.mem_singleton.mp hz]
      omega
  unfold oneF
  rw [sel_go ok lN hr, sel_go ok (fun z hz => mem_upto.mp hz) hr]
  exact decide_eq_decide.mpr (ends_one f lsok hk hlo hhi fun r h => hr r (List.mem_of_mem_take (List.mem_reverse.mp h)))
/-- a least row that brings two together has at most as many moves as there are pairs -/
theorem due_len {n : Nat} (hn : n ≤ 12) {Ls : List (List Int)} (lsok : LsOk n Ls) {x y : Int} (hxy : InN n [x, y]) {r : List Int} (b : FR.Best Ls [x, y] (some r)) : r.length ≤ 144 := by
  obtain ⟨b1, b2, b3⟩ := b
  rw [FR.rch_go] at b2
  have tk : ∀ i, RwOk Ls.length (r.take i) := fun i c hc => b1 c (List.mem_of_mem_take hc)
  have dr : ∀ i, RwOk Ls.length (r.drop i) := fun i c hc => b1 c (List.mem_of_mem_drop hc)
  let g : Nat → List Int := fun i => [goS Ls (r.take i) x, goS Ls (r.take i) y]
  have nd : ((List.range (r.length + 1)).map g).Nodup := by
    unfold List.Nodup
    rw [List.pairwise_map]
    refine List.Pairwise.imp_of_mem (fun {i j} hi hj ij e => ?_) (List.pairwise_lt_range (n := r.length + 1))
    have hj := List.mem_range.mp hj
    have e : [goS Ls (r.take i) x, goS Ls (r.take i) y] = [goS Ls (r.take j) x, goS Ls (r.take j) y] := e
    injection e with e1 e2
    injection e2 with e2 _
    have fin : ∀ z : Int, goS Ls (r.take i) z = goS Ls (r.take j) z → goS Ls (r.take i ++ r.drop j) z = goS Ls r z := fun z ez => by
      rw [goS_app, ez, ← goS_app, List.take_append_drop]
    have rok : RwOk Ls.length (r.take i ++ r.drop j) := (tk i).app (dr j)
    have l : (r.take i ++ r.drop j).length < r.length := by
      rw [List.length_append, List.length_take, List.length_drop]
      omega
    rcases b3 _ rok (by rw [FR.rch_go, List.map_cons, List.map_cons, List.map_nil, fin x e1, fin y e2]; exact b2) with z | ⟨z, _⟩
    · omega
    · omega
  have q := PrIn.len (n := n) (fun c hc => by
    obtain ⟨i, _, rfl⟩ := List.mem_map.mp hc
    refine ⟨_, _, rfl, fun z hz => ?_⟩
    rcases List.mem_cons.mp hz with rfl | hz
    · exact goS_in lsok _ _ (tk i) (hxy x List.mem_cons_self)
    · rw [List.mem_singleton.mp hz]
      exact goS_in lsok _ _ (tk i) (hxy y (by simp))) nd
  rw [List.length_map, List.length_range] at q
  have := Nat.mul_le_mul hn hn
  omega
theorem prs_front {n : Nat} {Ls : List (List Int)} (lsok : LsOk n Ls) {x y : Int} (hxy : InN n [x, y]) (p : List Int) (hp : RwOk Ls.length p) : [x, y].map (goS Ls p) ∈ gridP n n := by
  have h1 := goS_in lsok p x hp (hxy x List.mem_cons_self)
  have h2 := goS_in lsok p y hp (hxy y (by simp))
  exact grid_mem.mpr ⟨_, _, rfl, h1.1, h1.2, h2.1, h2.2⟩
end Law
namespace Law
open PySem L2
/-! ### how many fronts of all states there are -/
def mono (m : Nat) : Nat → Int → List (List Int)
  | 0, _ => [[]]
  | l + 1, b => ((upto m).filter fun x => decide (b ≤ x)).flatMap fun x => (mono m l x).map (x :: ·)
theorem mono_mem {m : Nat} : ∀ (xs : List Int) (b : Int), xs.Pairwise (· ≤ ·) → (∀ x ∈ xs, b ≤ x ∧ 0 ≤ x ∧ x < (m : Int)) → xs ∈ mono m xs.length b
  | [], _, _, _ => List.mem_singleton.mpr rfl
  | x :: xs, b, p, h => by
    rw [List.pairwise_cons] at p
    have hx := h x List.mem_cons_self
    refine List.mem_flatMap.mpr ⟨x, List.mem_filter.mpr ⟨mem_upto.mpr hx.2, decide_eq_true hx.1⟩, List.mem_map.mpr ⟨xs, mono_mem xs x p.2 fun y hy => ⟨p.1 y hy, (h y (List.mem_cons_of_mem _ hy)).2⟩, rfl⟩⟩
theorem mono_few : ∀ w < 7, ∀ h < 7, w * h < 7 → (mono w w 0).length * (mono h h 0).length ≤ 4000 := by decide +kernel
theorem fm_len {α β : Type} (f : α → List β) (m : Nat) : ∀ l : List α, (∀ x ∈ l, (f x).length ≤ m) → (l.flatMap f).length ≤ l.length * m
  | [], _ => Nat.zero_le _
  | x :: l, h => by
    rw [List.flatMap_cons, List.length_append, List.length_cons, Nat.succ_mul]
    have := h x List.mem_cons_self
    have := fm_len f m l fun y hy => h y (List.mem_cons_of_mem _ hy)
    omega
def ixF (cs : List (List Int)) (c : List Int) : Int := ((upto cs.length).find? fun s => decide (cs[s.toNat]? = some c)).getD 0
theorem ixF_at {cs : List (List Int)} (nd : cs.Nodup) {c : List Int} {j : Nat} (hj : cs[j]? = some c) : ixF cs c = (j : Int) := by
  have jl := (List.getElem?_eq_some_iff.mp hj).1
  unfold ixF
  cases e : (upto cs.length).find? fun s => decide (cs[s.toNat]? = some c) with
  | none =>
    have z := List.find?_eq_none.mp e (j : Int) (mem_upto.mpr ⟨by omega, by omega⟩)
    rw [Int.toNat_natCast, decide_eq_true hj] at z
    exact absurd rfl z
  | some s =>
    have z : cs[s.toNat]? = some c := of_decide_eq_true (List.find?_some (p := fun s : Int => decide (cs[s.toNat]? = some c)) e)
    have m := mem_upto.mp (List.mem_of_find?_eq_some e)
    have q := nd_ix nd z hj
    show s = _
    omega
def monU (w h : Nat) (cs : List (List Int)) : List (List Int) := (mono w w 0).flatMap fun f => (mono h h 0).map fun g => cs.map fun c => ixF cs [stepS f (c.getD 0 0), stepS g (c.getD 1 0)]
theorem monU_len {w h : Nat} {cs : List (List Int)} (f : FrmOk w h cs) (n7 : cs.length < 7) : (monU w h cs).length ≤ 4000 := by
  have e := f.len
  have w1 := f.w1
  have h1 := f.h1
  have a := Nat.mul_le_mul (Nat.le_refl w) h1
  have b := Nat.mul_le_mul w1 (Nat.le_refl h)
  have q := fm_len (fun f => (mono h h 0).map fun g => cs.map fun c => ixF cs [stepS f (c.getD 0 0), stepS g (c.getD 1 0)]) (mono h h 0).length (mono w w 0) fun x _ => by
    rw [List.length_map]
    exact Nat.le_refl _
  exact Nat.le_trans q (mono_few w (by omega) h (by omega) (by omega))
theorem tab_step {w : Nat} {F : Int → Int} {a : Int} (h0 : 0 ≤ a) (h1 : a < (w : Int)) : stepS ((upto w).map F) a = F a := by
  obtain ⟨j, rfl⟩ := Int.eq_ofNat_of_zero_le h0
  unfold stepS
  rw [Int.toNat_natCast, List.getD_eq_getElem?_getD, List.getElem?_map, upto_get (show j < w by omega)] <;> rfl
theorem tab_mono {w : Nat} {F : Int → Int} (h : MonF w F) : (upto w).map F ∈ mono w w 0 := by
  have z := mono_mem (m := w) ((upto w).map F) 0 (by
    rw [List.pairwise_map]
    refine List.Pairwise.imp_of_mem (fun {a b} ha hb ab => ?_) (upto_asc w)
    have ha := mem_upto.mp ha
    have hb := mem_upto.mp hb
    exact h.mono a b ha.1 (by omega) hb.2) fun x hx => by
      obtain ⟨a, ha, rfl⟩ := List.mem_map.mp hx
      have ha := mem_upto.mp ha
      have q := h.inn a ha.1 ha.2
      exact ⟨q.1, q⟩
  rw [List.length_map, upto_len] at z
  exact z
theorem front_mem {w h : Nat} {cs Ls : List (List Int)} (f : FrmOk w h cs) (lsok : LsOk cs.length Ls) (hk : ∀ xs ∈ Ls, Kept w h cs xs) (p : List Int) (hp : RwOk Ls.length p) : (upto cs.length).map (goS Ls p) ∈ monU w h cs := by
  obtain ⟨F, G, hF, hG, hs⟩ := kept_row lsok hk p hp
  refine List.mem_flatMap.mpr ⟨_, tab_mono hF, List.mem_map.mpr ⟨_, tab_mono hG, ?_⟩⟩
  refine List.ext_getElem? fun j => ?_
  rw [List.getElem?_map, List.getElem?_map]
  by_cases jl : j < cs.length
  · obtain ⟨a, b, ec, a0, a1, b0, b1⟩ := f.mem (List.getElem_mem jl)
    have ej : cs[j]? = some [a, b] := by rw [List.getElem?_eq_getElem jl, ec]
    have z := ixF_at f.nd (hs j a b ej)
    rw [ej, upto_get jl]
    show some (ixF cs [stepS ((upto w).map F) a, stepS ((upto h).map G) b]) = some (goS Ls p (j : Int))
    rw [tab_step a0 a1, tab_step b0 b1, z, Int.toNat_of_nonneg (goS_in lsok p (j : Int) hp ⟨by omega, by omega⟩).1]
  · rw [List.getElem?_eq_none (by omega), List.getElem?_eq_none (by rw [upto_len]; omega)] <;> rfl
/-! ### the orders that are kept -/
theorem getD_at {cs : List (List Int)} {i : Nat} {c : List Int} (h : cs[i]? = some c) : cs.getD i [] = c := by rw [List.getD_eq_getElem?_getD, h] <;> rfl
theorem ordI_keep {w h : Nat} {cs : List (List Int)} (f : FrmOk w h cs) {xs : List Int} (ld : LdOk cs.length xs) (hk : Kept w h cs xs) {a b : Int} (m : [a, b] ∈ ordI cs cs.length) (ne : stepS xs a ≠ stepS xs b) : [stepS xs a, stepS xs b] ∈ ordI cs cs.length := by
  obtain ⟨s, t, hs, ht, e, _, le⟩ := ordI_mem.mp m
  cases e
  obtain ⟨fs, gs, f1, f2, g1, g2, st⟩ := hk
  obtain ⟨a, b, ea, a0, a1, b0, b1⟩ := f.mem (List.getElem_mem hs)
  obtain ⟨c, d, eb, c0, c1, d0, d1⟩ := f.mem (List.getElem_mem ht)
  have es : cs[s]? = some [a, b] := by rw [List.getElem?_eq_getElem hs, ea]
  have et : cs[t]? = some [c, d] := by rw [List.getElem?_eq_getElem ht, eb]
  rw [getD_at es, getD_at et] at le
  obtain ⟨l1, l2⟩ := leH_iff.mp le
  have l1 : a ≤ c := l1
  have l2 : b ≤ d := l2
  have x1 := (mon_step f1 f2).mono a c a0 l1 c1
  have x2 := (mon_step g1 g2).mono b d b0 l2 d1
  have y1 := st s a b es
  have y2 := st t c d et
  have z1 := stepS_in ld (s := (s : Int)) ⟨by omega, by omega⟩
  have z2 := stepS_in ld (s := (t : Int)) ⟨by omega, by omega⟩
  refine ordI_mem.mpr ⟨(stepS xs (s : Int)).toNat, (stepS xs (t : Int)).toNat, by omega, by omega, ?_, fun z => ne (by omega), ?_⟩
  · rw [Int.toNat_of_nonneg z1.1, Int.toNat_of_nonneg z2.1]
  · rw [getD_at y1, getD_at y2]
    exact leH_iff.mpr ⟨x1, x2⟩
theorem ordI_kept {w h : Nat} {cs Ls : List (List Int)} (f : FrmOk w h cs) (lsok : LsOk cs.length Ls) (hk : ∀ xs ∈ Ls, Kept w h cs xs) : BrkAt Ls (ordI cs cs.length) none := by
  intro i c hc j xs hxs
  have mx := List.mem_of_getElem? hxs
  have mc := List.mem_of_getElem? hc
  obtain ⟨s, t, _, _, rfl, _, _⟩ := ordI_mem.mp mc
  show (!(stepS xs (s : Int) == stepS xs (t : Int)) && !decide ([stepS xs (s : Int), stepS xs (t : Int)] ∈ ordI cs cs.length)) = false
  by_cases e : stepS xs (s : Int) = stepS xs (t : Int)
  · rw [e, beq_self_eq_true] <;> rfl
  · rw [decide_eq_true (ordI_keep f (lsok xs mx) (hk xs mx) mc e), Bool.not_true, Bool.and_false]
theorem ordI_from {w h : Nat} {cs : List (List Int)} (f : FrmOk w h cs) {lo : Nat} (hlo : cs[lo]? = some [0, 0]) {t : Int} (ht : t ∈ upto cs.length) (ne : t ≠ (lo : Int)) : [(lo : Int), t] ∈ ordI cs cs.length := by
  obtain ⟨t0, t1⟩ := mem_upto.mp ht
  obtain ⟨j, rfl⟩ := Int.eq_ofNat_of_zero_le t0
  have jl : j < cs.length := by omega
  obtain ⟨a, b, ec, a0, a1, b0, b1⟩ := f.mem (List.getElem_mem jl)
  have ej : cs[j]? = some [a, b] := by rw [List.getElem?_eq_getElem jl, ec]
  refine ordI_mem.mpr ⟨lo, j, (List.getElem?_eq_some_iff.mp hlo).1, jl, rfl, fun z => ne (by omega), ?_⟩
  rw [getD_at hlo, getD_at ej]
  exact leH_iff.mpr ⟨a0, b0⟩
theorem ordI_upto {w h : Nat} {cs : List (List Int)} (f : FrmOk w h cs) {hi : Nat} (hhi : cs[hi]? = some [(w : Int) - 1, (h : Int) - 1]) {t : Int} (ht : t ∈ upto cs.length) (ne : t ≠ (hi : Int)) : [t, (hi : Int)] ∈ ordI cs cs.length := by
  obtain ⟨t0, t1⟩ := mem_upto.mp ht
  obtain ⟨j, rfl⟩ := Int.eq_ofNat_of_zero_le t0
  have jl : j < cs.length := by omega
  obtain ⟨a, b, ec, a0, a1, b0, b1⟩ := f.mem (List.getElem_mem jl)
  have ej : cs[j]? = some [a, b] := by rw [List.getElem?_eq_getElem jl, ec]
  refine ordI_mem.mpr ⟨j, hi, jl, (List.getElem?_eq_some_iff.mp hhi).1, rfl, fun z => ne (by omega), ?_⟩
  rw [getD_at hhi, getD_at ej]
  exact leH_iff.mpr ⟨show a ≤ (w : Int) - 1 by omega, show b ≤ (h : Int) - 1 by omega⟩
theorem end_of {n lo : Nat} (l : lo < n) {f : Int → Bool} (h : f (lo : Int) = true) : EndAt n f (some (lo : Int)) := ⟨mem_upto.mpr ⟨by omega, by omega⟩, h⟩
theorem lowB_of {n : Nat} {cs : List (List Int)} {lo : Int} (h : ∀ t ∈ upto n, t ≠ lo → [lo, t] ∈ cs) : lowB n cs lo = true := List.all_eq_true.mpr fun t ht => by
  by_cases e : t = lo
  · rw [e, beq_self_eq_true] <;> rfl
  · rw [decide_eq_true (h t ht e), Bool.or_true]
theorem highB_of {n : Nat} {cs : List (List Int)} {hi : Int} (h : ∀ t ∈ upto n, t ≠ hi → [t, hi] ∈ cs) : highB n cs hi = true := List.all_eq_true.mpr fun t ht => by
  by_cases e : t = hi
  · rw [e, beq_self_eq_true] <;> rfl
  · rw [decide_eq_true (h t ht e), Bool.or_true]
theorem ini_low {n : Nat} {lo hi t : Int} (ht : t ∈ upto n) (ne : t ≠ lo) : [lo, t] ∈ iniF n lo hi := List.mem_append_left _ (List.mem_map.mpr ⟨t, List.mem_filter.mpr ⟨ht, by rw [beq_eq_false_iff_ne.mpr ne] <;> rfl⟩, rfl⟩)
theorem ini_high {n : Nat} {lo hi t : Int} (ht : t ∈ upto n) (ne : t ≠ hi) : [t, hi] ∈ iniF n lo hi := List.mem_append_right _ (List.mem_map.mpr ⟨t, List.mem_filter.mpr ⟨ht, by rw [beq_eq_false_iff_ne.mpr ne] <;> rfl⟩, rfl⟩)
theorem tc_ordI {w h : Nat} {cs Ls : List (List Int)} (f : FrmOk w h cs) (lsok : LsOk cs.length Ls) (hk : ∀ xs ∈ Ls, Kept w h cs xs) {lo hi : Nat} (hlo : cs[lo]? = some [0, 0]) (hhi : cs[hi]? = some [(w : Int) - 1, (h : Int) - 1]) {a b : Int} (t : Tc Ls (iniF cs.length (lo : Int) (hi : Int)) a b) : [a, b] ∈ ordI cs cs.length := by
  induction t with
  | base m =>
    rcases List.mem_append.mp m with m | m
    · obtain ⟨t, ht, e⟩ := List.mem_map.mp m
      obtain ⟨ht, ne⟩ := List.mem_filter.mp ht
      cases e
      exact ordI_from f hlo ht fun z => by
        rw [z, beq_self_eq_true] at ne
        cases ne
    · obtain ⟨t, ht, e⟩ := List.mem_map.mp m
      obtain ⟨ht, ne⟩ := List.mem_filter.mp ht
      cases e
      exact ordI_upto f hhi ht fun z => by
        rw [z, beq_self_eq_true] at ne
        cases ne
  | step _ hxs ne ih => exact ordI_keep f (lsok _ hxs) (hk _ hxs) ih ne
  | trans _ _ h1 h2 => exact (ordI_ok f).tr _ _ _ h1 h2
theorem least_some {w h : Nat} {cs Ls : List (List Int)} (f : FrmOk w h cs) (lsok : LsOk cs.length Ls) (hk : ∀ xs ∈ Ls, Kept w h cs xs) {lo hi : Nat} (hlo : cs[lo]? = some [0, 0]) (hhi : cs[hi]? = some [(w : Int) - 1, (h : Int) - 1]) {r : Option (List (List Int))} (l : LeastR Ls (iniF cs.length (lo : Int) (hi : Int)) r) : ∃ ds, r = some ds ∧ lowB cs.length ds (lo : Int) = true ∧ highB cs.length ds (hi : Int) = true := by
  cases r with
  | none =>
    obtain ⟨s, t⟩ := l
    exact absurd rfl ((ordI_ok f).irr s s (tc_ordI f lsok hk hlo hhi t))
  | some ds => exact ⟨ds, rfl, lowB_of fun t ht ne => (l.2.2.1 _ _).mpr (.base (ini_low ht ne)), highB_of fun t ht ne => (l.2.2.1 _ _).mpr (.base (ini_high ht ne))⟩
end Law
namespace Law
open PySem L2
theorem cut_ints (row : List Int) (lo hi : Option Int) : ∃ c : List Int, cutV (row.map V.int) lo hi = c.map V.int ∧ c.length ≤ HT.sIx row.length row.length hi - HT.sIx row.length 0 lo ∧ ∀ x ∈ c, x ∈ row := by
  refine ⟨(row.drop (HT.sIx row.length 0 lo)).take (HT.sIx row.length row.length hi - HT.sIx row.length 0 lo), ?_, ?_, fun x hx => List.mem_of_mem_drop (List.mem_of_mem_take hx)⟩
  · unfold cutV
    rw [List.length_map, List.map_take, List.map_drop]
  · rw [List.length_take]
    exact Nat.min_le_left _ _
def DueV (K : PySem.W.Frag) (H : Hp) (x : V) : Option (List Int) → Prop
  | none => x = .non
  | some l => RowAt K H x l
def dueD : Option (List Int) → PyData
  | none => .none
  | some l => tupD l
theorem DueV.of {K : PySem.W.Frag} {H : Hp} {x : V} {r : Option (List Int)} (h : match r with | none => x = .non | some l => RowAt K H x l) : DueV K H x r := by
  cases r <;> exact h
theorem DueV.dp {K : PySem.W.Frag} {H : Hp} {x : V} {r : Option (List Int)} (h : DueV K H x r) : Dp K H x (dueD r) := by
  cases r with
  | none =>
    obtain rfl : x = .non := h
    exact .non
  | some q => exact dp_row h
theorem due_sh (r : Option (List Int)) : SeqAt.shaped (dueD r) = true := by
  cases r with
  | none => exact show SeqAt.shaped .none = true by decide
  | some q => exact sh_tup _
theorem DueV.same {K : PySem.W.Frag} {H H' : Hp} {x : V} {r : Option (List Int)} (s : Same H H') (h : DueV K H x r) : DueV K H' x r := by
  cases r with
  | none => exact h
  | some q => exact RowAt.same s h
theorem DueV.stp {K : PySem.W.Frag} {H H' : Hp} {p : Addr} {x : V} {r : Option (List Int)} (hp : HandAt H p) (s : Stp p H H') (h : DueV K H x r) : DueV K H' x r := by
  cases r with
  | none => exact h
  | some q => exact RowAt.stp hp s h
abbrev plW : List V := [.str "one", .str "double"]
theorem plW_at {i : Nat} {x : V} (h : plW[i]? = some x) : x = V.str (plS (decide (i = 0))) := by
  match i, h with
  | 0, h => exact (Option.some.inj h).symm
  | 1, h => exact (Option.some.inj h).symm
end Law
namespace Law
open PySem L2
section
variable {P : Program} {w : World} {K : PySem.W.Frag} {mg : Str → Option Value} {base : Heap}
def spLaw (K : PySem.W.Frag) : Sp := fun vs H Q _ => ∃ (a : Addr) (ns : List Int), vs = [.ref a] ∧ SqL K H a (ns.map V.int) ∧ ns.length ≤ 63 ∧ ∀ H', Q (.bl true) H'
abbrev nLaw : List Str := ["_law_script", "_law_hand_here", "_law_frame_here", "_law_many", "_law_maps_here", "_law_system", "_law_low_here", "_law_high", "_law_order", "_law_due", "_law_whole", "_law_turn", "_law_coins_here", "_law_plan"]
theorem scLaw : FnScope nLaw ["_law_script"] (defScope s_law) := ⟨rfl, rfl, rfl, by decide +kernel, rfl, by decide +kernel, by decide +kernel⟩
theorem ok_law {f : Addr} {fd : FuncData} {fcHand : Addr} {fdcHand : FuncData} {fcFrame : Addr} {fdcFrame : FuncData} {fcMaps : Addr} {fdcMaps : FuncData} {fcSys : Addr} {fdcSys : FuncData} {fcLMoves : Addr} {fdcLMoves : FuncData} {fcOrdOf : Addr} {fdcOrdOf : FuncData} {fcLLeast : Addr} {fdcLLeast : FuncData} {fcLeast : Addr} {fdcLeast : FuncData} {fD : Addr} {fdD : FuncData} {fcMerg : Addr} {fdcMerg : FuncData} {fcMerge : Addr} {fdcMerge : FuncData} {fcMrow : Addr} {fdcMrow : FuncData} {fcAllLed : Addr} {fdcAllLed : FuncData} {fcCoins : Addr} {fdcCoins : FuncData} {fcIsDr : Addr} {fdcIsDr : FuncData} {C : Addr} (F : Fun K "law" "law" s_law f fd) (T : NmA mg) (cHand : Cl P w K mg base CX0 1 "_law_hand" fcHand fdcHand ["_law_script"] (spHand K)) (cFrame : Cl P w K mg base CX0 3 "_law_frame" fcFrame fdcFrame ["_law_hand_here"] spFrame) (cMaps : Cl P w K mg base CX0 3 "_law_maps" fcMaps fdcMaps ["_law_hand_here", "_law_frame_here", "_law_is_kept"] (spMaps K)) (McSys : Mk K C fcSys) (GcSys : FnOk P w K mg base CX0 5 fcSys fdcSys ["self", "many", "moves"] (spSInit K C)) (BcSys : Binds K fdcSys ["self", "many", "moves"] []) (YcSys : SysT K mg C) (cLMoves : Cl P w K mg base CX0 4 "_law_moves" fcLMoves fdcLMoves ["_law_hand_here", "_law_maps_here"] (spLMoves K)) (cOrdOf : Cl P w K mg base CX0 1 "_law_order_of" fcOrdOf fdcOrdOf ["_law_frame_here"] spOrdOf) (cLLeast : Cl P w K mg base CX0 2 "_law_least_order" fcLLeast fdcLLeast ["_law_many", "_law_maps_here", "_law_low_here", "_law_high"] (spLLeast K)) (cLeast : Cl P w K mg base CX0 3 "least_order" fcLeast fdcLeast ["system", "low", "high"] (spLeast K C)) (D : Cl P w K mg base CX0 1 "_law_draw" fD fdD ["_law_hand_here", "_law_many"] spDraw) (cMerg : Cl P w K mg base CX0 1 "_law_merging" fcMerg fdcMerg ["_law_maps_here", "_law_states"] (spMerg K)) (cMerge : Cl P w K mg base CX0 9 "merging_by_ends" fcMerge fdcMerge ["system", "order"] (spMerge K C)) (cMrow : Cl P w K mg base CX0 4 "merging_row" fcMrow fdcMrow ["system"] (spMrow K C)) (cAllLed : Cl P w K mg base CX0 1 "_law_all_led" fcAllLed fdcAllLed ["_law_maps_here", "_law_row", "_law_many"] (spAllLed K)) (cCoins : Cl P w K mg base CX0 3 "_law_coins" fcCoins fdcCoins ["_law_hand_here", "_law_moves_here"] (spCoins K)) (cIsDr : Cl P w K mg base CX0 10 "_law_is_drawn_right" fcIsDr fdcIsDr ["_law_system", "_law_maps_here", "_law_order", "_law_low_here", "_law_high", "_law_coins_here", "_law_plan"] (spIsDr K C)) (S : SysT K mg C) : FnOk P w K mg base CX0 11 f fd ["_law_script"] (spLaw K) := by
  refine F.ok scLaw (fun vs H Q E h => ?_) (fun cdv A' outer s H vs Q E hr h => ?_)
  · obtain ⟨a, ns, rfl, _⟩ := h
    rfl
  · obtain ⟨a, ns, rfl, hN, h63, k⟩ := h
    have hu := hu_of hr
    refine ⟨_, pss_cons (ps_set (i := 1) scLaw.nd rfl (Or.inl rfl) (cHand.call (hr.mono (by decide)) (pa_cons (pv 0) pa_nil)))
      (pss_cons (ps_set (i := 2) scLaw.nd rfl (Or.inl rfl) (cFrame.call (hr.mono (by decide)) (pa_cons (pv 1) pa_nil)))
      (pss_cons (ps_par (i := 3) (j := 4) (by rfl) scLaw.nd rfl rfl (by decide) rfl rfl (pa_cons (pe_callB call_len_seq (by rfl) T.len PySem.boot_len (pa_cons (pe_dget hu (pv 2) pe_str (fun _ _ => rfl)) pa_nil)) (pa_cons (cMaps.call (hr.mono (by decide)) (pa_cons (pv 1) (pa_cons (pv 2) (pa_cons pe_bl pa_nil)))) pa_nil)) (by rfl))
      (pss_cons (ps_set (i := 5) scLaw.nd rfl (Or.inl rfl) (pe_make McSys GcSys (hr.mono (by decide)) (by rfl) YcSys.mgC BcSys .nil pass0 (pa_cons (pv 3) (pa_cons (cLMoves.call (hr.mono (by decide)) (pa_cons (pv 1) (pa_cons (pv 4) pa_nil))) pa_nil))))
      (pss_cons (ps_set (i := 6) scLaw.nd rfl (Or.inl rfl) (pe_bm PySem.F.plainAttrs_list PySem.F.slot_list_index PySem.F.type_list_index (mt_indexD (units65 hr)) (pe_dget hu (pv 2) pe_str (fun _ _ => rfl)) (pa_cons (pe_tup (pa_cons pe_int (pa_cons pe_int pa_nil))) pa_nil)))
      (pss_cons (ps_set (i := 7) scLaw.nd rfl (Or.inl rfl) (pe_bm PySem.F.plainAttrs_list PySem.F.slot_list_index PySem.F.type_list_index (mt_indexD (units65 hr)) (pe_dget hu (pv 2) pe_str (fun _ _ => rfl)) (pa_cons (pe_tup (pa_cons (pe_op op_sub (pe_dget hu (pv 2) pe_str (fun _ _ => rfl)) pe_int) (pa_cons (pe_op op_sub (pe_dget hu (pv 2) pe_str (fun _ _ => rfl)) pe_int) pa_nil))) pa_nil)))
      (pss_cons (ps_set (i := 8) scLaw.nd rfl (Or.inl rfl) (pe_callTy call_tuple_of (by rfl) T.tuple (by decide +kernel) (pa_cons (cOrdOf.call (hr.mono (by decide)) (pa_cons (pv 2) pa_nil)) pa_nil)))
      (Evl.pss_cut (ps_if (pt_cmpR op_eq (D.call (hr.mono (by decide)) (pa_cons (pv 1) (pa_cons pe_int pa_nil))) pe_int (nomark _))
        (pss_cons (ps_set (i := 8) scLaw.nd rfl (Or.inl rfl) (cLLeast.call (hr.mono (by decide)) (pa_cons (pv 3) (pa_cons (pv 4) (pa_cons (pv 6) (pa_cons (pv 7) pa_nil))))))
        (pss_one (ps_if (pt_cmpR (op_neD hr.units) (cLeast.call (hr.mono (by decide)) (pa_cons (pv 5) (pa_cons (pv 6) (pa_cons (pv 7) pa_nil)))) (pv 8) (nomark _))
          (pss_one (ps_ret pe_bl)) pss_nil))) pss_nil)
      (pss_cons (ps_set (i := 9) scLaw.nd rfl (Or.inl rfl) (cMerg.call (hr.mono (by decide)) (pa_cons (pv 4) (pa_cons (pe_lst (pa_cons (pv 6) (pa_cons (pv 7) pa_nil))) pa_nil))))
      (pss_cons (ps_if (pt_cmpR (op_neD hr.units) (cMerge.call (hr.mono (by decide)) (pa_cons (pv 5) (pa_cons (pv 8) pa_nil))) (pv 9) (nomark _))
        (pss_one (ps_ret pe_bl)) pss_nil)
      (pss_cons (ps_set (i := 10) scLaw.nd rfl (Or.inl rfl) (pe_join (pe_ifExp (pt_cmpR op_lt (pv 3) pe_int (nomark _)) (cMerg.call (hr.mono (by decide)) (pa_cons (pv 4) (pa_cons (pe_listRg (by rfl) (by rfl) T.list (prg_1 (by rfl) T.range (pv 3))) pa_nil))) (pv 9))))
      (pss_cons (ps_if (PW.pt (pw_or (pt_cmpR (op_neD hr.units) (pv 10) (pv 9) (nomark _)) (pw_or1 (pt_cmpR (op_neD hr.units) (cMrow.call (hr.mono (by decide)) (pa_cons (pv 5) pa_nil)) (pv 9) (nomark _)))))
        (pss_one (ps_ret pe_bl)) pss_nil)
      (Evl.pss_cut (ps_if (PW.pt (pw_and (pt_cmpR op_notN (pv 9) pe_non (nomark _)) (pw_and1 (pt_cmpR op_ne (pe_callB cr_lenSet (by rfl) T.len PySem.boot_len (pa_cons (pe_callTy (cr_setA (by rfl)) (by rfl) T.set (by decide +kernel) (pa_cons (cAllLed.call (hr.mono (by decide)) (pa_cons (pv 4) (pa_cons (pv 9) (pa_cons (pv 3) pa_nil)))) pa_nil)) pa_nil)) pe_int (nomark _)))))
        (pss_one (ps_ret pe_bl)) pss_nil)
      (pss_cons (ps_for PassesOwn.never rfl (pi_range1 (by rfl) T.range (pa_cons pe_int pa_nil)) (pg_name (i := 11) scLaw.nd rfl (Or.inl rfl))
        (pss_cons (ps_set (i := 12) scLaw.nd rfl (Or.inl rfl) (cCoins.call (hr.mono (by decide)) (pa_cons (pv 1) (pa_cons (pe_callB call_len_seq (by rfl) T.len PySem.boot_len (pa_cons (pv 4) pa_nil)) pa_nil))))
        (Evl.pss_cut (ps_if (PW.pt (pw_and (pt_cmpR op_notN (pv 9) pe_non (nomark _)) (pw_and1 (pt_cmpR op_eq (D.call (hr.mono (by decide)) (pa_cons (pv 1) (pa_cons pe_int pa_nil))) pe_int (nomark _)))))
          (pss_one (ps_set (i := 12) scLaw.nd rfl (Or.inl rfl) (pe_op op_catA (pe_op op_catA (pe_slice sl_tupA (pv 12) po_none (po_some pe_int)) (pe_revT (pv 9))) (pe_slice sl_tupA (pv 12) (po_some pe_int) (po_some pe_int))))) pss_nil)
        (pss_one (ps_for PassesOwn.never rfl (pi_list (pe_lst (pa_cons pe_str (pa_cons pe_str pa_nil)))) (pg_name (i := 13) scLaw.nd rfl (Or.inl rfl))
          (pss_one (ps_if (pt_not (pt_val (cIsDr.call (hr.mono (by decide)) (pa_cons (pv 5) (pa_cons (pv 4) (pa_cons (pv 8) (pa_cons (pv 6) (pa_cons (pv 7) (pa_cons (pv 12) (pa_cons (pv 13) pa_nil))))))))))
            (pss_one (ps_ret pe_bl)) pss_nil)))))))
      (pss_one (ps_ret pe_bl))))))))))))))), ?_⟩
    refine ⟨_, rfl, a, ns, rfl, hN, h63, fun p H1 hp s1 hH => ?_⟩
    refine ⟨_, rfl, p, rfl, hH, fun q wd hg cs H2 S2 hF ok => ?_⟩
    obtain ⟨L, vs, hq, hL, hA⟩ := id hF
    have vl := hA.1
    refine ⟨_, rfl, q, _, rfl, gt_heights hq, L, _, rfl, .inl (SqL.of hL), _, rfl, _, rfl, p, q, wd, hg, cs, true, rfl, S2.hand, hF, ok, fun l mws Ls H4 S4 hl hM lsok l1 l24 kept => ⟨_, _, rfl, ?_⟩⟩
    have hk := kept rfl
    rw [vl]
    obtain ⟨n1, n12⟩ := ok.many
    have nd := ok.nd
    refine ⟨_, rfl, _, rfl, _, rfl, p, l, cs.length, mws, Ls, rfl, S4.hand, SqL.of hl, hM, lsok, l1, l24, n1, n12, fun mv ms H5 S5 hMv sok eL => ?_⟩
    intro y dy hy hdy ney
    refine ⟨y, dy, cs.length, mv, ms, rfl, upd_same, hMv.same (mk_same0 hy hdy), sok, fun H6 k6 h6y => ⟨rfl, ?_⟩⟩
    have s6 : Same H5 H6 := mk_same hy hdy k6
    have hS6 : SysAt K C H6 y cs.length ms := ⟨dy, mv, h6y, hMv.same s6⟩
    have lp : l ≠ p := lst_ne S4.hand hl
    have S46 : Stp p H4 H6 := S5.post s6
    have h6 : HandAt H6 p := S46.hand
    have hl6 := S46.keep _ _ lp hl
    have hM6 : AllIn (RowAt K H6) mws Ls := hM.mono fun _ _ z => RowAt.stp S4.hand S46 z
    have hF6 : FrmAt H6 q wd hg cs := FrmAt.stp S2.hand (S4.trans S46) hF
    clear hy hdy ney k6 h6y hF hq hL hA vl hM hl hMv
    obtain ⟨L9, vs9, hq9, hL9, hA9⟩ := id hF6
    refine ⟨_, rfl, q, _, rfl, gt_heights hq9, .inl ⟨rfl, _, SqL.of hL9⟩, by show 2 ≤ sizeLine; decide, fun t ht => ?_⟩
    refine new_step ht fun H20 s20 e20 => ?_
    have w1 := ok.w1
    have h1 := ok.h1
    have pos : ∀ (j : Nat) (c : List Int), cs[j]? = some c → 0 ≤ (j : Int) ∧ (j : Int) < (cs.length : Int) := fun j c hj => by
      have := (List.getElem?_eq_some_iff.mp hj).1
      omega
    obtain ⟨lo, hlo, i1, i2, i3⟩ := index_at (c := [0, 0]) nd (ok.pm.mem_iff.mp (grid_mem.mpr ⟨0, 0, rfl, by omega, by omega, by omega, by omega⟩))
    refine ⟨L9, .ref t, tupD [0, 0], cs.map tupD, lo, tupD [0, 0], rfl, rfl, dp_rows (SqL.of (s20 _ _ hL9)) (hA9.mono fun _ _ z => (RowE.same s20 z).at_), dp_row ⟨t, rfl, SqT.of e20⟩, sh_lst _, sh_tup _, i1, i2, i3, ?_⟩
    refine ⟨_, rfl, q, _, rfl, gt_heights (s20 _ _ hq9), .inl ⟨rfl, _, SqL.of (s20 _ _ hL9)⟩, _, rfl, q, _, rfl, gt_wide (s20 _ _ hq9), _, _, rfl, rfl, _, rfl, q, _, rfl, gt_high (s20 _ _ hq9), _, _, rfl, rfl, by show 2 ≤ sizeLine; decide, fun t2 ht2 => ?_⟩
    refine new_step ht2 fun H21 s21 e21 => ?_
    have s2021 := s20.trans s21
    obtain ⟨hi, hhi, i4, i5, i6⟩ := index_at (c := [(wd : Int) - 1, (hg : Int) - 1]) nd (ok.pm.mem_iff.mp (grid_mem.mpr ⟨_, _, rfl, by omega, by omega, by omega, by omega⟩))
    refine ⟨L9, .ref t2, tupD [(wd : Int) - 1, (hg : Int) - 1], cs.map tupD, hi, tupD [(wd : Int) - 1, (hg : Int) - 1], rfl, rfl, dp_rows (SqL.of (s2021 _ _ hL9)) (hA9.mono fun _ _ z => (RowE.same s2021 z).at_), dp_row ⟨t2, rfl, SqT.of e21⟩, sh_lst _, sh_tup _, i4, i5, i6, ?_⟩
    clear i1 i2 i3 i4 i5 i6
    obtain ⟨lo0, lo1⟩ := pos lo _ hlo
    obtain ⟨hi0, hi1⟩ := pos hi _ hhi
    have lol : lo < cs.length := (List.getElem?_eq_some_iff.mp hlo).1
    have hil : hi < cs.length := (List.getElem?_eq_some_iff.mp hhi).1
    have S21 : Stp p H6 H21 := (Stp.refl h6).post s2021
    refine ⟨_, rfl, q, wd, hg, cs, rfl, FrmAt.stp h6 S21 hF6, ok, fun D acc H22 s22 hD hO22 => ?_⟩
    refine ⟨D, acc, rfl, .inl ⟨SqL.of hD, fun o ho => ?_⟩⟩
    refine new_step ho fun H23 s23 e23 => ?_
    have S23 := S21.post (s22.trans s23)
    have hO23 : AllIn (RowAt K H23) acc (ordI cs cs.length) := hO22.mono fun _ _ z => (RowE.same s23 z).at_
    have base : OrdOk cs.length (ordI cs cs.length) ∧ BrkAt Ls (ordI cs cs.length) none ∧ lowB cs.length (ordI cs cs.length) (lo : Int) = true ∧ highB cs.length (ordI cs cs.length) (hi : Int) = true := ⟨ordI_ok ok, ordI_kept ok lsok hk, lowB_of fun t ht ne => ordI_from ok hlo ht ne, highB_of fun t ht ne => ordI_upto ok hhi ht ne⟩
    refine ⟨fun σ' H' => Stp p H6 H' ∧ ∃ (o : Addr) (ws : List V) (ds : List (List Int)), SqT K H' o ws ∧ AllIn (RowAt K H') ws ds ∧ (OrdOk cs.length ds ∧ BrkAt Ls ds none ∧ lowB cs.length ds (lo : Int) = true ∧ highB cs.length ds (hi : Int) = true) ∧ σ' = [some (.ref a), some (.ref p), some (.ref q), some (.int (cs.length : Nat)), some (.ref l), some (.ref y), some (.int (lo : Int)), some (.int (hi : Int)), some (.ref o), none, none, none, none, none], ?_, ?_⟩
    · refine ⟨_, rfl, p, 2, rfl, by decide, by decide, S23.hand, fun d H7 _ _ S7 => ⟨rfl, _, rfl, ?_⟩⟩
      have S67 := S23.trans S7
      refine ite2 (fun _ => ?_) (fun _ => ⟨S67, o, acc, _, S7.sqT S23.hand (SqT.of e23), hO23.mono fun _ _ z => RowAt.stp S23.hand S7 z, base, rfl⟩)
      refine ⟨_, rfl, _, rfl, _, rfl, _, rfl, cs.length, l, mws, Ls, lo, hi, rfl, n12, SqL.of (S67.keep _ _ lp hl6), hM6.mono fun _ _ z => RowAt.stp h6 S67 z, lsok, l24, lo0, lo1, hi0, hi1, fun x r H10 s10 lr lv => ?_⟩
      have S10 := S67.post s10
      have gg : (lo : Int) ≠ (hi : Int) ∨ cs.length = 1 := by
        by_cases e : (lo : Int) = (hi : Int)
        · refine .inr ?_
          have e' : lo = hi := by omega
          rw [e', hhi] at hlo
          have z := Option.some.inj hlo
          injection z with z1 z2
          injection z2 with z2 _
          rw [ok.len, show wd = 1 by omega, show hg = 1 by omega]
        · exact .inl e
      refine ⟨_, rfl, _, rfl, _, rfl, y, cs.length, ms, lo, hi, rfl, SysAt.stp h6 S10 hS6, n12, sok.l2, sok.mv, lo0, lo1, hi0, hi1, gg, fun x' r' H11 s11 lr' lv' => ?_⟩
      rw [eL] at lr'
      obtain rfl := LeastR.one lr lr'
      have lv2 := LstV.same s11 lv
      obtain ⟨d1, z1⟩ := lst_dp lv2
      obtain ⟨d2, _⟩ := lst_dp lv'
      refine ⟨_, rfl, lstQ r, lstQ r, d2, d1, z1, z1, _, rfl, ?_⟩
      rw [eqv_same z1]
      refine iteF ?_
      obtain ⟨ds, rfl, b3, b4⟩ := least_some ok lsok hk hlo hhi lr
      obtain ⟨a1, ws1, rfl, t1, A1⟩ := lv2
      obtain ⟨ok2, kp2⟩ := least_ok lsok (fun c hc => by
        obtain ⟨a, b, e, _, i⟩ := ini_in ⟨lo0, lo1⟩ ⟨hi0, hi1⟩ c hc
        exact ⟨a, b, e, i⟩) lr
      exact ⟨S10.post s11, a1, ws1, ds, t1, A1, ⟨ok2, kp2, b3, b4⟩, rfl⟩
    clear base hO23 e23 S23 hO22 hD s22 S21 s2021 e21 e20 s20 s21 hL9 hA9 hq9
    rintro σ' H24 ⟨S24, o, ws, ds, hT, hW, ⟨oo, kp, lw, hw⟩, rfl⟩
    have el : EndAt cs.length (lowB cs.length ds) (some (lo : Int)) := end_of lol lw
    have eh : EndAt cs.length (highB cs.length ds) (some (hi : Int)) := end_of hil hw
    have h24 := S24.hand
    have lN : InN cs.length [(lo : Int), (hi : Int)] := fun z hz => by
      rcases List.mem_cons.mp hz with rfl | hz
      · omega
      · rw [List.mem_singleton.mp hz]
        omega
    have uN : InN cs.length (upto cs.length) := fun z hz => mem_upto.mp hz
    have hl24 := S24.keep _ _ lp hl6
    have hM24 : AllIn (RowAt K H24) mws Ls := hM6.mono fun _ _ z => RowAt.stp h6 S24 z
    have hS24 : SysAt K C H24 y cs.length ms := SysAt.stp h6 S24 hS6
    refine ⟨_, rfl, _, rfl, _, rfl, by show 2 ≤ sizeLine; decide, fun g hg' => ?_⟩
    refine new_step hg' fun H25 s25 e25 => ?_
    have g144 : (gridP cs.length cs.length).length ≤ 4000 := by
      rw [grid_len]
      have := Nat.mul_le_mul n12 n12
      omega
    refine ⟨l, g, cs.length, mws, Ls, [(lo : Int), (hi : Int)], gridP cs.length cs.length, rfl, SqL.of (s25 _ _ hl24), hM24.mono fun _ _ z => RowAt.same s25 z, lsok, n12, l24, SqL.of e25, lN, by show 2 ≤ 12; decide, prs_front lsok lN, g144, fun x r H26 s26 bst hx => ?_⟩
    have s2426 := s25.trans s26
    have dv := DueV.of hx
    have bst2 := FR.Best.to n12 lsok lN bst
    have bu : FR.Best Ls (upto cs.length) r := best_cong (fun p hp => by rw [FR.rch_go, FR.rch_go]; exact ends_one ok lsok hk hlo hhi hp) bst
    have bu2 : Best Ls (upto cs.length) r := by
      have z := FR.Best.to n12 lsok uN bu
      rw [lot_id n12 uN (upto_asc _)] at z
      exact z
    refine ⟨_, rfl, _, rfl, y, o, cs.length, ms, ws, ds, lo, hi, rfl, hS24.same s2426, n12, sok.l2, sok.mv, s2426.sqT hT, hW.mono fun _ _ z => RowAt.same s2426 z, oo, by rw [eL]; exact kp, el, eh, fun x2 r2 H27 s27 b2 hx2 => ?_⟩
    rw [eL] at b2
    obtain rfl := Best.one b2 bst2
    have s2427 := s2426.trans s27
    have dv27 := DueV.same s27 dv
    refine ⟨_, rfl, _, _, (DueV.of hx2).dp, dv27.dp, due_sh _, due_sh _, _, rfl, ?_⟩
    rw [eqv_same (due_sh _)]
    refine iteF ?_
    have rg : RgOk 0 (cs.length : Int) := RgOk.of_le (by decide) (by omega) (by decide) (by omega)
    refine ⟨fun x H' => Same H27 H' ∧ DueV K H' x r2, fun Q' hQ => ?_, ?_⟩
    · refine ⟨_, rfl, _, _, rfl, rfl, _, rfl, ite2 (fun c7 => ?_) (fun _ => ⟨_, rfl, hQ _ _ ⟨Same.refl _, dv27⟩⟩)⟩
      have c7 := of_decide_eq_true c7
      refine ⟨_, rfl, _, rfl, (cs.length : Int), rfl, rg, fun q2 hq2 => ?_⟩
      refine new_step hq2 fun H28 s28 e28 => ?_
      rw [rgV_up] at e28
      have s2428 := s2427.trans s28
      refine ⟨l, q2, cs.length, mws, Ls, upto cs.length, monU wd hg cs, rfl, SqL.of (s2428 _ _ hl24), hM24.mono fun _ _ z => RowAt.same s2428 z, lsok, n12, l24, SqL.of e28, uN, by rw [upto_len]; exact n12, front_mem ok lsok hk, monU_len ok (by omega), fun x3 r3 H29 s29 b3 hx3 => ?_⟩
      obtain rfl := FR.Best.one b3 bu
      exact hQ _ _ ⟨s28.trans s29, DueV.of hx3⟩
    rintro x3 H29 ⟨s29, dv3⟩
    have s2429 := s2427.trans s29
    refine ⟨_, rfl, _, rfl, _, _, dv3.dp, (DueV.same s29 dv27).dp, due_sh _, due_sh _, _, rfl, ?_⟩
    rw [eqv_same (due_sh _)]
    refine iteF ?_
    refine ⟨_, rfl, y, cs.length, ms, rfl, hS24.same s2429, n12, sok.l2, sok.mv, fun x4 r4 H30 s30 pr hx4 => ?_⟩
    have b4 := pr.best
    rw [eL] at b4
    obtain rfl := Best.one b4 bu2
    have dv30 := DueV.same (s29.trans s30) dv27
    refine ⟨_, rfl, _, _, (DueV.of hx4).dp, dv30.dp, due_sh _, due_sh _, _, rfl, ?_⟩
    rw [eqv_same (due_sh _)]
    refine iteF ?_
    have s2430 := s2429.trans s30
    have llm : ms.length = Ls.length := by rw [← eL]; exact (List.length_map ..).symm
    have lml : mws.length = Ls.length := hM6.1
    have two : InN cs.length [(lo : Int), (hi : Int)] := lN
    refine ⟨fun σ' H' => Same H30 H' ∧ σ' = [some (.ref a), some (.ref p), some (.ref q), some (.int (cs.length : Nat)), some (.ref l), some (.ref y), some (.int (lo : Int)), some (.int (hi : Int)), some (.ref o), some x, some x3, none, none, none], ?_, ?_⟩
    · cases r4 with
      | none =>
        obtain rfl : x = .non := dv30
        exact ⟨_, rfl, rfl, _, rfl, iteF (iteF ⟨Same.refl _, rfl⟩)⟩
      | some row =>
        obtain ⟨da, rfl, hda⟩ := id dv30
        refine ⟨_, rfl, rfl, _, rfl, iteT ?_⟩
        refine ⟨_, rfl, _, rfl, _, rfl, l, da, cs.length, mws, Ls, row, rfl, SqL.of (s2430 _ _ hl24), hM24.mono fun _ _ z => RowAt.same s2430 z, lsok, n12, hda, bst.1, fun D H31 s31 hD => ?_⟩
        have fN : InN cs.length ((upto cs.length).map (goS Ls row)) := mapN lsok bst.1 uN
        refine ⟨D, _, rfl, .inl (SqL.of hD), by rw [List.length_map, upto_len]; omega, fun q2 c hq2 hc2 => ?_⟩
        refine new_step hq2 fun H32 s32 e32 => ?_
        refine ⟨q2, _, c, rfl, e32, fun ⟨ms2, nd2, hl2, hm2⟩ => ?_⟩
        have e1 : c = (lotF ((upto cs.length).map (goS Ls row))).length := by
          rw [← hl2]
          exact lot_len (fN.in12 n12) nd2 fun z => by rw [← hm2 z, decide_eq_true_iff]
        have e2 : c = 1 := by
          rw [e1, ← FR.rch_go]
          exact bu.2.1
        refine ⟨rfl, _, rfl, ?_⟩
        rw [dec_len1, decide_eq_true e2]
        exact iteF ⟨s31.trans s32, rfl⟩
    rintro σ' H33 ⟨s33, rfl⟩
    have S33 : Stp p H6 H33 := S24.post (s2430.trans s33)
    have dv33 := DueV.same s33 dv30
    have h33 := S33.hand
    refine ⟨_, rfl, by decide, by decide, ?_⟩
    refine for_range (lo := 0) (n := 3) (fun i σ H' => Stp p H33 H' ∧ ∃ u11 u12 u13 : Option V, σ = [some (.ref a), some (.ref p), some (.ref q), some (.int (cs.length : Nat)), some (.ref l), some (.ref y), some (.int (lo : Int)), some (.int (hi : Int)), some (.ref o), some x, some x3, u11, u12, u13]) ⟨Stp.refl h33, none, none, none, rfl⟩ ?_ ?_
    · rintro i σ H34 hi34 ⟨S34, u11, u12, u13, rfl⟩
      have S634 := S33.trans S34
      refine ⟨_, rfl, _, rfl, l, _, rfl, .inl (SqL.of (S634.keep _ _ lp hl6)), p, mws.length, rfl, S634.hand, by omega, by omega, fun c row1 H35 S35 hc rok c400 => ?_⟩
      have S3335 := S34.trans S35
      refine ⟨fun σ' H' => Stp p H33 H' ∧ ∃ (c : Addr) (row : List Int), SqT K H' c (row.map V.int) ∧ RwOk Ls.length row ∧ row.length ≤ 400 ∧ σ' = [some (.ref a), some (.ref p), some (.ref q), some (.int (cs.length : Nat)), some (.ref l), some (.ref y), some (.int (lo : Int)), some (.int (hi : Int)), some (.ref o), some x, some x3, some (.int ((0 : Int) + (i : Nat))), some (.ref c), u13], ?_, ?_⟩
      · cases r4 with
        | none =>
          obtain rfl : x = .non := dv33
          exact ⟨_, rfl, rfl, _, rfl, iteF (iteF ⟨S3335, c, row1, hc, by rw [← lml]; exact rok, c400, rfl⟩)⟩
        | some due =>
          obtain ⟨da, rfl, hda⟩ := id dv33
          refine ⟨_, rfl, rfl, _, rfl, iteT ?_⟩
          refine ⟨_, rfl, p, 3, rfl, by decide, by decide, S3335.hand, fun d H36 _ _ S36 => ⟨rfl, _, rfl, ?_⟩⟩
          have S3336 := S3335.trans S36
          have hc36 := S36.sqT S3335.hand hc
          refine ite2 (fun _ => ?_) (fun _ => ⟨S3336, c, row1, hc36, by rw [← lml]; exact rok, c400, rfl⟩)
          have hda36 := S3336.sqT h33 hda
          have dl := due_len n12 lsok lN bst
          obtain ⟨k1, ke1, kl1, km1⟩ := cut_ints row1 none (some 9)
          obtain ⟨k2, ke2, kl2, km2⟩ := cut_ints row1 (some 9) (some 20)
          have q1 : HT.sIx row1.length row1.length (some (9 : Int)) = min 9 row1.length := HT.sIx_nat _ _ 9
          have q2 : HT.sIx row1.length 0 (some (9 : Int)) = min 9 row1.length := HT.sIx_nat _ _ 9
          have q3 : HT.sIx row1.length row1.length (some (20 : Int)) = min 20 row1.length := HT.sIx_nat _ _ 20
          rw [q1] at kl1
          rw [q2, q3] at kl2
          refine ⟨_, rfl, ?_⟩
          unfold tNoPart
          refine ⟨(9 : Int), rfl, slAny hc36 fun pa H37 s37 e37 => ?_⟩
          rw [ke1] at e37
          refine ⟨_, rfl, da, _, rfl, s37.sqT hda36, fun r hr' => ?_⟩
          refine new_step hr' fun H38 s38 e38 => ?_
          rw [← List.map_reverse] at e38
          refine catAny (s38.sqT e37) (SqT.of e38) (by rw [List.length_map, List.length_map, List.length_reverse, sizeLine_eq]; omega) fun pb H39 s39 e39 => ?_
          rw [← List.map_append] at e39
          have s3639 := s37.trans (s38.trans s39)
          refine ⟨_, rfl, (9 : Int), rfl, (20 : Int), rfl, slAny (s3639.sqT hc36) fun pc H40 s40 e40 => ?_⟩
          rw [ke2] at e40
          refine catAny (s40.sqT e39) e40 (by rw [List.length_map, List.length_map, List.length_append, List.length_reverse, sizeLine_eq]; omega) fun pd H41 s41 e41 => ?_
          rw [← List.map_append] at e41
          refine ⟨S3336.post (s3639.trans (s40.trans s41)), pd, _, e41, fun z hz => ?_, by rw [List.length_append, List.length_append, List.length_reverse]; omega, rfl⟩
          rw [lml] at rok
          rcases List.mem_append.mp hz with hz | hz
          · rcases List.mem_append.mp hz with hz | hz
            · exact rok z (km1 z hz)
            · exact bst.1 z (List.mem_reverse.mp hz)
          · exact rok z (km2 z hz)
      · rintro σ' H36 ⟨S36, c2, row, hc2, rok2, c2400, rfl⟩
        refine ⟨by show 2 ≤ sizeLine; decide, fun pl hpl => ?_⟩
        refine new_step hpl fun H37 s37 e37 => ?_
        have S3337 := S36.post s37
        refine ⟨pl, rfl, ⟨_, SqL.of e37⟩, ?_⟩
        refine for_list (K := K) (a := pl) (xs := plW) (fun j σ H' => Same H37 H' ∧ ∃ u13 : Option V, σ = [some (.ref a), some (.ref p), some (.ref q), some (.int (cs.length : Nat)), some (.ref l), some (.ref y), some (.int (lo : Int)), some (.int (hi : Int)), some (.ref o), some x, some x3, some (.int ((0 : Int) + (i : Nat))), some (.ref c2), u13]) ⟨Same.refl _, u13, rfl⟩ (fun j σ H' _ h => SqL.of (h.1 _ _ e37)) ?_ ?_
        · rintro j x' σ H38 hj ⟨s38, u13, rfl⟩
          obtain rfl := plW_at hj
          have S638 := S33.trans (S3337.post s38)
          have S2438 : Stp p H24 H38 := (((Stp.refl h24).post (s2430.trans s33)).trans S3337).post s38
          refine ⟨_, rfl, _, rfl, _, rfl, _, rfl, _, rfl, _, rfl, _, rfl, y, l, o, c2, lo, hi, decide (j = 0), cs.length, ms, mws, ws, ds, row, rfl, SysAt.stp h6 S638 hS6, sok, SqL.of (S638.keep _ _ lp hl6), by rw [eL]; exact hM6.mono fun _ _ z => RowAt.stp h6 S638 z, S2438.sqT h24 hT, hW.mono fun _ _ z => RowAt.stp h24 S2438 z, oo, by rw [eL]; exact kp, el, eh, (s37.trans s38).sqT hc2, by rw [llm]; exact rok2, c2400, fun kk => by rw [eL]; exact ends_drawn ok lsok hk hlo hhi rok2 kk, fun H39 s39 => ⟨_, rfl, iteF ⟨s38.trans s39, _, rfl⟩⟩⟩
        · rintro σ H38 ⟨s38, u13, rfl⟩
          exact ⟨S3337.post s38, _, _, _, rfl⟩
    · rintro σ H34 ⟨S34, u11, u12, u13, rfl⟩
      exact k H34
end
end Law

set_option maxHeartbeats 0
namespace Law
open PySem PySem.Spec PyProof.Rows L2
theorem ba3 {a b : Bool} (h : (a && b) = true) : a = true ∧ b = true := Bool.and_eq_true_iff.mp h
theorem optT_ok {o : Option Bool} (h : optT o = true) : o = some true := by
  cases o with
  | none => cases h
  | some b =>
    cases b with
    | true => rfl
    | false => cases h
section
variable {P : Program} {w : World} {K : PySem.W.Frag} {h : Heap} {mg : Str → Option Value} {base : Heap}
theorem facts {f : Addr} (tr : P.given.tree = none) (X : K.In h) (G : h.Ns mainGlobals mg) (hfa : mg ("law" : Str) = some (.ref f)) (c : He.SaysD fas fns K) (e : exK K = true) :
    ∃ fd : FuncData, (∀ (s : Shared) (v : Value), BindsTo s fd ⟨[v], []⟩ [("_law_script", v)]) ∧ ∀ base : Heap, K.In base → base.Ns mainGlobals mg → FnOk P w K mg base CX0 11 f fd ["_law_script"] (spLaw K) := by
  have eL := hfa.symm.trans (He.glo_ok X G (c.fact 58 (f := .glo "law") rfl))
  cases eL
  obtain ⟨e1, e5⟩ := ba3 e
  obtain ⟨x1, x2⟩ := ba3 e5
  obtain ⟨x2, x3⟩ := ba3 x2
  obtain ⟨x3, x4⟩ := ba3 x3
  obtain ⟨y1, y2⟩ := ba3 e1
  have T : NmA mg := ⟨He.free_ok X G (c.fact 60 (f := .free "abs") rfl), He.free_ok X G (c.fact 61 (f := .free "all") rfl), He.free_ok X G (c.fact 62 (f := .free "any") rfl), He.free_ok X G (c.fact 63 (f := .free "bool") rfl), He.free_ok X G (c.fact 64 (f := .free "enumerate") rfl), He.free_ok X G (c.fact 65 (f := .free "int") rfl), He.free_ok X G (c.fact 66 (f := .free "isinstance") rfl), He.free_ok X G (c.fact 67 (f := .free "len") rfl), He.free_ok X G (c.fact 68 (f := .free "list") rfl), He.free_ok X G (c.fact 69 (f := .free "max") rfl), He.free_ok X G (c.fact 70 (f := .free "min") rfl), He.free_ok X G (c.fact 71 (f := .free "range") rfl), He.free_ok X G (c.fact 72 (f := .free "set") rfl), He.free_ok X G (c.fact 73 (f := .free "sorted") rfl), He.free_ok X G (c.fact 74 (f := .free "str") rfl), He.free_ok X G (c.fact 75 (f := .free "sum") rfl), He.free_ok X G (c.fact 76 (f := .free "tuple") rfl), He.free_ok X G (c.fact 77 (f := .free "zip") rfl), PySem.W.mg_of X G (He.eqO_ok y1), PySem.W.mg_of X G (He.eqO_ok y2)⟩
  have Y : SysT K mg (He.ga K "System") := ⟨He.cls_ok (c.fact 78 (f := .cls "System") rfl), He.noat_ok (c.fact 79 (f := .noat "System" "many") rfl), He.noat_ok (c.fact 80 (f := .noat "System" "moves") rfl), He.glo_ok X G (c.fact 19 (f := .glo "System") rfl), He.eqO_ok x1, He.eqO_ok x2, optT_ok x3, optT_ok x4⟩
  obtain ⟨fd_law, F_law⟩ := c.def_ 58 rfl
  have FD_law := F_law
  have F_law := funD_fun (st := s_law) F_law
  have B_law := F_law.binds (ps := ["_law_script"]) fun _ _ _ _ _ _ us hl => match us, hl with | [_], _ => rfl
  have M_law := He.glo_ok X G (c.fact 58 (f := .glo "law") rfl)
  obtain ⟨fd__law_hand, F__law_hand⟩ := c.def_ 38 rfl
  have FD__law_hand := F__law_hand
  have F__law_hand := funD_fun (st := s_law_hand) F__law_hand
  have B__law_hand := F__law_hand.binds (ps := ["_law_script"]) fun _ _ _ _ _ _ us hl => match us, hl with | [_], _ => rfl
  have M__law_hand := He.glo_ok X G (c.fact 38 (f := .glo "_law_hand") rfl)
  obtain ⟨fd__law_frame, F__law_frame⟩ := c.def_ 47 rfl
  have FD__law_frame := F__law_frame
  have F__law_frame := funD_fun (st := s_law_frame) F__law_frame
  have B__law_frame := F__law_frame.binds (ps := ["_law_hand_here"]) fun _ _ _ _ _ _ us hl => match us, hl with | [_], _ => rfl
  have M__law_frame := He.glo_ok X G (c.fact 47 (f := .glo "_law_frame") rfl)
  obtain ⟨fd__law_any, F__law_any⟩ := c.def_ 40 rfl
  have FD__law_any := F__law_any
  have F__law_any := funD_fun (st := s_law_any) F__law_any
  have B__law_any := F__law_any.binds (ps := ["_law_hand_here", "_law_things"]) fun _ _ _ _ _ _ us hl => match us, hl with | [_, _], _ => rfl
  have M__law_any := He.glo_ok X G (c.fact 40 (f := .glo "_law_any") rfl)
  obtain ⟨fd__law_draw, F__law_draw⟩ := c.def_ 39 rfl
  have FD__law_draw := F__law_draw
  have F__law_draw := funD_fun (st := s_law_draw) F__law_draw
  have B__law_draw := F__law_draw.binds (ps := ["_law_hand_here", "_law_many"]) fun _ _ _ _ _ _ us hl => match us, hl with | [_, _], _ => rfl
  have M__law_draw := He.glo_ok X G (c.fact 39 (f := .glo "_law_draw") rfl)
  obtain ⟨fd__law_shuffled, F__law_shuffled⟩ := c.def_ 44 rfl
  have FD__law_shuffled := F__law_shuffled
  have F__law_shuffled := funD_fun (st := s_law_shuffled) F__law_shuffled
  have B__law_shuffled := F__law_shuffled.binds (ps := ["_law_hand_here", "_law_things"]) fun _ _ _ _ _ _ us hl => match us, hl with | [_, _], _ => rfl
  have M__law_shuffled := He.glo_ok X G (c.fact 44 (f := .glo "_law_shuffled") rfl)
  obtain ⟨fd__law_maps, F__law_maps⟩ := c.def_ 50 rfl
  have FD__law_maps := F__law_maps
  have F__law_maps := funD_fun (st := s_law_maps) F__law_maps
  have B__law_maps := F__law_maps.binds (ps := ["_law_hand_here", "_law_frame_here", "_law_is_kept"]) fun _ _ _ _ _ _ us hl => match us, hl with | [_, _, _], _ => rfl
  have M__law_maps := He.glo_ok X G (c.fact 50 (f := .glo "_law_maps") rfl)
  obtain ⟨fd__law_any_map, F__law_any_map⟩ := c.def_ 49 rfl
  have FD__law_any_map := F__law_any_map
  have F__law_any_map := funD_fun (st := s_law_any_map) F__law_any_map
  have B__law_any_map := F__law_any_map.binds (ps := ["_law_hand_here", "_law_many"]) fun _ _ _ _ _ _ us hl => match us, hl with | [_, _], _ => rfl
  have M__law_any_map := He.glo_ok X G (c.fact 49 (f := .glo "_law_any_map") rfl)
  obtain ⟨fd__law_kept_map, F__law_kept_map⟩ := c.def_ 48 rfl
  have FD__law_kept_map := F__law_kept_map
  have F__law_kept_map := funD_fun (st := s_law_kept_map) F__law_kept_map
  have B__law_kept_map := F__law_kept_map.binds (ps := ["_law_hand_here", "_law_frame_here"]) fun _ _ _ _ _ _ us hl => match us, hl with | [_, _], _ => rfl
  have M__law_kept_map := He.glo_ok X G (c.fact 48 (f := .glo "_law_kept_map") rfl)
  obtain ⟨fd_System___init__, F_System___init__⟩ := c.def_ 18 rfl
  have FD_System___init__ := F_System___init__
  have F_System___init__ := funD_fun (st := s_System_init) F_System___init__
  have B_System___init__ := F_System___init__.binds (ps := ["self", "many", "moves"]) fun _ _ _ _ _ _ us hl => match us, hl with | [_, _, _], _ => rfl
  obtain ⟨fd_is_within, F_is_within⟩ := c.def_ 1 rfl
  have FD_is_within := F_is_within
  have F_is_within := funD_fun (st := s_is_within) F_is_within
  have B_is_within := F_is_within.binds (ps := ["low", "high", "thing"]) fun _ _ _ _ _ _ us hl => match us, hl with | [_, _, _], _ => rfl
  have M_is_within := He.glo_ok X G (c.fact 1 (f := .glo "is_within") rfl)
  obtain ⟨fd_is_integer, F_is_integer⟩ := c.def_ 0 rfl
  have FD_is_integer := F_is_integer
  have F_is_integer := funD_fun (st := s_is_integer) F_is_integer
  have B_is_integer := F_is_integer.binds (ps := ["thing"]) fun _ _ _ _ _ _ us hl => match us, hl with | [_], _ => rfl
  have M_is_integer := He.glo_ok X G (c.fact 0 (f := .glo "is_integer") rfl)
  obtain ⟨fd_is_move, F_is_move⟩ := c.def_ 20 rfl
  have FD_is_move := F_is_move
  have F_is_move := funD_fun (st := s_is_move) F_is_move
  have B_is_move := F_is_move.binds (ps := ["many", "thing"]) fun _ _ _ _ _ _ us hl => match us, hl with | [_, _], _ => rfl
  have M_is_move := He.glo_ok X G (c.fact 20 (f := .glo "is_move") rfl)
  obtain ⟨fd_is_fraction, F_is_fraction⟩ := c.def_ 7 rfl
  have FD_is_fraction := F_is_fraction
  have F_is_fraction := funD_fun (st := s_is_fraction) F_is_fraction
  have B_is_fraction := F_is_fraction.binds (ps := ["thing"]) fun _ _ _ _ _ _ us hl => match us, hl with | [_], _ => rfl
  have M_is_fraction := He.glo_ok X G (c.fact 7 (f := .glo "is_fraction") rfl)
  obtain ⟨fd_is_row_below, F_is_row_below⟩ := c.def_ 2 rfl
  have FD_is_row_below := F_is_row_below
  have F_is_row_below := funD_fun (st := s_is_row_below) F_is_row_below
  have B_is_row_below := F_is_row_below.binds (ps := ["bound", "thing"]) fun _ _ _ _ _ _ us hl => match us, hl with | [_, _], _ => rfl
  have M_is_row_below := He.glo_ok X G (c.fact 2 (f := .glo "is_row_below") rfl)
  obtain ⟨fd_are_one_together, F_are_one_together⟩ := c.def_ 10 rfl
  have FD_are_one_together := F_are_one_together
  have F_are_one_together := funD_fun (st := s_are_one_together) F_are_one_together
  have B_are_one_together := F_are_one_together.binds (ps := ["fractions"]) fun _ _ _ _ _ _ us hl => match us, hl with | [_], _ => rfl
  have M_are_one_together := He.glo_ok X G (c.fact 10 (f := .glo "are_one_together") rfl)
  obtain ⟨fd_common_bottom, F_common_bottom⟩ := c.def_ 8 rfl
  have FD_common_bottom := F_common_bottom
  have F_common_bottom := funD_fun (st := s_common_bottom) F_common_bottom
  have B_common_bottom := F_common_bottom.binds (ps := ["fractions"]) fun _ _ _ _ _ _ us hl => match us, hl with | [_], _ => rfl
  have M_common_bottom := He.glo_ok X G (c.fact 8 (f := .glo "common_bottom") rfl)
  obtain ⟨fd_tops_over, F_tops_over⟩ := c.def_ 9 rfl
  have FD_tops_over := F_tops_over
  have F_tops_over := funD_fun (st := s_tops_over) F_tops_over
  have B_tops_over := F_tops_over.binds (ps := ["fractions", "bottom"]) fun _ _ _ _ _ _ us hl => match us, hl with | [_, _], _ => rfl
  have M_tops_over := He.glo_ok X G (c.fact 9 (f := .glo "tops_over") rfl)
  obtain ⟨fd__law_moves, F__law_moves⟩ := c.def_ 43 rfl
  have FD__law_moves := F__law_moves
  have F__law_moves := funD_fun (st := s_law_moves) F__law_moves
  have B__law_moves := F__law_moves.binds (ps := ["_law_hand_here", "_law_maps_here"]) fun _ _ _ _ _ _ us hl => match us, hl with | [_, _], _ => rfl
  have M__law_moves := He.glo_ok X G (c.fact 43 (f := .glo "_law_moves") rfl)
  obtain ⟨fd__law_weights, F__law_weights⟩ := c.def_ 42 rfl
  have FD__law_weights := F__law_weights
  have F__law_weights := funD_fun (st := s_law_weights) F__law_weights
  have B__law_weights := F__law_weights.binds (ps := ["_law_hand_here", "_law_many"]) fun _ _ _ _ _ _ us hl => match us, hl with | [_, _], _ => rfl
  have M__law_weights := He.glo_ok X G (c.fact 42 (f := .glo "_law_weights") rfl)
  obtain ⟨fd__law_low, F__law_low⟩ := c.def_ 41 rfl
  have FD__law_low := F__law_low
  have F__law_low := funD_fun (st := s_law_low) F__law_low
  have B__law_low := F__law_low.binds (ps := ["_law_top", "_law_bottom"]) fun _ _ _ _ _ _ us hl => match us, hl with | [_, _], _ => rfl
  have M__law_low := He.glo_ok X G (c.fact 41 (f := .glo "_law_low") rfl)
  obtain ⟨fd__law_order_of, F__law_order_of⟩ := c.def_ 46 rfl
  have FD__law_order_of := F__law_order_of
  have F__law_order_of := funD_fun (st := s_law_order_of) F__law_order_of
  have B__law_order_of := F__law_order_of.binds (ps := ["_law_frame_here"]) fun _ _ _ _ _ _ us hl => match us, hl with | [_], _ => rfl
  have M__law_order_of := He.glo_ok X G (c.fact 46 (f := .glo "_law_order_of") rfl)
  obtain ⟨fd__law_least_order, F__law_least_order⟩ := c.def_ 51 rfl
  have FD__law_least_order := F__law_least_order
  have F__law_least_order := funD_fun (st := s_law_least_order) F__law_least_order
  have B__law_least_order := F__law_least_order.binds (ps := ["_law_many", "_law_maps_here", "_law_low_here", "_law_high"]) fun _ _ _ _ _ _ us hl => match us, hl with | [_, _, _, _], _ => rfl
  have M__law_least_order := He.glo_ok X G (c.fact 51 (f := .glo "_law_least_order") rfl)
  obtain ⟨fd__law_closed, F__law_closed⟩ := c.def_ 45 rfl
  have FD__law_closed := F__law_closed
  have F__law_closed := funD_fun (st := s_law_closed) F__law_closed
  have B__law_closed := F__law_closed.binds (ps := ["_law_many", "_law_pairs"]) fun _ _ _ _ _ _ us hl => match us, hl with | [_, _], _ => rfl
  have M__law_closed := He.glo_ok X G (c.fact 45 (f := .glo "_law_closed") rfl)
  obtain ⟨fd_least_order, F_least_order⟩ := c.def_ 34 rfl
  have FD_least_order := F_least_order
  have F_least_order := funD_fun (st := s_least_order) F_least_order
  have B_least_order := F_least_order.binds (ps := ["system", "low", "high"]) fun _ _ _ _ _ _ us hl => match us, hl with | [_, _, _], _ => rfl
  have M_least_order := He.glo_ok X G (c.fact 34 (f := .glo "least_order") rfl)
  obtain ⟨fd__law_merging, F__law_merging⟩ := c.def_ 55 rfl
  have FD__law_merging := F__law_merging
  have F__law_merging := funD_fun (st := s_law_merging) F__law_merging
  have B__law_merging := F__law_merging.binds (ps := ["_law_maps_here", "_law_states"]) fun _ _ _ _ _ _ us hl => match us, hl with | [_, _], _ => rfl
  have M__law_merging := He.glo_ok X G (c.fact 55 (f := .glo "_law_merging") rfl)
  obtain ⟨fd_merging_by_ends, F_merging_by_ends⟩ := c.def_ 36 rfl
  have FD_merging_by_ends := F_merging_by_ends
  have F_merging_by_ends := funD_fun (st := s_merging_by_ends) F_merging_by_ends
  have B_merging_by_ends := F_merging_by_ends.binds (ps := ["system", "order"]) fun _ _ _ _ _ _ us hl => match us, hl with | [_, _], _ => rfl
  have M_merging_by_ends := He.glo_ok X G (c.fact 36 (f := .glo "merging_by_ends") rfl)
  obtain ⟨fd_least_row_to_one, F_least_row_to_one⟩ := c.def_ 28 rfl
  have FD_least_row_to_one := F_least_row_to_one
  have F_least_row_to_one := funD_fun (st := s_least_row_to_one) F_least_row_to_one
  have B_least_row_to_one := F_least_row_to_one.binds (ps := ["system", "start"]) fun _ _ _ _ _ _ us hl => match us, hl with | [_, _], _ => rfl
  have M_least_row_to_one := He.glo_ok X G (c.fact 28 (f := .glo "least_row_to_one") rfl)
  obtain ⟨fd_lot_led, F_lot_led⟩ := c.def_ 27 rfl
  have FD_lot_led := F_lot_led
  have F_lot_led := funD_fun (st := s_lot_led) F_lot_led
  have B_lot_led := F_lot_led.binds (ps := ["leads", "lot"]) fun _ _ _ _ _ _ us hl => match us, hl with | [_, _], _ => rfl
  have M_lot_led := He.glo_ok X G (c.fact 27 (f := .glo "lot_led") rfl)
  obtain ⟨fd_lot_of, F_lot_of⟩ := c.def_ 6 rfl
  have FD_lot_of := F_lot_of
  have F_lot_of := funD_fun (st := s_lot_of) F_lot_of
  have B_lot_of := F_lot_of.binds (ps := ["things"]) fun _ _ _ _ _ _ us hl => match us, hl with | [_], _ => rfl
  have M_lot_of := He.glo_ok X G (c.fact 6 (f := .glo "lot_of") rfl)
  obtain ⟨fd_ends_kept, F_ends_kept⟩ := c.def_ 35 rfl
  have FD_ends_kept := F_ends_kept
  have F_ends_kept := funD_fun (st := s_ends_kept) F_ends_kept
  have B_ends_kept := F_ends_kept.binds (ps := ["system", "order"]) fun _ _ _ _ _ _ us hl => match us, hl with | [_, _], _ => rfl
  have M_ends_kept := He.glo_ok X G (c.fact 35 (f := .glo "ends_kept") rfl)
  obtain ⟨fd_breaking, F_breaking⟩ := c.def_ 32 rfl
  have FD_breaking := F_breaking
  have F_breaking := funD_fun (st := s_breaking) F_breaking
  have B_breaking := F_breaking.binds (ps := ["system", "order"]) fun _ _ _ _ _ _ us hl => match us, hl with | [_, _], _ => rfl
  have M_breaking := He.glo_ok X G (c.fact 32 (f := .glo "breaking") rfl)
  obtain ⟨fd_is_order, F_is_order⟩ := c.def_ 31 rfl
  have FD_is_order := F_is_order
  have F_is_order := funD_fun (st := s_is_order) F_is_order
  have B_is_order := F_is_order.binds (ps := ["system", "thing"]) fun _ _ _ _ _ _ us hl => match us, hl with | [_, _], _ => rfl
  have M_is_order := He.glo_ok X G (c.fact 31 (f := .glo "is_order") rfl)
  obtain ⟨fd_is_lot_of_pairs, F_is_lot_of_pairs⟩ := c.def_ 5 rfl
  have FD_is_lot_of_pairs := F_is_lot_of_pairs
  have F_is_lot_of_pairs := funD_fun (st := s_is_lot_of_pairs) F_is_lot_of_pairs
  have B_is_lot_of_pairs := F_is_lot_of_pairs.binds (ps := ["bound", "thing"]) fun _ _ _ _ _ _ us hl => match us, hl with | [_, _], _ => rfl
  have M_is_lot_of_pairs := He.glo_ok X G (c.fact 5 (f := .glo "is_lot_of_pairs") rfl)
  obtain ⟨fd_is_pair_below, F_is_pair_below⟩ := c.def_ 3 rfl
  have FD_is_pair_below := F_is_pair_below
  have F_is_pair_below := funD_fun (st := s_is_pair_below) F_is_pair_below
  have B_is_pair_below := F_is_pair_below.binds (ps := ["bound", "thing"]) fun _ _ _ _ _ _ us hl => match us, hl with | [_, _], _ => rfl
  have M_is_pair_below := He.glo_ok X G (c.fact 3 (f := .glo "is_pair_below") rfl)
  obtain ⟨fd_is_ascending, F_is_ascending⟩ := c.def_ 4 rfl
  have FD_is_ascending := F_is_ascending
  have F_is_ascending := funD_fun (st := s_is_ascending) F_is_ascending
  have B_is_ascending := F_is_ascending.binds (ps := ["things"]) fun _ _ _ _ _ _ us hl => match us, hl with | [_], _ => rfl
  have M_is_ascending := He.glo_ok X G (c.fact 4 (f := .glo "is_ascending") rfl)
  obtain ⟨fd_joined, F_joined⟩ := c.def_ 30 rfl
  have FD_joined := F_joined
  have F_joined := funD_fun (st := s_joined) F_joined
  have B_joined := F_joined.binds (ps := ["pairs"]) fun _ _ _ _ _ _ us hl => match us, hl with | [_], _ => rfl
  have M_joined := He.glo_ok X G (c.fact 30 (f := .glo "joined") rfl)
  obtain ⟨fd_ends, F_ends⟩ := c.def_ 33 rfl
  have FD_ends := F_ends
  have F_ends := funD_fun (st := s_ends) F_ends
  have B_ends := F_ends.binds (ps := ["system", "order"]) fun _ _ _ _ _ _ us hl => match us, hl with | [_, _], _ => rfl
  have M_ends := He.glo_ok X G (c.fact 33 (f := .glo "ends") rfl)
  obtain ⟨fd_merging_row, F_merging_row⟩ := c.def_ 29 rfl
  have FD_merging_row := F_merging_row
  have F_merging_row := funD_fun (st := s_merging_row) F_merging_row
  have B_merging_row := F_merging_row.binds (ps := ["system"]) fun _ _ _ _ _ _ us hl => match us, hl with | [_], _ => rfl
  have M_merging_row := He.glo_ok X G (c.fact 29 (f := .glo "merging_row") rfl)
  obtain ⟨fd__law_all_led, F__law_all_led⟩ := c.def_ 52 rfl
  have FD__law_all_led := F__law_all_led
  have F__law_all_led := funD_fun (st := s_law_all_led) F__law_all_led
  have B__law_all_led := F__law_all_led.binds (ps := ["_law_maps_here", "_law_row", "_law_many"]) fun _ _ _ _ _ _ us hl => match us, hl with | [_, _, _], _ => rfl
  have M__law_all_led := He.glo_ok X G (c.fact 52 (f := .glo "_law_all_led") rfl)
  obtain ⟨fd__law_coins, F__law_coins⟩ := c.def_ 56 rfl
  have FD__law_coins := F__law_coins
  have F__law_coins := funD_fun (st := s_law_coins) F__law_coins
  have B__law_coins := F__law_coins.binds (ps := ["_law_hand_here", "_law_moves_here"]) fun _ _ _ _ _ _ us hl => match us, hl with | [_, _], _ => rfl
  have M__law_coins := He.glo_ok X G (c.fact 56 (f := .glo "_law_coins") rfl)
  obtain ⟨fd__law_is_drawn_right, F__law_is_drawn_right⟩ := c.def_ 57 rfl
  have FD__law_is_drawn_right := F__law_is_drawn_right
  have F__law_is_drawn_right := funD_fun (st := s_law_is_drawn_right) F__law_is_drawn_right
  have B__law_is_drawn_right := F__law_is_drawn_right.binds (ps := ["_law_system", "_law_maps_here", "_law_order", "_law_low_here", "_law_high", "_law_coins_here", "_law_plan"]) fun _ _ _ _ _ _ us hl => match us, hl with | [_, _, _, _, _, _, _], _ => rfl
  have M__law_is_drawn_right := He.glo_ok X G (c.fact 57 (f := .glo "_law_is_drawn_right") rfl)
  obtain ⟨fd__law_drawn_by, F__law_drawn_by⟩ := c.def_ 54 rfl
  have FD__law_drawn_by := F__law_drawn_by
  have F__law_drawn_by := funD_fun (st := s_law_drawn_by) F__law_drawn_by
  have B__law_drawn_by := F__law_drawn_by.binds (ps := ["_law_maps_here", "_law_coins_here", "_law_plan", "_law_states", "_law_many"]) fun _ _ _ _ _ _ us hl => match us, hl with | [_, _, _, _, _], _ => rfl
  have M__law_drawn_by := He.glo_ok X G (c.fact 54 (f := .glo "_law_drawn_by") rfl)
  obtain ⟨fd__law_looks, F__law_looks⟩ := c.def_ 53 rfl
  have FD__law_looks := F__law_looks
  have F__law_looks := funD_fun (st := s_law_looks) F__law_looks
  have B__law_looks := F__law_looks.binds (ps := ["_law_length", "_law_plan"]) fun _ _ _ _ _ _ us hl => match us, hl with | [_, _], _ => rfl
  have M__law_looks := He.glo_ok X G (c.fact 53 (f := .glo "_law_looks") rfl)
  obtain ⟨fd_drawn_by_ends, F_drawn_by_ends⟩ := c.def_ 37 rfl
  have FD_drawn_by_ends := F_drawn_by_ends
  have F_drawn_by_ends := funD_fun (st := s_drawn_by_ends) F_drawn_by_ends
  have B_drawn_by_ends := F_drawn_by_ends.binds (ps := ["system", "order", "coins", "plan"]) fun _ _ _ _ _ _ us hl => match us, hl with | [_, _, _, _], _ => rfl
  have M_drawn_by_ends := He.glo_ok X G (c.fact 37 (f := .glo "drawn_by_ends") rfl)
  obtain ⟨fd_is_row, F_is_row⟩ := c.def_ 21 rfl
  have FD_is_row := F_is_row
  have F_is_row := funD_fun (st := s_is_row) F_is_row
  have B_is_row := F_is_row.binds (ps := ["system", "thing"]) fun _ _ _ _ _ _ us hl => match us, hl with | [_, _], _ => rfl
  have M_is_row := He.glo_ok X G (c.fact 21 (f := .glo "is_row") rfl)
  obtain ⟨fd_is_plan, F_is_plan⟩ := c.def_ 22 rfl
  have FD_is_plan := F_is_plan
  have F_is_plan := funD_fun (st := s_is_plan) F_is_plan
  have B_is_plan := F_is_plan.binds (ps := ["thing"]) fun _ _ _ _ _ _ us hl => match us, hl with | [_], _ => rfl
  have M_is_plan := He.glo_ok X G (c.fact 22 (f := .glo "is_plan") rfl)
  obtain ⟨fd_led_by_plan, F_led_by_plan⟩ := c.def_ 25 rfl
  have FD_led_by_plan := F_led_by_plan
  have F_led_by_plan := funD_fun (st := s_led_by_plan) F_led_by_plan
  have B_led_by_plan := F_led_by_plan.binds (ps := ["system", "coins", "plan", "states"]) fun _ _ _ _ _ _ us hl => match us, hl with | [_, _, _, _], _ => rfl
  have M_led_by_plan := He.glo_ok X G (c.fact 25 (f := .glo "led_by_plan") rfl)
  obtain ⟨fd_looks, F_looks⟩ := c.def_ 23 rfl
  have FD_looks := F_looks
  have F_looks := funD_fun (st := s_looks) F_looks
  have B_looks := F_looks.binds (ps := ["plan", "many"]) fun _ _ _ _ _ _ us hl => match us, hl with | [_, _], _ => rfl
  have M_looks := He.glo_ok X G (c.fact 23 (f := .glo "looks") rfl)
  obtain ⟨fd_led_ahead, F_led_ahead⟩ := c.def_ 24 rfl
  have FD_led_ahead := F_led_ahead
  have F_led_ahead := funD_fun (st := s_led_ahead) F_led_ahead
  have B_led_ahead := F_led_ahead.binds (ps := ["system", "move", "leads"]) fun _ _ _ _ _ _ us hl => match us, hl with | [_, _, _], _ => rfl
  have M_led_ahead := He.glo_ok X G (c.fact 24 (f := .glo "led_ahead") rfl)
  obtain ⟨fd_drawn, F_drawn⟩ := c.def_ 26 rfl
  have FD_drawn := F_drawn
  have F_drawn := funD_fun (st := s_drawn) F_drawn
  have B_drawn := F_drawn.binds (ps := ["system", "coins", "plan"]) fun _ _ _ _ _ _ us hl => match us, hl with | [_, _, _], _ => rfl
  have M_drawn := He.glo_ok X G (c.fact 26 (f := .glo "drawn") rfl)
  have MK := He.mkr_ok (c.fact 81 (f := .mkr "System") rfl)

  have bla := FunD.bindsA (ps := ["_law_script"]) FD_law fun _ _ _ _ _ _ us hl => match us, hl with | [_], _ => rfl
  refine ⟨fd_law, fun s v => bla s [v] rfl, fun base KB GB => ?_⟩
  have k_hand : Cl P w K mg base CX0 1 "_law_hand" _ fd__law_hand ["_law_script"] (spHand K) := ⟨ok_hand F__law_hand T, B__law_hand, M__law_hand, F__law_hand.kp⟩
  have k_draw : Cl P w K mg base CX0 1 "_law_draw" _ fd__law_draw ["_law_hand_here", "_law_many"] spDraw := ⟨ok_draw F__law_draw T, B__law_draw, M__law_draw, F__law_draw.kp⟩
  have k_any : Cl P w K mg base CX0 2 "_law_any" _ fd__law_any ["_law_hand_here", "_law_things"] (spAny K) := ⟨ok_any F__law_any T k_draw, B__law_any, M__law_any, F__law_any.kp⟩
  have k_shuffled : Cl P w K mg base CX0 2 "_law_shuffled" _ fd__law_shuffled ["_law_hand_here", "_law_things"] (spShuf K) := ⟨ok_shuffled F__law_shuffled T k_draw, B__law_shuffled, M__law_shuffled, F__law_shuffled.kp⟩
  have k_frame : Cl P w K mg base CX0 3 "_law_frame" _ fd__law_frame ["_law_hand_here"] spFrame := ⟨ok_frame F__law_frame T k_any k_draw k_shuffled, B__law_frame, M__law_frame, F__law_frame.kp⟩
  have k_any_map : Cl P w K mg base CX0 2 "_law_any_map" _ fd__law_any_map ["_law_hand_here", "_law_many"] (spAnyMap K) := ⟨ok_any_map F__law_any_map T k_draw, B__law_any_map, M__law_any_map, F__law_any_map.kp⟩
  have k_kept_map : Cl P w K mg base CX0 2 "_law_kept_map" _ fd__law_kept_map ["_law_hand_here", "_law_frame_here"] (spKept K) := ⟨ok_kept_map F__law_kept_map T k_draw, B__law_kept_map, M__law_kept_map, F__law_kept_map.kp⟩
  have k_maps : Cl P w K mg base CX0 3 "_law_maps" _ fd__law_maps ["_law_hand_here", "_law_frame_here", "_law_is_kept"] (spMaps K) := ⟨ok_maps F__law_maps T k_any k_draw k_any_map k_kept_map, B__law_maps, M__law_maps, F__law_maps.kp⟩
  have k_isint : Cl P w K mg base CX0 1 "is_integer" _ fd_is_integer ["thing"] (spIsInt K) := ⟨ok_isint F_is_integer T, B_is_integer, M_is_integer, F_is_integer.kp⟩
  have k_within : Cl P w K mg base CX0 2 "is_within" _ fd_is_within ["low", "high", "thing"] (spWithin K) := ⟨ok_within F_is_within k_isint, B_is_within, M_is_within, F_is_within.kp⟩
  have k_frac : Cl P w K mg base CX0 2 "is_fraction" _ fd_is_fraction ["thing"] (spFrac K) := ⟨ok_frac F_is_fraction T k_isint, B_is_fraction, M_is_fraction, F_is_fraction.kp⟩
  have k_rowb : Cl P w K mg base CX0 3 "is_row_below" _ fd_is_row_below ["bound", "thing"] (spRowB K) := ⟨ok_rowb F_is_row_below T k_within, B_is_row_below, M_is_row_below, F_is_row_below.kp⟩
  have k_move : Cl P w K mg base CX0 4 "is_move" _ fd_is_move ["many", "thing"] (spMove K) := ⟨ok_move F_is_move T k_frac k_rowb, B_is_move, M_is_move, F_is_move.kp⟩
  have k_comb : Cl P w K mg base CX0 1 "common_bottom" _ fd_common_bottom ["fractions"] (spComB K) := ⟨ok_comb F_common_bottom T, B_common_bottom, M_common_bottom, F_common_bottom.kp⟩
  have k_tops : Cl P w K mg base CX0 1 "tops_over" _ fd_tops_over ["fractions", "bottom"] (spTops K) := ⟨ok_tops F_tops_over, B_tops_over, M_tops_over, F_tops_over.kp⟩
  have k_one : Cl P w K mg base CX0 2 "are_one_together" _ fd_are_one_together ["fractions"] (spOne K) := ⟨ok_one F_are_one_together T k_comb k_tops, B_are_one_together, M_are_one_together, F_are_one_together.kp⟩
  have g_sinit := ok_sinit (P := P) (w := w) (base := base) F_System___init__ T Y k_within k_move k_one
  have k_weights : Cl P w K mg base CX0 3 "_law_weights" _ fd__law_weights ["_law_hand_here", "_law_many"] spWeights := ⟨ok_weights F__law_weights T k_draw k_any, B__law_weights, M__law_weights, F__law_weights.kp⟩
  have k_low : Cl P w K mg base CX0 1 "_law_low" _ fd__law_low ["_law_top", "_law_bottom"] spLowS := ⟨ok_low F__law_low T, B__law_low, M__law_low, F__law_low.kp⟩
  have k_moves : Cl P w K mg base CX0 4 "_law_moves" _ fd__law_moves ["_law_hand_here", "_law_maps_here"] (spLMoves K) := ⟨ok_moves F__law_moves T k_weights k_low, B__law_moves, M__law_moves, F__law_moves.kp⟩
  have k_order_of : Cl P w K mg base CX0 1 "_law_order_of" _ fd__law_order_of ["_law_frame_here"] spOrdOf := ⟨ok_order_of F__law_order_of T, B__law_order_of, M__law_order_of, F__law_order_of.kp⟩
  have k_closed : Cl P w K mg base CX0 1 "_law_closed" _ fd__law_closed ["_law_many", "_law_pairs"] (spLClosed K) := ⟨ok_closed F__law_closed T, B__law_closed, M__law_closed, F__law_closed.kp⟩
  have k_lleast : Cl P w K mg base CX0 2 "_law_least_order" _ fd__law_least_order ["_law_many", "_law_maps_here", "_law_low_here", "_law_high"] (spLLeast K) := ⟨ok_lleast F__law_least_order T k_closed, B__law_least_order, M__law_least_order, F__law_least_order.kp⟩
  have k_least_order : Cl P w K mg base CX0 3 "least_order" _ fd_least_order ["system", "low", "high"] (spLeast K (He.ga K "System")) := ⟨ok_least_order F_least_order T k_within Y, B_least_order, M_least_order, F_least_order.kp⟩
  have k_lmerging : Cl P w K mg base CX0 1 "_law_merging" _ fd__law_merging ["_law_maps_here", "_law_states"] (spMerg K) := ⟨ok_lmerging F__law_merging T, B__law_merging, M__law_merging, F__law_merging.kp⟩
  have k_lot_of : Cl P w K mg base CX0 1 "lot_of" _ fd_lot_of ["things"] (spLotOf K) := ⟨ok_lot_of F_lot_of T, B_lot_of, M_lot_of, F_lot_of.kp⟩
  have k_lot_led : Cl P w K mg base CX0 2 "lot_led" _ fd_lot_led ["leads", "lot"] (spLotLed K) := ⟨ok_lot_led F_lot_led T k_lot_of, B_lot_led, M_lot_led, F_lot_led.kp⟩
  have k_least_row_to_one : Cl P w K mg base CX0 3 "least_row_to_one" _ fd_least_row_to_one ["system", "start"] (spRowTo K (He.ga K "System")) := ⟨ok_least_row_to_one F_least_row_to_one T k_lot_led Y, B_least_row_to_one, M_least_row_to_one, F_least_row_to_one.kp⟩
  have k_rowK : Cl P w K mg base CX0 3 "is_row_below" _ fd_is_row_below ["bound", "thing"] (spRowK K) := ⟨ok_rowK F_is_row_below T k_within, B_is_row_below, M_is_row_below, F_is_row_below.kp⟩
  have k_pairP : Cl P w K mg base CX0 4 "is_pair_below" _ fd_is_pair_below ["bound", "thing"] (spPairP K) := ⟨ok_pairP F_is_pair_below T k_rowK, B_is_pair_below, M_is_pair_below, F_is_pair_below.kp⟩
  have k_ascP : Cl P w K mg base CX0 1 "is_ascending" _ fd_is_ascending ["things"] (spAscP K) := ⟨ok_ascP F_is_ascending T, B_is_ascending, M_is_ascending, F_is_ascending.kp⟩
  have k_lotPP : Cl P w K mg base CX0 5 "is_lot_of_pairs" _ fd_is_lot_of_pairs ["bound", "thing"] (spLotPP K) := ⟨ok_lotPP F_is_lot_of_pairs T k_pairP k_ascP, B_is_lot_of_pairs, M_is_lot_of_pairs, F_is_lot_of_pairs.kp⟩
  have k_joined : Cl P w K mg base CX0 1 "joined" _ fd_joined ["pairs"] (spJoined K) := ⟨ok_joined F_joined T, B_joined, M_joined, F_joined.kp⟩
  have k_is_order : Cl P w K mg base CX0 6 "is_order" _ fd_is_order ["system", "thing"] (spOrder K (He.ga K "System")) := ⟨ok_is_order F_is_order T k_lotPP k_joined Y, B_is_order, M_is_order, F_is_order.kp⟩
  have k_breaking : Cl P w K mg base CX0 7 "breaking" _ fd_breaking ["system", "order"] (spBrk K (He.ga K "System")) := ⟨ok_breaking F_breaking T k_is_order Y, B_breaking, M_breaking, F_breaking.kp⟩
  have k_ends : Cl P w K mg base CX0 7 "ends" _ fd_ends ["system", "order"] (spEnds K (He.ga K "System")) := ⟨ok_ends F_ends T k_is_order Y, B_ends, M_ends, F_ends.kp⟩
  have k_ends_kept : Cl P w K mg base CX0 8 "ends_kept" _ fd_ends_kept ["system", "order"] (spEndsK K (He.ga K "System")) := ⟨ok_ends_kept F_ends_kept T k_breaking k_ends Y, B_ends_kept, M_ends_kept, F_ends_kept.kp⟩
  have k_merging_by_ends : Cl P w K mg base CX0 9 "merging_by_ends" _ fd_merging_by_ends ["system", "order"] (spMerge K (He.ga K "System")) := ⟨ok_merging_by_ends F_merging_by_ends T k_least_row_to_one k_lot_of k_ends_kept Y, B_merging_by_ends, M_merging_by_ends, F_merging_by_ends.kp⟩
  have k_merging_row : Cl P w K mg base CX0 4 "merging_row" _ fd_merging_row ["system"] (spMrow K (He.ga K "System")) := ⟨ok_merging_row F_merging_row T k_least_row_to_one Y, B_merging_row, M_merging_row, F_merging_row.kp⟩
  have k_all_led : Cl P w K mg base CX0 1 "_law_all_led" _ fd__law_all_led ["_law_maps_here", "_law_row", "_law_many"] (spAllLed K) := ⟨ok_all_led F__law_all_led T, B__law_all_led, M__law_all_led, F__law_all_led.kp⟩
  have k_coins : Cl P w K mg base CX0 3 "_law_coins" _ fd__law_coins ["_law_hand_here", "_law_moves_here"] (spCoins K) := ⟨ok_coins F__law_coins T k_any k_draw, B__law_coins, M__law_coins, F__law_coins.kp⟩
  have k_llooks : Cl P w K mg base CX0 1 "_law_looks" _ fd__law_looks ["_law_length", "_law_plan"] spLLooks := ⟨ok_llooks F__law_looks T, B__law_looks, M__law_looks, F__law_looks.kp⟩
  have k_drawn_by : Cl P w K mg base CX0 2 "_law_drawn_by" _ fd__law_drawn_by ["_law_maps_here", "_law_coins_here", "_law_plan", "_law_states", "_law_many"] (spDrawnBy K) := ⟨ok_drawn_by F__law_drawn_by T k_llooks k_all_led, B__law_drawn_by, M__law_drawn_by, F__law_drawn_by.kp⟩
  have k_isrow : Cl P w K mg base CX0 4 "is_row" _ fd_is_row ["system", "thing"] (spIsRow K (He.ga K "System")) := ⟨ok_isrow F_is_row T Y k_rowb, B_is_row, M_is_row, F_is_row.kp⟩
  have k_is_plan : Cl P w K mg base CX0 1 "is_plan" _ fd_is_plan ["thing"] spIsPlan := ⟨ok_is_plan F_is_plan T, B_is_plan, M_is_plan, F_is_plan.kp⟩
  have k_looks : Cl P w K mg base CX0 1 "looks" _ fd_looks ["plan", "many"] (spLooks K) := ⟨ok_looks F_looks T, B_looks, M_looks, F_looks.kp⟩
  have k_led_ahead : Cl P w K mg base CX0 1 "led_ahead" _ fd_led_ahead ["system", "move", "leads"] (spAhead K (He.ga K "System")) := ⟨ok_led_ahead F_led_ahead T Y, B_led_ahead, M_led_ahead, F_led_ahead.kp⟩
  have k_led_by_plan : Cl P w K mg base CX0 2 "led_by_plan" _ fd_led_by_plan ["system", "coins", "plan", "states"] (spPlan K (He.ga K "System")) := ⟨ok_led_by_plan F_led_by_plan T k_looks k_led_ahead k_lot_of Y, B_led_by_plan, M_led_by_plan, F_led_by_plan.kp⟩
  have k_drawn_by_ends : Cl P w K mg base CX0 9 "drawn_by_ends" _ fd_drawn_by_ends ["system", "order", "coins", "plan"] (spDrwE K (He.ga K "System")) := ⟨ok_drawn_by_ends F_drawn_by_ends T k_ends_kept k_isrow k_is_plan k_led_by_plan Y, B_drawn_by_ends, M_drawn_by_ends, F_drawn_by_ends.kp⟩
  have k_drawn : Cl P w K mg base CX0 5 "drawn" _ fd_drawn ["system", "coins", "plan"] (spDrawn K (He.ga K "System")) := ⟨ok_drawn F_drawn T k_isrow k_is_plan k_led_by_plan k_lot_of Y, B_drawn, M_drawn, F_drawn.kp⟩
  have k_is_drawn_right : Cl P w K mg base CX0 10 "_law_is_drawn_right" _ fd__law_is_drawn_right ["_law_system", "_law_maps_here", "_law_order", "_law_low_here", "_law_high", "_law_coins_here", "_law_plan"] (spIsDr K (He.ga K "System")) := ⟨ok_is_drawn_right F__law_is_drawn_right T k_drawn_by k_drawn_by_ends k_drawn Y, B__law_is_drawn_right, M__law_is_drawn_right, F__law_is_drawn_right.kp⟩
  exact ok_law F_law T k_hand k_frame k_maps MK g_sinit B_System___init__ Y k_moves k_order_of k_lleast k_least_order k_draw k_lmerging k_merging_by_ends k_merging_row k_all_led k_coins k_is_drawn_right Y
end
end Law
open PySem PySem.W PySem.Calls PyProof.Rows
theorem PySem.Challenge.cw_asifforever_k21_whole_drawing_by_both_en_holds : PySem.Challenge.rw_asifforever_k21_whole_drawing_by_both_en.Holds := by
  w_on; o_law
  refine HandSHeadRun.head_imp (r := OpenLaw.row PySem.Challenge.rw_asifforever_k21_whole_drawing_by_both_en) (q := view (OpenLaw.row PySem.Challenge.rw_asifforever_k21_whole_drawing_by_both_en).prog [0, 66]) (H := Law.hk) (ob := Law.ob) (M := 13000) (loose := Law.names) (d := HandSHeadRun.topDef (OpenLaw.row PySem.Challenge.rw_asifforever_k21_whole_drawing_by_both_en).prog 66) (kwd := []) Law.ob_eq
    Law.run (by kernel_rfl) (by kernel_rfl) (by kernel_rfl) (by rfl) (by first | assumption | decide +kernel) (by decide +kernel) ⟨rfl, rfl, rfl, rfl, rfl, by decide +kernel⟩ ?hw ?hc
  case hw => w_witness2
  case hc =>
    refine L2.walk_ofE (l := PySem.Challenge.rw_asifforever_k21_whole_drawing_by_both_en) (n := 63) (k := 11) (x := "_law_script") (CX := L2.CX0) rfl (by decide) (by kernel_rfl) ⟨rfl, by decide, by decide⟩ ?F (fun _ _ _ _ z => z)
    intro w mg fa h Y G hmg0
    obtain ⟨K, KX, c, e⟩ := Y
    have hmg : mg ("law" : PySem.Str) = some (.ref fa) := by
      have e : (HandSHeadRun.topDef (OpenLaw.row PySem.Challenge.rw_asifforever_k21_whole_drawing_by_both_en).prog 66).name = ("law" : PySem.Str) := by kernel_rfl
      rw [← e]
      exact hmg0
    obtain ⟨fd, hb, hF⟩ := Law.facts (P := (PySem.Challenge.rw_asifforever_k21_whole_drawing_by_both_en).prog) (w := w) (by rfl) KX G hmg c e
    exact ⟨K, fd, Law.spLaw K, KX, hb, fun H a ns hl _ hS => ⟨a, ns, rfl, hS, hl, fun _ => rfl⟩, hF⟩

