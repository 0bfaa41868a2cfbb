import PyProof.Rows.All
import Wide.All
import OpenK.AllK
import Wide.FinOn
import KE.KExcIs
import HandS.ForMost
import HandS.Evl
import HandS.IsInst
import HandS.ExcInit
import HandS.ExcIs
import HandS.DeepEq
import HandS.OwnEq
import HandS.SetFor
import KE.GoesMore
import PyProof.Draws
import HandS.Walk
import HandS.Wide
import HandS.Gcd
import KE.KStateDown
import HandS.Defaults
import HandS.Head0
import HandS.Head1
import HandS.Head2
import HandS.Head3
import HandS.HeadEnd
import HandS.HeadHook1
import HandS.HeadHook2
import PyProof.NoPylong
import HandS.Conv
import HandS.TupMul
import HandS.TupAny
import HandS.Strs
import HandS.List
import HandS.Style
import PySem.Challenge.RW_asifforever_k17_whole_moves_by_bits
set_option Elab.async false
set_option linter.all false
set_option maxRecDepth 100000
set_option maxHeartbeats 4000000
set_option exponentiation.threshold 200000
namespace Law
open PySem L2
def top (i : Nat) : Stmt := PySem.Challenge.pw_asifforever_k17_whole_moves_by_bits.main.body.getD i (.Pass ⟨0, 0, 0, 0⟩)
abbrev s_is_integer : Stmt := top 2
abbrev s_is_within : Stmt := top 3
abbrev s_is_row_below : Stmt := top 4
abbrev s_lot_of : Stmt := top 5
abbrev s_is_fraction : Stmt := top 6
abbrev s_fraction : Stmt := top 7
abbrev s_common_bottom : Stmt := top 8
abbrev s_tops_over : Stmt := top 9
abbrev s_are_one_together : Stmt := top 10
abbrev s_BadSystem_init : Stmt := inClass (top 13) 0
abbrev s_NoNumber_init : Stmt := inClass (top 14) 0
abbrev s_NoCoins_init : Stmt := inClass (top 15) 0
abbrev s_NoPlan_init : Stmt := inClass (top 16) 0
abbrev s_NoBits_init : Stmt := inClass (top 17) 0
abbrev s_System_init : Stmt := inClass (top 19) 0
abbrev s_System_eq : Stmt := inClass (top 19) 1
abbrev s_is_move : Stmt := top 20
abbrev s_is_row : Stmt := top 21
abbrev s_is_plan : Stmt := top 23
abbrev s_looks : Stmt := top 24
abbrev s_led_ahead : Stmt := top 25
abbrev s_led_by_plan : Stmt := top 26
abbrev s_drawn : Stmt := top 27
abbrev s_factors_of : Stmt := top 29
abbrev s_is_bits : Stmt := top 31
abbrev s_ends_of_moves : Stmt := top 32
abbrev s_move_within : Stmt := top 33
abbrev s_move_by_bits : Stmt := top 34
abbrev s_tops_by_bits : Stmt := top 35
abbrev s_told_by_bits : Stmt := top 36
abbrev s_open_by_bits : Stmt := top 37
abbrev s_coins_of_bits : Stmt := top 38
abbrev s_drawn_by_bits : Stmt := top 39
abbrev s_law_hand : Stmt := top 41
abbrev s_law_draw : Stmt := top 42
abbrev s_law_any : Stmt := top 43
abbrev s_law_low : Stmt := top 44
abbrev s_law_leads : Stmt := top 45
abbrev s_law_world : Stmt := top 46
abbrev s_law_made : Stmt := top 47
abbrev s_law_lot : Stmt := top 48
abbrev s_law_drawn : Stmt := top 49
abbrev s_law_power : Stmt := top 50
abbrev s_law_all_rows : Stmt := top 51
abbrev s_law_move : Stmt := top 52
abbrev s_law_coins_told : Stmt := top 53
abbrev s_law_counts : Stmt := top 54
abbrev s_law_shares_right : Stmt := top 55
abbrev s_law_all_right : Stmt := top 56
abbrev s_law_bits : Stmt := top 57
abbrev s_law : Stmt := top 58
end Law
namespace Law
open PySem L2
/-- what is asked of the module's names -/
structure NmA (mg : Str → Option Value) : Prop where
  abs : mg "abs" = none
  all : mg "all" = none
  any : mg "any" = none
  bool : mg "bool" = none
  enum : mg "enumerate" = none
  int : mg "int" = none
  isi : mg "isinstance" = none
  len : mg "len" = none
  list : mg "list" = none
  max : mg "max" = none
  range : mg "range" = none
  set : mg "set" = none
  sorted : mg "sorted" = none
  str : mg "str" = none
  sum : mg "sum" = none
  tuple : mg "tuple" = none
  zip : mg "zip" = none
  gcd : mg "gcd" = some (.builtin "math.gcd")
  lcm : mg "lcm" = some (.builtin "math.lcm")
end Law
namespace Law
open PySem PySem.Spec PyProof.Rows L2
/-! ### the head's Hook: facts of K by names, and one more Bool -/
abbrev AlM : Type := He.AlD × Bool
def obsM (n : Nat) (fa : List He.Fa) (fn : List He.DefD) (ex : PySem.W.Frag → Bool) (g : Addr → Option Obj) : AlM := (He.obsD fa fn (He.frG g (He.asD g n)), ex (He.frG g (He.asD g n)))
def hookM (n : Nat) (fa : List He.Fa) (fn : List He.DefD) (ex : PySem.W.Frag → Bool) : PySem.W.Hook where
  α := AlM
  obs := fun s => obsM n fa fn ex s.heap.get?
  val := fun _ => (He.valD fn, true)
  says := fun _ h => ∃ K : PySem.W.Frag, K.In h ∧ He.SaysD fa fn K ∧ ex K = true
  of := fun _ _ e => ⟨_, He.frG_in, congrArg (fun z : AlM => z.1) e, congrArg (fun z : AlM => z.2) e⟩
  keeps := fun _ _ _ ⟨K, hK, c⟩ k => ⟨K, PySem.W.Frag.In.keeps hK k, c⟩
theorem obsM_eq {n : Nat} {fa : List He.Fa} {fn : List He.DefD} {ex : PySem.W.Frag → Bool} {g : Addr → Option Obj} {s : Shared} (h : ∀ a, g a = s.heap.get? a) : obsM n fa fn ex g = (hookM n fa fn ex).obs s := by
  have e : g = s.heap.get? := funext h
  rw [e] <;> rfl
theorem funD_fun {K : PySem.W.Frag} {x qual : Str} {st : Stmt} {f : Addr} {fd : FuncData} (F : FunD K x qual (defArgs st) (defBody st) (defScope st) [] [] f fd) : Fun K x qual st f fd := by
  obtain ⟨⟨oc, od, dV, kV, doc, pm, an, cdv, ct, osl, h1, h2, h3, h4, _⟩, kp⟩ := F
  rcases h4 with ⟨_, rfl⟩ | ⟨h, _⟩
  · exact ⟨⟨oc, od, kV, doc, pm, an, cdv, ct, osl, h1, h2, h3⟩, kp⟩
  · exact absurd rfl h
end Law
namespace Law
open PySem PySem.Spec PyProof.Rows L2
def optT (o : Option Bool) : Bool := match o with
  | some b => b
  | none => false
/-- an own plain class's instances are asked for their class as usual -/
def insB (K : PySem.W.Frag) (C : Addr) : Bool := He.eqO (PySem.W.findIn K (.ref C) "__class__") (some (some (.builtin "object.__class__"))) && (He.eqO (PySem.W.specialIn K (.builtin "object.__class__") "__get__") (some (some (.builtin "getset_descriptor.__get__"))) && (optT (PySem.W.takesIn K (.builtin "object.__class__")) && optT (PySem.W.mroIn K C (.type "object"))))
def gclB (K : PySem.W.Frag) : Bool := He.eqO (PySem.W.nsIn K mainGlobals "gcd") (some (some (.builtin "math.gcd"))) && He.eqO (PySem.W.nsIn K mainGlobals "lcm") (some (some (.builtin "math.lcm")))
def exK (K : PySem.W.Frag) : Bool := gclB K && insB K (He.ga K "System")
end Law
set_option maxHeartbeats 0
namespace Law
open PySem PySem.Spec PyProof.Rows L2
def fns : List He.DefD := [
  ⟨("is_integer", none), "is_integer", "is_integer", defArgs s_is_integer, defBody s_is_integer, defScope s_is_integer, [], []⟩,
  ⟨("is_within", none), "is_within", "is_within", defArgs s_is_within, defBody s_is_within, defScope s_is_within, [], []⟩,
  ⟨("is_row_below", none), "is_row_below", "is_row_below", defArgs s_is_row_below, defBody s_is_row_below, defScope s_is_row_below, [], []⟩,
  ⟨("lot_of", none), "lot_of", "lot_of", defArgs s_lot_of, defBody s_lot_of, defScope s_lot_of, [], []⟩,
  ⟨("is_fraction", none), "is_fraction", "is_fraction", defArgs s_is_fraction, defBody s_is_fraction, defScope s_is_fraction, [], []⟩,
  ⟨("fraction", none), "fraction", "fraction", defArgs s_fraction, defBody s_fraction, defScope s_fraction, [], []⟩,
  ⟨("common_bottom", none), "common_bottom", "common_bottom", defArgs s_common_bottom, defBody s_common_bottom, defScope s_common_bottom, [], []⟩,
  ⟨("tops_over", none), "tops_over", "tops_over", defArgs s_tops_over, defBody s_tops_over, defScope s_tops_over, [], []⟩,
  ⟨("are_one_together", none), "are_one_together", "are_one_together", defArgs s_are_one_together, defBody s_are_one_together, defScope s_are_one_together, [], []⟩,
  ⟨("BadSystem", some "__init__"), "__init__", "BadSystem.__init__", defArgs s_BadSystem_init, defBody s_BadSystem_init, defScope s_BadSystem_init, [], []⟩,
  ⟨("NoNumber", some "__init__"), "__init__", "NoNumber.__init__", defArgs s_NoNumber_init, defBody s_NoNumber_init, defScope s_NoNumber_init, [], []⟩,
  ⟨("NoCoins", some "__init__"), "__init__", "NoCoins.__init__", defArgs s_NoCoins_init, defBody s_NoCoins_init, defScope s_NoCoins_init, [], []⟩,
  ⟨("NoPlan", some "__init__"), "__init__", "NoPlan.__init__", defArgs s_NoPlan_init, defBody s_NoPlan_init, defScope s_NoPlan_init, [], []⟩,
  ⟨("NoBits", some "__init__"), "__init__", "NoBits.__init__", defArgs s_NoBits_init, defBody s_NoBits_init, defScope s_NoBits_init, [], []⟩,
  ⟨("System", some "__init__"), "__init__", "System.__init__", defArgs s_System_init, defBody s_System_init, defScope s_System_init, [], []⟩,
  ⟨("System", some "__eq__"), "__eq__", "System.__eq__", defArgs s_System_eq, defBody s_System_eq, defScope s_System_eq, [], []⟩,
  ⟨("is_move", none), "is_move", "is_move", defArgs s_is_move, defBody s_is_move, defScope s_is_move, [], []⟩,
  ⟨("is_row", none), "is_row", "is_row", defArgs s_is_row, defBody s_is_row, defScope s_is_row, [], []⟩,
  ⟨("is_plan", none), "is_plan", "is_plan", defArgs s_is_plan, defBody s_is_plan, defScope s_is_plan, [], []⟩,
  ⟨("looks", none), "looks", "looks", defArgs s_looks, defBody s_looks, defScope s_looks, [], []⟩,
  ⟨("led_ahead", none), "led_ahead", "led_ahead", defArgs s_led_ahead, defBody s_led_ahead, defScope s_led_ahead, [], []⟩,
  ⟨("led_by_plan", none), "led_by_plan", "led_by_plan", defArgs s_led_by_plan, defBody s_led_by_plan, defScope s_led_by_plan, [], []⟩,
  ⟨("drawn", none), "drawn", "drawn", defArgs s_drawn, defBody s_drawn, defScope s_drawn, [], []⟩,
  ⟨("factors_of", none), "factors_of", "factors_of", defArgs s_factors_of, defBody s_factors_of, defScope s_factors_of, [], []⟩,
  ⟨("is_bits", none), "is_bits", "is_bits", defArgs s_is_bits, defBody s_is_bits, defScope s_is_bits, [], []⟩,
  ⟨("ends_of_moves", none), "ends_of_moves", "ends_of_moves", defArgs s_ends_of_moves, defBody s_ends_of_moves, defScope s_ends_of_moves, [], []⟩,
  ⟨("move_within", none), "move_within", "move_within", defArgs s_move_within, defBody s_move_within, defScope s_move_within, [], []⟩,
  ⟨("move_by_bits", none), "move_by_bits", "move_by_bits", defArgs s_move_by_bits, defBody s_move_by_bits, defScope s_move_by_bits, [], []⟩,
  ⟨("tops_by_bits", none), "tops_by_bits", "tops_by_bits", defArgs s_tops_by_bits, defBody s_tops_by_bits, defScope s_tops_by_bits, [], []⟩,
  ⟨("told_by_bits", none), "told_by_bits", "told_by_bits", defArgs s_told_by_bits, defBody s_told_by_bits, defScope s_told_by_bits, [], []⟩,
  ⟨("open_by_bits", none), "open_by_bits", "open_by_bits", defArgs s_open_by_bits, defBody s_open_by_bits, defScope s_open_by_bits, [], []⟩,
  ⟨("coins_of_bits", none), "coins_of_bits", "coins_of_bits", defArgs s_coins_of_bits, defBody s_coins_of_bits, defScope s_coins_of_bits, [], []⟩,
  ⟨("drawn_by_bits", none), "drawn_by_bits", "drawn_by_bits", defArgs s_drawn_by_bits, defBody s_drawn_by_bits, defScope s_drawn_by_bits, [], []⟩,
  ⟨("_law_hand", none), "_law_hand", "_law_hand", defArgs s_law_hand, defBody s_law_hand, defScope s_law_hand, [], []⟩,
  ⟨("_law_draw", none), "_law_draw", "_law_draw", defArgs s_law_draw, defBody s_law_draw, defScope s_law_draw, [], []⟩,
  ⟨("_law_any", none), "_law_any", "_law_any", defArgs s_law_any, defBody s_law_any, defScope s_law_any, [], []⟩,
  ⟨("_law_low", none), "_law_low", "_law_low", defArgs s_law_low, defBody s_law_low, defScope s_law_low, [], []⟩,
  ⟨("_law_leads", none), "_law_leads", "_law_leads", defArgs s_law_leads, defBody s_law_leads, defScope s_law_leads, [], []⟩,
  ⟨("_law_world", none), "_law_world", "_law_world", defArgs s_law_world, defBody s_law_world, defScope s_law_world, [], []⟩,
  ⟨("_law_made", none), "_law_made", "_law_made", defArgs s_law_made, defBody s_law_made, defScope s_law_made, [], []⟩,
  ⟨("_law_lot", none), "_law_lot", "_law_lot", defArgs s_law_lot, defBody s_law_lot, defScope s_law_lot, [], []⟩,
  ⟨("_law_drawn", none), "_law_drawn", "_law_drawn", defArgs s_law_drawn, defBody s_law_drawn, defScope s_law_drawn, [], []⟩,
  ⟨("_law_power", none), "_law_power", "_law_power", defArgs s_law_power, defBody s_law_power, defScope s_law_power, [], []⟩,
  ⟨("_law_all_rows", none), "_law_all_rows", "_law_all_rows", defArgs s_law_all_rows, defBody s_law_all_rows, defScope s_law_all_rows, [], []⟩,
  ⟨("_law_move", none), "_law_move", "_law_move", defArgs s_law_move, defBody s_law_move, defScope s_law_move, [], []⟩,
  ⟨("_law_coins_told", none), "_law_coins_told", "_law_coins_told", defArgs s_law_coins_told, defBody s_law_coins_told, defScope s_law_coins_told, [], []⟩,
  ⟨("_law_counts", none), "_law_counts", "_law_counts", defArgs s_law_counts, defBody s_law_counts, defScope s_law_counts, [], []⟩,
  ⟨("_law_shares_right", none), "_law_shares_right", "_law_shares_right", defArgs s_law_shares_right, defBody s_law_shares_right, defScope s_law_shares_right, [], []⟩,
  ⟨("_law_all_right", none), "_law_all_right", "_law_all_right", defArgs s_law_all_right, defBody s_law_all_right, defScope s_law_all_right, [], []⟩,
  ⟨("_law_bits", none), "_law_bits", "_law_bits", defArgs s_law_bits, defBody s_law_bits, defScope s_law_bits, [], []⟩,
  ⟨("law", none), "law", "law", defArgs s_law, defBody s_law, defScope s_law, [], []⟩]
def fas : List He.Fa := [
  .glo "is_integer", .glo "is_within", .glo "is_row_below", .glo "lot_of", .glo "is_fraction", .glo "fraction", .glo "common_bottom", .glo "tops_over", .glo "are_one_together", .glo "DrawError", .glo "BadSystem", .glo "NoNumber", .glo "NoCoins", .glo "NoPlan", .glo "NoBits", .glo "System", .glo "is_move", .glo "is_row", .glo "is_plan", .glo "looks", .glo "led_ahead", .glo "led_by_plan", .glo "drawn", .glo "factors_of", .glo "is_bits", .glo "ends_of_moves", .glo "move_within", .glo "move_by_bits", .glo "tops_by_bits", .glo "told_by_bits", .glo "open_by_bits", .glo "coins_of_bits", .glo "drawn_by_bits", .glo "_law_hand", .glo "_law_draw", .glo "_law_any", .glo "_law_low", .glo "_law_leads", .glo "_law_world", .glo "_law_made", .glo "_law_lot", .glo "_law_drawn", .glo "_law_power", .glo "_law_all_rows", .glo "_law_move", .glo "_law_coins_told", .glo "_law_counts", .glo "_law_shares_right", .glo "_law_all_right", .glo "_law_bits", .glo "law", .free "ValueError", .free "abs", .free "all", .free "any", .free "bool", .free "enumerate", .free "int", .free "isinstance", .free "len", .free "list", .free "max", .free "range", .free "set", .free "sorted", .free "str", .free "sum", .free "tuple", .free "zip", .cls "System", .noat "System" "many", .noat "System" "moves", .mkr "System"]
-- defs: 0 is_integer, 1 is_within, 2 is_row_below, 3 lot_of, 4 is_fraction, 5 fraction, 6 common_bottom, 7 tops_over, 8 are_one_together, 9 BadSystem.__init__, 10 NoNumber.__init__, 11 NoCoins.__init__, 12 NoPlan.__init__, 13 NoBits.__init__, 14 System.__init__, 15 System.__eq__, 16 is_move, 17 is_row, 18 is_plan, 19 looks, 20 led_ahead, 21 led_by_plan, 22 drawn, 23 factors_of, 24 is_bits, 25 ends_of_moves, 26 move_within, 27 move_by_bits, 28 tops_by_bits, 29 told_by_bits, 30 open_by_bits, 31 coins_of_bits, 32 drawn_by_bits, 33 _law_hand, 34 _law_draw, 35 _law_any, 36 _law_low, 37 _law_leads, 38 _law_world, 39 _law_made, 40 _law_lot, 41 _law_drawn, 42 _law_power, 43 _law_all_rows, 44 _law_move, 45 _law_coins_told, 46 _law_counts, 47 _law_shares_right, 48 _law_all_right, 49 _law_bits, 50 law
-- facts: 0 .glo "is_integer", 1 .glo "is_within", 2 .glo "is_row_below", 3 .glo "lot_of", 4 .glo "is_fraction", 5 .glo "fraction", 6 .glo "common_bottom", 7 .glo "tops_over", 8 .glo "are_one_together", 9 .glo "DrawError", 10 .glo "BadSystem", 11 .glo "NoNumber", 12 .glo "NoCoins", 13 .glo "NoPlan", 14 .glo "NoBits", 15 .glo "System", 16 .glo "is_move", 17 .glo "is_row", 18 .glo "is_plan", 19 .glo "looks", 20 .glo "led_ahead", 21 .glo "led_by_plan", 22 .glo "drawn", 23 .glo "factors_of", 24 .glo "is_bits", 25 .glo "ends_of_moves", 26 .glo "move_within", 27 .glo "move_by_bits", 28 .glo "tops_by_bits", 29 .glo "told_by_bits", 30 .glo "open_by_bits", 31 .glo "coins_of_bits", 32 .glo "drawn_by_bits", 33 .glo "_law_hand", 34 .glo "_law_draw", 35 .glo "_law_any", 36 .glo "_law_low", 37 .glo "_law_leads", 38 .glo "_law_world", 39 .glo "_law_made", 40 .glo "_law_lot", 41 .glo "_law_drawn", 42 .glo "_law_power", 43 .glo "_law_all_rows", 44 .glo "_law_move", 45 .glo "_law_coins_told", 46 .glo "_law_counts", 47 .glo "_law_shares_right", 48 .glo "_law_all_right", 49 .glo "_law_bits", 50 .glo "law", 51 .free "ValueError", 52 .free "abs", 53 .free "all", 54 .free "any", 55 .free "bool", 56 .free "enumerate", 57 .free "int", 58 .free "isinstance", 59 .free "len", 60 .free "list", 61 .free "max", 62 .free "range", 63 .free "set", 64 .free "sorted", 65 .free "str", 66 .free "sum", 67 .free "tuple", 68 .free "zip", 69 .cls "System", 70 .noat "System" "many", 71 .noat "System" "moves", 72 .mkr "System"
def names0 : List PySem.Str := ["is_integer", "is_within", "is_row_below", "lot_of", "is_fraction", "fraction", "common_bottom", "tops_over", "are_one_together", "DrawError", "BadSystem", "NoNumber"]
def names1 : List PySem.Str := ["NoCoins", "NoPlan", "NoBits", "System", "is_move", "is_row", "is_plan", "looks", "led_ahead", "led_by_plan", "drawn", "factors_of"]
def names2 : List PySem.Str := ["is_bits", "ends_of_moves", "move_within", "move_by_bits", "tops_by_bits", "told_by_bits", "open_by_bits", "coins_of_bits", "drawn_by_bits", "_law_hand", "_law_draw", "_law_any"]
def names3 : List PySem.Str := ["_law_low", "_law_leads", "_law_world", "_law_made", "_law_lot", "_law_drawn", "_law_power", "_law_all_rows", "_law_move", "_law_coins_told", "_law_counts", "_law_shares_right"]
def names4 : List PySem.Str := ["_law_all_right", "_law_bits"]
def names : List PySem.Str := names0 ++ names1 ++ names2 ++ names3 ++ names4
abbrev R : PySem.W.OpenRow := PySem.W.OpenLaw.row PySem.Challenge.rw_asifforever_k17_whole_moves_by_bits
abbrev hk : PySem.W.Hook := hookM 4 fas fns exK
def ob (s : PySem.W.SharedT) : AlM := obsM 4 fas fns exK (HandSHeadRun.getT s)
theorem ob_eq (s : PySem.W.SharedT) : ob s = hk.obs s.abs := obsM_eq (HandSHeadRun.getT_eq s)
theorem run (w : World) : HandSHeadRun.RunEqI R (PySem.W.view R.prog [0, 58]) hk ob 13000 names w := by
  unfold HandSHeadRun.RunEqI
  kernel_rfl
end Law
set_option maxHeartbeats 4000000
namespace Law
open PySem L2
theorem sne {x y : Str} (h : ¬ x = y) : ¬ ((Sum.inr x : Key) = Sum.inr y) := fun z => h (Sum.inr.inj z)
theorem n01 : ¬ ((Sum.inr ("cells" : Str) : Key) = Sum.inr ("at" : Str)) := sne (by decide +kernel)
theorem n02 : ¬ ((Sum.inr ("cells" : Str) : Key) = Sum.inr ("left" : Str)) := sne (by decide +kernel)
theorem n03 : ¬ ((Sum.inr ("cells" : Str) : Key) = Sum.inr ("seed" : Str)) := sne (by decide +kernel)
theorem n04 : ¬ ((Sum.inr ("cells" : Str) : Key) = Sum.inr ("turn" : Str)) := sne (by decide +kernel)
theorem n12 : ¬ ((Sum.inr ("at" : Str) : Key) = Sum.inr ("left" : Str)) := sne (by decide +kernel)
theorem n13 : ¬ ((Sum.inr ("at" : Str) : Key) = Sum.inr ("seed" : Str)) := sne (by decide +kernel)
theorem n14 : ¬ ((Sum.inr ("at" : Str) : Key) = Sum.inr ("turn" : Str)) := sne (by decide +kernel)
theorem n23 : ¬ ((Sum.inr ("left" : Str) : Key) = Sum.inr ("seed" : Str)) := sne (by decide +kernel)
theorem n24 : ¬ ((Sum.inr ("left" : Str) : Key) = Sum.inr ("turn" : Str)) := sne (by decide +kernel)
theorem n34 : ¬ ((Sum.inr ("seed" : Str) : Key) = Sum.inr ("turn" : Str)) := sne (by decide +kernel)
/-- the hand's dict: its cells' list, and its four ints -/
def hdK (ca : Addr) (a g s t : Int) : List (Key × V) :=
  [(Sum.inr ("cells" : Str), .ref ca), (Sum.inr ("at" : Str), .int a), (Sum.inr ("left" : Str), .int g), (Sum.inr ("seed" : Str), .int s), (Sum.inr ("turn" : Str), .int t)]
section
variable (ca : Addr) (a g s t x : Int)
theorem get_cells : valV (hdK ca a g s t) (Sum.inr ("cells" : Str)) = some (.ref ca) := valV_pos rfl
theorem get_at : valV (hdK ca a g s t) (Sum.inr ("at" : Str)) = some (.int a) := (valV_neg n01).trans (valV_pos rfl)
theorem get_great : valV (hdK ca a g s t) (Sum.inr ("left" : Str)) = some (.int g) := (valV_neg n02).trans ((valV_neg n12).trans (valV_pos rfl))
theorem get_seed : valV (hdK ca a g s t) (Sum.inr ("seed" : Str)) = some (.int s) := (valV_neg n03).trans ((valV_neg n13).trans ((valV_neg n23).trans (valV_pos rfl)))
theorem get_turn : valV (hdK ca a g s t) (Sum.inr ("turn" : Str)) = some (.int t) := (valV_neg n04).trans ((valV_neg n14).trans ((valV_neg n24).trans ((valV_neg n34).trans (valV_pos rfl))))
theorem put_of {kvs : List (Key × V)} {k : Key} {v w : V} (h : valV kvs k = some w) : putK kvs k v = kvs.map (fun kv => if kv.1 = k then (kv.1, v) else kv) := by
  unfold putK
  rw [if_pos (by rw [valV_any, h]; rfl)]
theorem put_at : putK (hdK ca a g s t) (Sum.inr ("at" : Str)) (.int x) = hdK ca x g s t := by
  rw [put_of (get_at ca a g s t)]
  simp only [hdK, List.map_cons, List.map_nil, n01, if_neg, if_false, if_true, n12, n13, n14, Ne.symm n12, Ne.symm n13, Ne.symm n14, not_false_eq_true]
theorem put_great : putK (hdK ca a g s t) (Sum.inr ("left" : Str)) (.int x) = hdK ca a x s t := by
  rw [put_of (get_great ca a g s t)]
  simp only [hdK, List.map_cons, List.map_nil, if_neg, if_false, if_true, n02, n12, Ne.symm n23, Ne.symm n24, not_false_eq_true]
theorem put_seed : putK (hdK ca a g s t) (Sum.inr ("seed" : Str)) (.int x) = hdK ca a g x t := by
  rw [put_of (get_seed ca a g s t)]
  simp only [hdK, List.map_cons, List.map_nil, if_neg, if_false, if_true, n03, n13, n23, Ne.symm n34, not_false_eq_true]
theorem put_turn : putK (hdK ca a g s t) (Sum.inr ("turn" : Str)) (.int x) = hdK ca a g s x := by
  rw [put_of (get_turn ca a g s t)]
  simp only [hdK, List.map_cons, List.map_nil, if_neg, if_false, if_true, n04, n14, n24, n34, not_false_eq_true]
end
section
variable {H : Hp} {p ca : Addr} {a g s t : Int} (h : H p = some (.dK (hdK ca a g s t)))
include h
theorem gt_cells : DGet H p (.str "cells") (some (.ref ca)) := by
  have q := DGet.k (k := Sum.inr ("cells" : Str)) h
  rw [get_cells] at q
  exact q
theorem gt_at : DGet H p (.str "at") (some (.int a)) := by
  have q := DGet.k (k := Sum.inr ("at" : Str)) h
  rw [get_at] at q
  exact q
theorem gt_great : DGet H p (.str "left") (some (.int g)) := by
  have q := DGet.k (k := Sum.inr ("left" : Str)) h
  rw [get_great] at q
  exact q
theorem gt_seed : DGet H p (.str "seed") (some (.int s)) := by
  have q := DGet.k (k := Sum.inr ("seed" : Str)) h
  rw [get_seed] at q
  exact q
theorem gt_turn : DGet H p (.str "turn") (some (.int t)) := by
  have q := DGet.k (k := Sum.inr ("turn" : Str)) h
  rw [get_turn] at q
  exact q
theorem pt_at (x : Int) : DPut H p (.str "at") (.int x) (upd H p (.dK (hdK ca x g s t))) := by
  have q := DPut.k (k := Sum.inr ("at" : Str)) (v := .int x) h (show 5 < sizeLine by decide)
  rw [put_at] at q
  exact q
theorem pt_great (x : Int) : DPut H p (.str "left") (.int x) (upd H p (.dK (hdK ca a x s t))) := by
  have q := DPut.k (k := Sum.inr ("left" : Str)) (v := .int x) h (show 5 < sizeLine by decide)
  rw [put_great] at q
  exact q
theorem pt_seed (x : Int) : DPut H p (.str "seed") (.int x) (upd H p (.dK (hdK ca a g x t))) := by
  have q := DPut.k (k := Sum.inr ("seed" : Str)) (v := .int x) h (show 5 < sizeLine by decide)
  rw [put_seed] at q
  exact q
theorem pt_turn (x : Int) : DPut H p (.str "turn") (.int x) (upd H p (.dK (hdK ca a g s x))) := by
  have q := DPut.k (k := Sum.inr ("turn" : Str)) (v := .int x) h (show 5 < sizeLine by decide)
  rw [put_turn] at q
  exact q
end
/-- a hand stands at p -/
def HandAt (H : Hp) (p : Addr) : Prop := ∃ (ca : Addr) (cells : List Int) (a : Nat) (g s t : Int), H p = some (.dK (hdK ca a g s t)) ∧ H ca = some (.lst (cells.map V.int)) ∧ cells.length ≤ 63 ∧ a ≤ cells.length ∧ (∀ c ∈ cells, 0 ≤ c) ∧ 0 ≤ g ∧ 0 ≤ s ∧ 0 ≤ t
/-- its cells stand at c -/
def CellOf (H : Hp) (p c : Addr) : Prop := ∃ a g s t, H p = some (.dK (hdK c a g s t))
/-- what a draw may do: the hand stands again, nothing else has changed -/
structure Stp (p : Addr) (H H' : Hp) : Prop where
  keep : ∀ b o, b ≠ p → H b = some o → H' b = some o
  cell : ∀ c, CellOf H p c → CellOf H' p c
  hand : HandAt H' p
theorem Stp.refl {p : Addr} {H : Hp} (h : HandAt H p) : Stp p H H := ⟨fun _ _ _ e => e, fun _ e => e, h⟩
theorem Stp.trans {p : Addr} {H H1 H2 : Hp} (a : Stp p H H1) (b : Stp p H1 H2) : Stp p H H2 := ⟨fun c o n e => b.keep c o n (a.keep c o n e), fun c e => b.cell c (a.cell c e), b.hand⟩
theorem hdK_inj {ca cb : Addr} {a g s t a' g' s' t' : Int} (h : hdK ca a g s t = hdK cb a' g' s' t') : ca = cb := by
  unfold hdK at h
  injection h with h1 _
  injection h1 with _ h2
  injection h2
theorem cell_eq {H : Hp} {p ca c : Addr} {a g s t : Int} (hp : H p = some (.dK (hdK ca a g s t))) (h : CellOf H p c) : c = ca := by
  obtain ⟨a', g', s', t', h⟩ := h
  rw [hp] at h
  have h1 := Option.some.inj h
  injection h1 with h2
  exact (hdK_inj h2).symm
theorem cell_to {H H' : Hp} {p ca : Addr} {a g s t a' g' s' t' : Int} (hp : H p = some (.dK (hdK ca a g s t))) (hp' : H' p = some (.dK (hdK ca a' g' s' t'))) : ∀ c, CellOf H p c → CellOf H' p c := fun c hc => by
  rw [cell_eq hp hc]
  exact ⟨a', g', s', t', hp'⟩
/-- an object that stood not there at the start may change, whatever has been drawn since -/
theorem Stp.mut {p D : Addr} {H H' : Hp} {o : HO} (h : HandAt H p) (S : Stp p H H') (hD : H D = none) : Stp p H (upd H' D o) := by
  obtain ⟨ca, cells, a, g, s, t, hp, hc, _⟩ := h
  obtain ⟨cb, cells', a', g', s', t', hp', hc', r⟩ := S.hand
  have e : ca = cb := cell_eq hp' (S.cell ca ⟨a, g, s, t, hp⟩)
  have n1 : p ≠ D := ne_of_none hp hD
  have n2 : cb ≠ D := e ▸ ne_of_none hc hD
  exact ⟨fun b o n e => by rw [upd_ne (ne_of_none e hD)]; exact S.keep b o n e, fun c hc => by
    obtain ⟨x1, x2, x3, x4, x5⟩ := S.cell c hc
    exact ⟨x1, x2, x3, x4, by rw [upd_ne n1]; exact x5⟩, cb, cells', a', g', s', t', by rw [upd_ne n1]; exact hp', by rw [upd_ne n2]; exact hc', r⟩
def spDraw : Sp := fun vs H Q _ => ∃ (p : Addr) (m : Int), vs = [.ref p, .int m] ∧ 0 < m ∧ m < 1099511627776 ∧ HandAt H p ∧ ∀ (d : Int) (H' : Hp), 0 ≤ d → d < m → Stp p H H' → Q (.int d) H'
/-- what is asked of the module's names -/
theorem map_at {cells : List Int} {a : Nat} (h : a < cells.length) : ∃ c, cells[a]? = some c ∧ c ∈ cells ∧ atI (cells.map V.int) (a : Int) = some (V.int c) := by
  refine ⟨cells[a], List.getElem?_eq_getElem h, List.getElem_mem h, ?_⟩
  unfold atI
  rw [Evl.ixN_nat (by rw [List.length_map]; exact h)]
  show (cells.map V.int)[a]? = _
  rw [List.getElem?_map, List.getElem?_eq_getElem h] <;> rfl
section
variable {P : Program} {w : World} {K : PySem.W.Frag} {mg : Str → Option Value} {base : Heap}
end
end Law

namespace Law
open PySem L2
section
variable {P : Program} {w : World} {K : PySem.W.Frag} {mg : Str → Option Value} {base : Heap}
abbrev nLawDraw : List Str := ["_law_hand_here", "_law_many", "_law_cell", "_law_digit", "_law_number"]
theorem scLawDraw : FnScope nLawDraw ["_law_hand_here", "_law_many"] (defScope s_law_draw) := ⟨rfl, rfl, rfl, by decide +kernel, rfl, by decide +kernel, by decide +kernel⟩
theorem ok_draw {f : Addr} {fd : FuncData} (F : Fun K "_law_draw" "_law_draw" s_law_draw f fd) (T : NmA mg) : FnOk P w K mg base CX0 1 f fd ["_law_hand_here", "_law_many"] spDraw := by
  refine F.ok scLawDraw (fun vs H Q E h => ?_) (fun cdv A' outer s H vs Q E hr h => ?_)
  · obtain ⟨p, m, rfl, _⟩ := h
    rfl
  · obtain ⟨p, m, rfl, hm0, hm1, hH, k⟩ := h
    have hu := hu_of hr
    refine ⟨_, Evl.pss_cut (ps_if (PW.pt (pw_and (pt_cmpR op_eq (pe_dget hu (pv 0) pe_str (fun _ _ => rfl)) pe_int (nomark _)) (pw_and1 (pt_cmpR op_lt (pe_dget hu (pv 0) pe_str (fun _ _ => rfl)) (pe_callB call_len_seq (by rfl) T.len PySem.boot_len (pa_cons (pe_dget hu (pv 0) pe_str (fun _ _ => rfl)) pa_nil)) (nomark _)))))
        (pss_cons (ps_set (i := 2) scLawDraw.nd rfl (Or.inl rfl) (pe_ix ix_list (pe_dget hu (pv 0) pe_str (fun _ _ => rfl)) (pe_dget hu (pv 0) pe_str (fun _ _ => rfl)) (fun _ _ => rfl)))
        (pss_cons (ps_dput hu (pv 0) pe_str (pe_op op_add (pe_dget hu (pv 0) pe_str (fun _ _ => rfl)) pe_int) rfl)
        (pss_cons (ps_dput hu (pv 0) pe_str (pe_op op_mod (pe_callTy call_int1 (by rfl) T.int (by decide +kernel) (pa_cons (pe_op op_add (pe_op op_add (pe_op op_mul (pe_dget hu (pv 0) pe_str (fun _ _ => rfl)) pe_int) (pv 2)) pe_int) pa_nil)) pe_int) rfl)
        (pss_one (ps_dput hu (pv 0) pe_str (pe_ifExp (pt_cmpR op_ge (pv 2) (pe_op op_pow pe_int pe_int) (nomark _)) (pv 2) pe_int) rfl))))) pss_nil)
      (pss_cons (ps_if (pt_cmpR op_gt (pe_dget hu (pv 0) pe_str (fun _ _ => rfl)) pe_int (nomark _))
        (pss_cons (ps_set (i := 3) scLawDraw.nd rfl (Or.inl rfl) (pe_op op_mod (pe_callTy call_int1 (by rfl) T.int (by decide +kernel) (pa_cons (pe_dget hu (pv 0) pe_str (fun _ _ => rfl)) pa_nil)) (pv 1)))
        (pss_cons (ps_dput hu (pv 0) pe_str (pe_op op_fdivW (pe_dget hu (pv 0) pe_str (fun _ _ => rfl)) (pv 1)) rfl)
        (pss_one (ps_ret (pv 3))))) pss_nil)
      (pss_cons (ps_dput hu (pv 0) pe_str (pe_op op_add (pe_dget hu (pv 0) pe_str (fun _ _ => rfl)) pe_int) rfl)
      (pss_cons (ps_set (i := 4) scLawDraw.nd rfl (Or.inl rfl) (pe_op op_mod (pe_callTy call_int1 (by rfl) T.int (by decide +kernel) (pa_cons (pe_op op_mul (pe_callTy call_int1 (by rfl) T.int (by decide +kernel) (pa_cons (pe_op op_add (pe_dget hu (pv 0) pe_str (fun _ _ => rfl)) (pe_op op_mul pe_int (pe_dget hu (pv 0) pe_str (fun _ _ => rfl)))) pa_nil)) pe_int) pa_nil)) pe_int))
      (pss_cons (ps_set (i := 4) scLawDraw.nd rfl (Or.inl rfl) (pe_op op_mod (pe_callTy call_int1 (by rfl) T.int (by decide +kernel) (pa_cons (pe_op op_mul (pv 4) (pe_op op_add (pe_op op_fdiv (pv 4) pe_int) pe_int)) pa_nil)) pe_int))
      (pss_cons (ps_set (i := 4) scLawDraw.nd rfl (Or.inl rfl) (pe_op op_mod (pe_callTy call_int1 (by rfl) T.int (by decide +kernel) (pa_cons (pe_op op_add (pe_op op_mul (pv 4) (pe_op op_add (pe_op op_fdiv (pv 4) pe_int) pe_int)) (pe_dget hu (pv 0) pe_str (fun _ _ => rfl))) pa_nil)) pe_int))
      (pss_one (ps_ret (pe_op op_mod (pe_callTy call_int1 (by rfl) T.int (by decide +kernel) (pa_cons (pe_op op_fdiv (pv 4) pe_int) pa_nil)) (pv 1))))))))), ?_⟩
    refine ⟨fun σ' H' => ∃ cv : Option V, σ' = [some (.ref p), some (.int m), cv, none, none] ∧ Stp p H H', ?_, ?_⟩
    · obtain ⟨ca, cells, a, g, s0, t, hp, hca, h63, ha, hc, hg, hs, ht⟩ := id hH
      have npc : ca ≠ p := ne_of hca hp (by intro z; cases z)
      have stop : ∃ cv : Option V, start nLawDraw [.ref p, .int m] = [some (.ref p), some (.int m), cv, none, none] ∧ Stp p H H := ⟨none, rfl, Stp.refl hH⟩
      refine ⟨_, rfl, p, _, rfl, gt_great hp, rfl, _, rfl, ite2 (fun hg0 => ?_) (fun _ => stop)⟩
      refine ⟨_, rfl, p, _, rfl, gt_at hp, _, rfl, p, _, rfl, gt_cells hp, ca, _, rfl, .inl (SqL.of hca), _, _, rfl, rfl, _, rfl, ite2 (fun hlt => ?_) (fun _ => stop)⟩
      have hlt' : a < cells.length := by
        have z := of_decide_eq_true hlt
        rw [List.length_map] at z
        omega
      obtain ⟨c, hc1, hc2, hc3⟩ := map_at hlt'
      have c0 := hc c hc2
      refine ⟨_, rfl, p, _, rfl, gt_cells hp, _, rfl, p, _, rfl, gt_at hp, ca, _, _, _, rfl, rfl, SqL.of hca, hc3, ?_⟩
      refine ⟨_, rfl, p, _, rfl, gt_at hp, _, _, rfl, rfl, _, rfl, p, _, rfl, pt_at hp _, ?_⟩
      refine ⟨_, rfl, p, _, rfl, gt_seed upd_same, _, _, rfl, rfl, .inr ⟨by decide, by decide⟩, _, rfl, _, _, rfl, rfl, _, _, rfl, rfl, .inl ⟨_, rfl, _, _, rfl, rfl, (by show (0 : Int) < 2147483629; decide), _, rfl, p, _, rfl, pt_seed upd_same _, ?_⟩⟩
      rw [upd_upd]
      refine ⟨_, rfl, _, _, rfl, rfl, ⟨by decide, by decide, by decide⟩, _, _, rfl, rfl, _, rfl, ite2 (fun _ => ?_) (fun _ => ?_)⟩
      · refine ⟨_, rfl, _, rfl, p, _, rfl, pt_great upd_same _, ?_⟩
        rw [upd_upd]
        exact ⟨_, rfl, fun b o n e => by rw [upd_ne n]; exact e, cell_to hp upd_same, ca, cells, a + 1, _, _, _, upd_same, by rw [upd_ne npc]; exact hca, h63, hlt', hc, c0, Int.emod_nonneg _ (by decide), ht⟩
      · refine ⟨_, rfl, p, _, rfl, pt_great upd_same _, ?_⟩
        rw [upd_upd]
        exact ⟨_, rfl, fun b o n e => by rw [upd_ne n]; exact e, cell_to hp upd_same, ca, cells, a + 1, _, _, _, upd_same, by rw [upd_ne npc]; exact hca, h63, hlt', hc, by decide, Int.emod_nonneg _ (by decide), ht⟩
    · rintro σ' H' ⟨cv, rfl, S1⟩
      obtain ⟨ca, cells, a, g, s0, t, hp, hca, h63, ha, hc, hg, hs, ht⟩ := S1.hand
      have npc : ca ≠ p := ne_of hca hp (by intro z; cases z)
      refine ⟨_, rfl, p, _, rfl, gt_great hp, _, _, rfl, rfl, _, rfl, ite2 (fun hg0 => ?_) (fun _ => ?_)⟩
      · refine ⟨_, rfl, p, _, rfl, gt_great hp, .inl ⟨_, rfl, _, rfl, _, _, rfl, rfl, hm0, ?_⟩⟩
        refine ⟨_, rfl, p, _, rfl, gt_great hp, _, rfl, _, _, rfl, rfl, wide_div (b := 40) hm0 (by omega) (by decide) (by decide), _, rfl, p, _, rfl, pt_great hp _, _, rfl, ?_⟩
        exact k _ _ (Int.emod_nonneg _ (by omega)) (Int.emod_lt_of_pos _ hm0) ⟨fun b o n e => by rw [upd_ne n]; exact S1.keep b o n e, fun c hc => cell_to hp upd_same c (S1.cell c hc), ca, cells, a, _, _, _, upd_same, by rw [upd_ne npc]; exact hca, h63, ha, hc, Int.ediv_nonneg hg (by omega), hs, ht⟩
      · refine ⟨_, rfl, p, _, rfl, gt_turn hp, _, _, rfl, rfl, _, rfl, p, _, rfl, pt_turn hp _, ?_⟩
        refine ⟨_, rfl, p, _, rfl, gt_seed upd_same, _, rfl, p, _, rfl, gt_turn upd_same, _, _, rfl, rfl, .inl ⟨by decide, by decide⟩, _, _, rfl, rfl, .inl ⟨_, rfl, _, _, rfl, rfl, .inr ⟨by decide, by decide⟩, .inl ⟨_, rfl, _, _, rfl, rfl, (by show (0 : Int) < 2147483647; decide), ?_⟩⟩⟩
        generalize hx : ((s0 + 7927 * (t + 1)) * 48271) % 2147483647 = x
        have x0 : 0 ≤ x := by rw [← hx]; exact Int.emod_nonneg _ (by decide)
        have x1 : x < 2147483647 := by rw [← hx]; exact Int.emod_lt_of_pos _ (by decide)
        refine ⟨_, rfl, _, rfl, _, _, rfl, rfl, ⟨by decide, by decide⟩, _, _, rfl, rfl, _, _, rfl, rfl, .inl ⟨by omega, by omega⟩, .inl ⟨_, rfl, _, _, rfl, rfl, (by show (0 : Int) < 2147483587; decide), ?_⟩⟩
        generalize hy : (x * (x / 1013 + 69623)) % 2147483587 = y
        have y0 : 0 ≤ y := by rw [← hy]; exact Int.emod_nonneg _ (by decide)
        have y1 : y < 2147483587 := by rw [← hy]; exact Int.emod_lt_of_pos _ (by decide)
        refine ⟨_, rfl, _, rfl, _, _, rfl, rfl, ⟨by decide, by decide⟩, _, _, rfl, rfl, _, _, rfl, rfl, .inl ⟨by omega, by omega⟩, _, rfl, p, _, rfl, gt_turn upd_same, _, _, rfl, rfl, .inl ⟨_, rfl, _, _, rfl, rfl, (by show (0 : Int) < 2147483399; decide), ?_⟩⟩
        refine ⟨_, rfl, _, _, rfl, rfl, ⟨by decide, by decide⟩, .inl ⟨_, rfl, _, rfl, _, _, rfl, rfl, hm0, ?_⟩⟩
        exact k _ _ (Int.emod_nonneg _ (by omega)) (Int.emod_lt_of_pos _ hm0) ⟨fun b o n e => by rw [upd_ne n]; exact S1.keep b o n e, fun c hc => cell_to hp upd_same c (S1.cell c hc), ca, cells, a, _, _, _, upd_same, by rw [upd_ne npc]; exact hca, h63, ha, hc, hg, hs, by omega⟩
end
end Law

namespace Law
open PySem L2
section
variable {P : Program} {w : World} {K : PySem.W.Frag} {mg : Str → Option Value} {base : Heap}
theorem cut63 {xs : List V} (h : xs.length ≤ 63) : cutV xs none (some 63) = xs := by
  unfold cutV
  show (xs.drop 0).take (HT.sIx xs.length xs.length (some ((63 : Nat) : Int)) - 0) = xs
  rw [HT.sIx_nat, Nat.min_eq_right (by omega), Nat.sub_zero, List.drop_zero, List.take_length]
theorem merge_app : ∀ (more acc : List (Key × V)), ((acc ++ more).map (·.1)).Nodup → mergeK acc more = acc ++ more
  | [], acc, _ => (List.append_nil acc).symm
  | p :: r, acc, h => by
    have hn : valV acc p.1 = none := by
      unfold valV
      rw [List.find?_eq_none.mpr]
      · rfl
      · intro kv hkv e
        rw [List.map_append, List.nodup_append] at h
        exact h.2.2 kv.1 (List.mem_map_of_mem hkv) p.1 (List.mem_map_of_mem List.mem_cons_self) (of_decide_eq_true e)
    have e : putK acc p.1 p.2 = acc ++ [p] := putK_new _ hn
    show mergeK (putK acc p.1 p.2) r = acc ++ p :: r
    rw [e, merge_app r (acc ++ [p]) (by rw [List.append_assoc]; exact h), List.append_assoc] <;> rfl
theorem hd_keys : ([Sum.inr ("cells" : Str), Sum.inr ("at" : Str), Sum.inr ("left" : Str), Sum.inr ("seed" : Str), Sum.inr ("turn" : Str)] : List Key).Nodup := by decide +kernel
theorem merge_hd (ca : Addr) (a g s t : Int) : mergeK [] (hdK ca a g s t) = hdK ca a g s t := merge_app _ [] hd_keys
def spHand (K : PySem.W.Frag) : Sp := fun vs H Q _ => ∃ (a : Addr) (ns : List Int), vs = [.ref a] ∧ SqL K H a (ns.map V.int) ∧ ns.length ≤ 63 ∧ ∀ (p : Addr) (H' : Hp), H p = none → Same H H' → HandAt H' p → Q (.ref p) H'
theorem scHand : FnScope ["_law_script", "_law_cells", "_law_cell"] ["_law_script"] (defScope s_law_hand) := ⟨rfl, rfl, rfl, by decide +kernel, rfl, by decide +kernel, by decide +kernel⟩
def absI (n : Int) : Int := if n < 0 then -n else n
theorem absI_nn (n : Int) : 0 ≤ absI n := by
  unfold absI
  split <;> omega
theorem ok_hand {f : Addr} {fd : FuncData} (F : Fun K "_law_hand" "_law_hand" s_law_hand f fd) (T : NmA mg) : FnOk P w K mg base CX0 1 f fd ["_law_script"] (spHand K) := by
  refine F.ok scHand (fun vs H Q E h => ?_) (fun cdv A outer s H vs Q E hr h => ?_)
  · obtain ⟨a, ns, rfl, _⟩ := h
    rfl
  · obtain ⟨a, ns, rfl, hS, h63, k⟩ := h
    have hu := hu_of hr
    refine ⟨_, pss_cons (ps_setLc (i := 1) (own := [("_law_cell", 2)]) (g := gName 2) (tt := tYes) rfl scHand.nd rfl rfl (sw_true rfl rfl rfl (by decide +kernel)) (pi_list (pe_slice sl_list (pv 0) po_none (po_some pe_int)))
        (blkOk_by (own := [("_law_cell", 2)]) (N := ["_law_script", "_law_cells", "_law_cell"]) (sc := defScope s_law_hand) (by decide +kernel)) (fun _ _ _ _ _ => pg_name (i := 2) scHand.nd rfl (Or.inl rfl)) (fun _ _ _ _ _ => pts_nil)
        (fun _ _ _ _ _ => pe_callB call_abs (by rfl) T.abs (by decide +kernel) (pa_cons (pe_callTy call_int1 (by rfl) T.int (by decide +kernel) (pa_cons (pv 2) pa_nil)) pa_nil)))
      (pss_one (ps_ret (pe_disp (pps_cons pe_str (pv 1) (pps_cons pe_str pe_int (pps_cons pe_str pe_int (pps_cons pe_str (pe_op op_add pe_int (pe_callB call_len_seq (by rfl) T.len PySem.boot_len (pa_cons (pv 1) pa_nil))) (pps_cons pe_str pe_int pps_nil))))) (by rfl) (by rfl) (fun z => by cases z) (by decide)))), ?_⟩
    refine ⟨_, rfl, 63, rfl, a, _, rfl, hS, fun sp nsp => ?_⟩
    have h63' : (ns.map V.int).length ≤ 63 := by rw [List.length_map]; exact h63
    rw [cut63 h63']
    refine ⟨sp, rfl, ⟨_, SqL.of upd_same⟩, fun D hD => ?_⟩
    have sD : Same H (upd (upd H sp (.lst (ns.map V.int))) D (.lst [])) := fun b o e => by
      have z : upd H sp (.lst (ns.map V.int)) b = some o := by
        rw [upd_ne (ne_of_none e nsp)]
        exact e
      rw [upd_ne (ne_of_none z hD)]
      exact z
    have nDs : sp ≠ D := ne_of_none upd_same hD
    have hD0 : H D = none := by
      rw [upd_ne nDs.symm] at hD
      exact hD
    refine lc_list (K := K) (a := sp) (xs := ns.map V.int) (fun i H' => Same H H' ∧ H' sp = some (.lst (ns.map V.int)) ∧ H' D = some (.lst (((ns.take i).map absI).map V.int))) ⟨sD, by rw [upd_ne nDs, upd_same], upd_same⟩ (fun i H' _ h => SqL.of h.2.1) ?_ ?_
    · rintro i x H' hi ⟨s1, h1, h2⟩
      obtain ⟨z, hz, rfl⟩ : ∃ z, ns[i]? = some z ∧ x = V.int z := by
        rw [List.getElem?_map] at hi
        cases e : ns[i]? with
        | none => rw [e] at hi; cases hi
        | some z => rw [e] at hi; exact ⟨z, rfl, (Option.some.inj hi).symm⟩
      have hil : i < ns.length := (List.getElem?_eq_some_iff.mp hz).1
      refine ⟨rfl, _, rfl, .inl ⟨_, rfl, _, rfl, _, h2, ?_, ?_⟩⟩
      · rw [List.length_map, List.length_map, List.length_take]
        exact small1000 (by omega)
      · refine ⟨fun b o e => ?_, ?_, ?_⟩
        · have hb : b ≠ D := ne_of_none e hD0
          rw [upd_ne hb]
          exact s1 b o e
        · rw [upd_ne nDs]
          exact h1
        · rw [upd_same, List.take_add_one, hz, List.map_append, List.map_append] <;> rfl
    · rintro H' ⟨s1, h1, h2⟩
      rw [List.length_map, List.take_length] at h2
      intro p np
      have npD : D ≠ p := ne_of_none h2 np
      have s2 : Same H (upd H' p (.dK [])) := fun b o e => by
        rw [upd_ne (ne_of_none (s1 b o e) np)]
        exact s1 b o e
      refine ⟨_, rfl, _, rfl, D, _, rfl, .inl (SqL.of (by rw [upd_ne npD]; exact h2)), _, _, rfl, rfl, upd_same, hdK D 0 0 (40961 + ((ns.map absI).map V.int).length) 0, rfl, (show 5 ≤ 15 by decide), ?_⟩
      rw [merge_hd, upd_upd]
      refine k p _ (s1.free np) (fun b o e => by rw [upd_ne (ne_of_none (s1 b o e) np)]; exact s1 b o e) ⟨D, ns.map absI, 0, 0, _, 0, upd_same, by rw [upd_ne npD]; exact h2, by rw [List.length_map]; exact h63, Nat.zero_le _, ?_, by decide, by omega, by decide⟩
      intro c hc
      obtain ⟨z, _, rfl⟩ := List.mem_map.mp hc
      exact absI_nn z
theorem Stp.sqL {p l : Addr} {H H' : Hp} {xs : List V} (S : Stp p H H') (hp : HandAt H p) (h : SqL K H l xs) : SqL K H' l xs := by
  obtain ⟨ca, cells, a, g, s0, t, hp, _⟩ := hp
  rcases h with (h | ⟨o, h⟩) | h
  · exact .inl (.inl (S.keep _ _ (ne_of h hp (by intro z; cases z)) h))
  · exact .inl (.inr ⟨o, S.keep _ _ (ne_of h hp (by intro z; cases z)) h⟩)
  · exact .inr h
theorem Stp.sqT {p l : Addr} {H H' : Hp} {xs : List V} (S : Stp p H H') (hp : HandAt H p) (h : SqT K H l xs) : SqT K H' l xs := by
  obtain ⟨ca, cells, a, g, s0, t, hp, _⟩ := hp
  rcases h with (h | ⟨o, h⟩) | h
  · exact .inl (.inl (S.keep _ _ (ne_of h hp (by intro z; cases z)) h))
  · exact .inl (.inr ⟨o, S.keep _ _ (ne_of h hp (by intro z; cases z)) h⟩)
  · exact .inr h
/-- a def of the module that may be called by its name -/
structure Cl (P : Program) (w : World) (K : PySem.W.Frag) (mg : Str → Option Value) (base : Heap) (CX : CXT) (k : Nat) (x : Str) (f : Addr) (fd : FuncData) (ps : List Str) (sp : Sp) : Prop where
  ok : FnOk P w K mg base CX k f fd ps sp
  b : Binds K fd ps []
  m : mg x = some (.ref f)
  kp : PySem.W.keepIn K (.ref f) = true
theorem Cl.call {X : Cx} {k : Nat} {x : Str} {f : Addr} {fd : FuncData} {ps : List Str} {sp : Sp} {p pos : Pos} {e : Expr} {es : List Expr} {t : TA} (c : Cl X.prog X.w X.K X.mg X.base CX0 k x f fd ps sp) (hr : Room k X.A) (ha : PA X (e :: es) t) (hg : Gl X x := by rfl) (hdb : (x == ("__debug__" : Str)) = false := by decide)
    (he : starEach (e :: es) X.env = (false, eval e X.env) :: starEach es X.env := by rfl) (hpl : (backTo pos (starEach es X.env)).any (·.1) = false := by rfl) :
    PE X (.Call (.Name x p) (e :: es) [] pos) (tCall sp [] E0 t) := pe_call c.ok hr hg c.m c.kp c.b .nil pass0 ha hdb he hpl
def spAny (K : PySem.W.Frag) : Sp := fun vs H Q _ => ∃ (p l : Addr) (xs : List V), vs = [.ref p, .ref l] ∧ (SqL K H l xs ∨ SqT K H l xs) ∧ 0 < xs.length ∧ xs.length < 1073741824 ∧ HandAt H p ∧ ∀ (i : Nat) (x : V) (H' : Hp), xs[i]? = some x → Stp p H H' → Q x H'
theorem scAny : FnScope ["_law_hand_here", "_law_things"] ["_law_hand_here", "_law_things"] (defScope s_law_any) := ⟨rfl, rfl, rfl, by decide +kernel, rfl, by decide +kernel, by decide +kernel⟩
theorem ok_any {f fD : Addr} {fd fdD : FuncData} (F : Fun K "_law_any" "_law_any" s_law_any f fd) (T : NmA mg) (D : Cl P w K mg base CX0 1 "_law_draw" fD fdD ["_law_hand_here", "_law_many"] spDraw) : FnOk P w K mg base CX0 2 f fd ["_law_hand_here", "_law_things"] (spAny K) := by
  refine F.ok scAny (fun vs H Q E h => ?_) (fun cdv A outer s H vs Q E hr h => ?_)
  · obtain ⟨p, l, xs, rfl, _⟩ := h
    rfl
  · obtain ⟨p, l, xs, rfl, hS, h0, h1, hH, k⟩ := h
    refine ⟨_, pss_one (ps_ret (pe_ix ix_seq (pv 1) (D.call hr (pa_cons (pv 0) (pa_cons (pe_callB call_len_seq (by rfl) T.len PySem.boot_len (pa_cons (pv 1) pa_nil)) pa_nil))) (fun _ _ => rfl))), ?_⟩
    refine ⟨_, rfl, _, rfl, _, rfl, l, xs, rfl, hS, p, _, rfl, by omega, by omega, hH, fun d H' d0 d1 S => ?_⟩
    obtain ⟨j, rfl⟩ := Int.eq_ofNat_of_zero_le d0
    have hj : j < xs.length := by omega
    have ha : atI xs ((j : Nat) : Int) = some xs[j] := by
      unfold atI
      rw [Evl.ixN_nat hj]
      exact List.getElem?_eq_getElem hj
    rcases hS with hS | hS
    · exact .inl ⟨l, xs, _, _, rfl, rfl, S.sqL hH hS, ha, k j _ H' (List.getElem?_eq_getElem hj) S⟩
    · exact .inr (.inl ⟨l, xs, _, _, rfl, rfl, S.sqT hH hS, ha, k j _ H' (List.getElem?_eq_getElem hj) S⟩)
end
end Law

namespace Law
open PySem L2
/-! ### the program's own: integers, fractions -/
def Ty3 (K : PySem.W.Frag) (H : Hp) (x : V) (bi bb : Bool) : Prop := ∃ t, TyX K H x t ∧ PySem.W.kitOne K t (.type "int") = some bi ∧ PySem.W.kitOne K t (.type "bool") = some bb
theorem ty3_int {K : PySem.W.Frag} {H : Hp} (i : Int) : Ty3 K H (.int i) true false := ⟨_, .base (.int i), kit_ty (by decide +kernel), kit_ty (by decide +kernel)⟩
theorem tyx_tup {K : PySem.W.Frag} {H : Hp} {a : Addr} {xs : List V} (h : SqT K H a xs) : TyX K H (.ref a) (.type "tuple") := by
  rcases h with (h | ⟨o, h⟩) | ⟨o, its, n, hk, hc, _⟩
  · exact .base (.tup h)
  · exact .fTuple h
  · exact .kTuple hk hc
theorem kit_tt {K : PySem.W.Frag} : PySem.W.kitOne K (.type "tuple") (.type "tuple") = some true := kit_ty (by decide +kernel)
end Law
namespace L2
open PySem
theorem Same.sqT {K : PySem.W.Frag} {H H' : Hp} {a : Addr} {xs : List V} (e : Same H H') (h : SqT K H a xs) : SqT K H' a xs := by
  rcases h with (h | ⟨o, h⟩) | h
  · exact .inl (.inl (e _ _ h))
  · exact .inl (.inr ⟨o, e _ _ h⟩)
  · exact .inr h
theorem Same.new {H : Hp} {p : Addr} {o : HO} (h : H p = none) : Same H (upd H p o) := fun b u e => by
  rw [upd_ne (ne_of_none e h)]
  exact e
theorem Same.mut {H H' : Hp} {p : Addr} {o : HO} (e : Same H H') (h : H p = none) : Same H (upd H' p o) := fun b u hb => by
  rw [upd_ne (ne_of_none hb h)]
  exact e b u hb
end L2
namespace Law
open PySem L2
section
variable {P : Program} {w : World} {K : PySem.W.Frag} {mg : Str → Option Value} {base : Heap}
def spIsInt (K : PySem.W.Frag) : Sp := fun vs H Q _ => ∃ x bi bb, vs = [x] ∧ Ty3 K H x bi bb ∧ Q (.bl (bi && !bb)) H
theorem scIsInt : FnScope ["thing"] ["thing"] (defScope s_is_integer) := ⟨rfl, rfl, rfl, by decide +kernel, rfl, by decide +kernel, by decide +kernel⟩
theorem ok_isint {f : Addr} {fd : FuncData} (F : Fun K "is_integer" "is_integer" s_is_integer f fd) (T : NmA mg) : FnOk P w K mg base CX0 1 f fd ["thing"] (spIsInt K) := by
  refine F.ok scIsInt (fun vs H Q E h => ?_) (fun cdv A outer s H vs Q E hr h => ?_)
  · obtain ⟨x, bi, bb, rfl, _⟩ := h
    rfl
  · obtain ⟨x, bi, bb, rfl, ⟨t, ty, h1, h2⟩, k⟩ := h
    refine ⟨_, pss_one (ps_ret (pe_and (pe_callB call_isi (by rfl) T.isi (by decide +kernel) (pa_cons (pv 0) (pa_cons (pe_bltn (v := .ty "int") (u := .type "int") (by rfl) T.int (by decide +kernel) rfl) pa_nil)))
      (pe_one (pe_not (pe_callB call_isi (by rfl) T.isi (by decide +kernel) (pa_cons (pv 0) (pa_cons (pe_bltn (v := .ty "bool") (u := .type "bool") (by rfl) T.bool (by decide +kernel) rfl) pa_nil))))))), ?_⟩
    refine ⟨_, rfl, _, _, _, _, _, rfl, .ty "int", ty, h1, _, rfl, ?_⟩
    cases bi with
    | true => exact iteT ⟨_, rfl, _, _, _, _, _, rfl, .ty "bool", ty, h2, _, rfl, k⟩
    | false => exact iteF k
def spWithin (K : PySem.W.Frag) : Sp := fun vs H Q _ => ∃ (lo hi : Int) (x : V), vs = [.int lo, .int hi, x] ∧ ((∃ i, x = .int i ∧ Q (.bl (decide (lo ≤ i) && decide (i ≤ hi))) H) ∨ ∃ bi bb, Ty3 K H x bi bb ∧ (bi && !bb) = false ∧ Q (.bl false) H)
theorem scWithin : FnScope ["low", "high", "thing"] ["low", "high", "thing"] (defScope s_is_within) := ⟨rfl, rfl, rfl, by decide +kernel, rfl, by decide +kernel, by decide +kernel⟩
theorem ok_within {f fI : Addr} {fd fdI : FuncData} (F : Fun K "is_within" "is_within" s_is_within f fd) (I : Cl P w K mg base CX0 1 "is_integer" fI fdI ["thing"] (spIsInt K)) : FnOk P w K mg base CX0 2 f fd ["low", "high", "thing"] (spWithin K) := by
  refine F.ok scWithin (fun vs H Q E h => ?_) (fun cdv A outer s H vs Q E hr h => ?_)
  · obtain ⟨lo, hi, x, rfl, _⟩ := h
    rfl
  · obtain ⟨lo, hi, x, rfl, h⟩ := h
    refine ⟨_, pss_one (ps_ret (pe_and (I.call hr (pa_cons (pv 2) pa_nil)) (pe_one (pe_chain op_le op_le (pv 0) (pv 2) (pv 1))))), ?_⟩
    rcases h with ⟨i, rfl, k⟩ | ⟨bi, bb, ty, hb, k⟩
    · refine ⟨_, rfl, _, true, false, rfl, ty3_int i, true, rfl, iteT ?_⟩
      refine ⟨_, rfl, _, rfl, _, _, rfl, rfl, _, rfl, ?_⟩
      refine ite2 (fun h1 => ?_) (fun h1 => ?_)
      · refine ⟨_, rfl, _, _, rfl, rfl, ?_⟩
        rw [h1, Bool.true_and] at k
        exact k
      · rw [Bool.not_eq_true] at h1
        rw [h1, Bool.false_and] at k
        exact k
    · refine ⟨_, rfl, x, bi, bb, rfl, ty, _, rfl, ?_⟩
      rw [hb]
      exact iteF k
def isW (lo hi : Int) : V → Bool
  | .int i => decide (lo ≤ i) && decide (i ≤ hi)
  | _ => false
def Known (K : PySem.W.Frag) (H : Hp) (x : V) : Prop := (∃ i, x = .int i) ∨ ∃ bi bb, Ty3 K H x bi bb ∧ (bi && !bb) = false ∧ ∀ lo hi, isW lo hi x = false
def spRowB (K : PySem.W.Frag) : Sp := fun vs H Q _ => ∃ (b : Int) (a : Addr) (xs : List V), vs = [.int b, .ref a] ∧ SqT K H a xs ∧ xs.length ≤ 1000 ∧ (∀ x ∈ xs, ∃ i, x = .int i) ∧ ∀ H', Same H H' → Q (.bl (xs.all (isW 0 (b - 1)))) H'
theorem scRowB : FnScope ["bound", "thing", "part"] ["bound", "thing"] (defScope s_is_row_below) := ⟨rfl, rfl, rfl, by decide +kernel, rfl, by decide +kernel, by decide +kernel⟩
theorem all_take {α : Type} (f : α → Bool) : ∀ xs : List α, (xs.map f).all id = xs.all f
  | [] => rfl
  | x :: xs => by rw [List.map_cons, List.all_cons, List.all_cons, all_take f xs] <;> rfl
theorem ok_rowb {f fW : Addr} {fd fdW : FuncData} (F : Fun K "is_row_below" "is_row_below" s_is_row_below f fd) (T : NmA mg) (W : Cl P w K mg base CX0 2 "is_within" fW fdW ["low", "high", "thing"] (spWithin K)) : FnOk P w K mg base CX0 3 f fd ["bound", "thing"] (spRowB K) := by
  refine F.ok scRowB (fun vs H Q E h => ?_) (fun cdv A outer s H vs Q E hr h => ?_)
  · obtain ⟨b, a, xs, rfl, _⟩ := h
    rfl
  · obtain ⟨b, a, xs, rfl, hS, hz, hx, k⟩ := h
    refine ⟨_, pss_one (ps_ret (pe_and (pe_callB call_isi (by rfl) T.isi (by decide +kernel) (pa_cons (pv 1) (pa_cons (pe_bltn (v := .ty "tuple") (u := .type "tuple") (by rfl) T.tuple (by decide +kernel) rfl) pa_nil)))
      (pe_one (pe_callB (cr_all rfl) (by rfl) T.all (by decide +kernel) (pa_cons (pe_lc (own := [("part", 2)]) (g := gName 2) (tt := tYes) rfl scRowB.nd (pi_tup (pv 1))
        (blkOk_by (own := [("part", 2)]) (N := ["bound", "thing", "part"]) (sc := defScope s_is_row_below) (by decide +kernel)) (fun _ _ _ _ _ => pg_name (i := 2) scRowB.nd rfl (Or.inl rfl)) (fun _ _ _ _ _ => pts_nil)
        (fun _ _ _ _ _ => W.call hr (pa_cons pe_int (pa_cons (pe_op op_sub (pv 0) pe_int) (pa_cons (pv 2) pa_nil))))) pa_nil))))), ?_⟩
    refine ⟨_, rfl, _, _, _, _, _, rfl, .ty "tuple", tyx_tup hS, kit_tt, _, rfl, iteT ?_⟩
    refine ⟨_, rfl, a, rfl, ⟨_, hS⟩, fun D hD => ?_⟩
    refine lc_tup (K := K) (a := a) (xs := xs) (fun i H' => Same H H' ∧ H' D = some (.lst (((xs.take i).map (isW 0 (b - 1))).map V.bl))) ⟨Same.new hD, upd_same⟩ (fun i H' _ h => h.1.sqT hS) ?_ ?_
    · rintro i x H' hi ⟨s1, h1⟩
      obtain ⟨z, rfl⟩ := hx x (List.mem_of_getElem? hi)
      refine ⟨rfl, _, rfl, _, _, rfl, rfl, _, rfl, _, _, _, rfl, .inl ⟨z, rfl, _, h1, ?_, s1.mut hD, ?_⟩⟩
      · rw [List.length_map, List.length_map, List.length_take]
        exact small1000 (by omega)
      · rw [upd_same, List.take_add_one, hi, List.map_append, List.map_append] <;> rfl
    · rintro H' ⟨s1, h1⟩
      rw [List.take_length] at h1
      refine ⟨D, _, rfl, SqL.of h1, ?_⟩
      rw [all_take]
      exact k H' s1
theorem dec_one (n : Nat) : decide (V.int (n : Int) = V.int 1) = (n == 1) := by
  rw [dec_int]
  by_cases e : n = 1
  · subst e
    rfl
  · rw [beq_eq_false_iff_ne.mpr e, beq_eq_false_iff_ne.mpr (by omega)]
def spFrac (K : PySem.W.Frag) : Sp := fun vs H Q _ => ∃ (a : Addr) (t b : Int), vs = [.ref a] ∧ SqT K H a [.int t, .int b] ∧ Q (.bl (decide (0 < b) && (Nat.gcd t.natAbs b.natAbs == 1))) H
theorem scFrac : FnScope ["thing", "top", "bottom"] ["thing"] (defScope s_is_fraction) := ⟨rfl, rfl, rfl, by decide +kernel, rfl, by decide +kernel, by decide +kernel⟩
theorem ok_frac {f fI : Addr} {fd fdI : FuncData} (F : Fun K "is_fraction" "is_fraction" s_is_fraction f fd) (T : NmA mg) (I : Cl P w K mg base CX0 1 "is_integer" fI fdI ["thing"] (spIsInt K)) : FnOk P w K mg base CX0 2 f fd ["thing"] (spFrac K) := by
  refine F.ok scFrac (fun vs H Q E h => ?_) (fun cdv A outer s H vs Q E hr h => ?_)
  · obtain ⟨a, t, b, rfl, _⟩ := h
    rfl
  · obtain ⟨a, t, b, rfl, hS, k⟩ := h
    refine ⟨_, pss_cons (ps_if (PW.pt (pw_or (pt_not (pt_val (pe_callB call_isi (by rfl) T.isi (by decide +kernel) (pa_cons (pv 0) (pa_cons (pe_bltn (v := .ty "tuple") (u := .type "tuple") (by rfl) T.tuple (by decide +kernel) rfl) pa_nil)))))
        (pw_or1 (pt_cmpR op_ne (pe_callB call_len_seq (by rfl) T.len PySem.boot_len (pa_cons (pv 0) pa_nil)) pe_int (nomark _))))) (pss_one (ps_ret pe_bl)) pss_nil)
      (pss_cons (ps_asg (pv 0) (pg_tup (by rfl) (pgs_cons (pg_name (i := 1) scFrac.nd rfl (Or.inl rfl)) (pgs_cons (pg_name (i := 2) scFrac.nd rfl (Or.inl rfl)) pgs_nil))))
      (pss_one (ps_ret (pe_and (I.call hr (pa_cons (pv 1) pa_nil)) (pe_and (I.call hr (pa_cons (pv 2) pa_nil)) (pe_and (pe_cmpR op_gt (pv 2) pe_int (nomark _)) (pe_one (pe_cmpR op_eq (pe_callBfun cr_gcd (by rfl) T.gcd (pa_cons (pv 1) (pa_cons (pv 2) pa_nil))) pe_int (nomark _))))))))), ?_⟩
    refine ⟨_, rfl, _, _, _, _, _, rfl, .ty "tuple", tyx_tup hS, kit_tt, _, rfl, ?_⟩
    refine iteF ⟨_, rfl, a, _, rfl, .inr hS, rfl, _, rfl, iteF ?_⟩
    refine ⟨_, rfl, a, _, rfl, hS, rfl, _, _, rfl, _, _, rfl, rfl, ?_⟩
    refine ⟨_, rfl, _, true, false, rfl, ty3_int t, _, rfl, iteT ⟨_, rfl, _, true, false, rfl, ty3_int b, _, rfl, iteT ⟨_, rfl, _, _, rfl, rfl, _, rfl, ?_⟩⟩⟩
    refine ite2 (fun h1 => ?_) (fun h1 => ?_)
    · refine ⟨_, rfl, _, rfl, t, b, rfl, rfl, ?_⟩
      rw [dec_one]
      rw [h1, Bool.true_and] at k
      exact k
    · rw [Bool.not_eq_true] at h1
      rw [h1, Bool.false_and] at k
      exact k
end
end Law

namespace L2
open PySem PySem.Spec PyProof.Rows
/-! ### math.lcm of great ints -/
theorem lcm_le (a b : Nat) (hb : 0 < b) (ha : 0 < a) : Nat.lcm a b ≤ a * b := Nat.le_of_dvd (Nat.mul_pos ha hb) (Nat.lcm_dvd_mul a b)
theorem lcm_lt {a b : Nat} (ha : a < 2 ^ 9000) (hb : b < 2 ^ 9000) : Nat.lcm a b < 2 ^ 18000 := by
  by_cases h0 : a = 0
  · subst h0
    rw [Nat.lcm_zero_left]
    exact Nat.two_pow_pos _
  by_cases h1 : b = 0
  · subst h1
    rw [Nat.lcm_zero_right]
    exact Nat.two_pow_pos _
  have h := lcm_le a b (Nat.pos_of_ne_zero h1) (Nat.pos_of_ne_zero h0)
  have h2 : a * b < 2 ^ 9000 * 2 ^ 9000 := Nat.mul_lt_mul_of_lt_of_lt ha hb
  rw [← Nat.pow_add] at h2
  exact Nat.lt_of_le_of_lt h h2
def rLcm : List V → Hp → VK → Prop := fun vs H Q => ∃ a b : Int, vs = [.int a, .int b] ∧ a.natAbs < 2 ^ 9000 ∧ b.natAbs < 2 ^ 9000 ∧ Q (.int ((Nat.lcm a.natAbs b.natAbs : Nat) : Int)) H
theorem cr_lcm {X : Cx} : CallR X (.builtin "math.lcm") rLcm := by
  intro pins s σ H vs us Q I r h
  obtain ⟨a, b, rfl, ha, hb, q⟩ := h
  obtain ⟨t, u, rfl⟩ := Vals.int2 r
  have l1 : ∀ {n : Nat}, n < 2 ^ 9000 → n.log2 < 9000 := fun h => PySem.Flt.log2_lt_of (by decide) h
  have m1 : max 1 a.natAbs < 2 ^ 9000 := by
    rw [Nat.max_def]
    split
    · exact ha
    · exact Nat.one_lt_two_pow (by decide)
  have m2 : max a.natAbs b.natAbs < 2 ^ 9000 := by
    rw [Nat.max_def]
    split
    · exact hb
    · exact ha
  have e : ((Nat.lcm 1 a.natAbs).lcm b.natAbs : Nat) = Nat.lcm a.natAbs b.natAbs := by rw [Nat.lcm_one_left]
  have hz : ((((Nat.lcm 1 a.natAbs).lcm b.natAbs : Nat) : Int)).natAbs.log2 < bitsLine := by
    rw [e, Int.natAbs_natCast]
    exact Nat.lt_of_lt_of_le (PySem.Flt.log2_lt_of (by decide) (lcm_lt ha hb)) (by decide)
  have c1 := l1 m1
  have c2 := l1 m2
  refine PySem.call_function_meets PySem.W.MGF.kind_lcm PySem.W.MGF.plain_lcm PySem.W.MGF.entry_lcm (PySem.W.MGF.args_lcm _ _) (PySem.W.mg_run_lcm a t b u (by omega) (by omega) hz).meets ?_
  exact ⟨.int _, H, I.tok _, ⟨_, rfl⟩, by rw [e]; exact q⟩
end L2

namespace Law
open PySem L2
/-! ### lists of fractions -/
abbrev Fr := Int × Int
def FrAt (K : PySem.W.Frag) (H : Hp) (v : V) (f : Fr) : Prop := ∃ s, v = .ref s ∧ SqT K H s [.int f.1, .int f.2]
def FrsIn (K : PySem.W.Frag) (H : Hp) (vs : List V) (fs : List Fr) : Prop := vs.length = fs.length ∧ ∀ (i : Nat) (v : V), vs[i]? = some v → ∃ f, fs[i]? = some f ∧ FrAt K H v f
def FrsAt (K : PySem.W.Frag) (H : Hp) (a : Addr) (fs : List Fr) : Prop := ∃ vs, SqL K H a vs ∧ FrsIn K H vs fs
/-- of moderate size -/
def FrOk (f : Fr) : Prop := 0 < f.2 ∧ f.2.natAbs < 2 ^ 62 ∧ f.1.natAbs < 2 ^ 62
theorem FrAt.same {K : PySem.W.Frag} {H H' : Hp} {v : V} {f : Fr} (e : Same H H') (h : FrAt K H v f) : FrAt K H' v f := by
  obtain ⟨s, h1, h2⟩ := h
  exact ⟨s, h1, e.sqT h2⟩
theorem FrsIn.same {K : PySem.W.Frag} {H H' : Hp} {vs : List V} {fs : List Fr} (e : Same H H') (h : FrsIn K H vs fs) : FrsIn K H' vs fs := ⟨h.1, fun i v hv => by
  obtain ⟨f, h1, h2⟩ := h.2 i v hv
  exact ⟨f, h1, h2.same e⟩⟩
theorem FrsAt.same {K : PySem.W.Frag} {H H' : Hp} {a : Addr} {fs : List Fr} (e : Same H H') (h : FrsAt K H a fs) : FrsAt K H' a fs := by
  obtain ⟨vs, h1, h2⟩ := h
  exact ⟨vs, e.seq h1, h2.same e⟩
def lcmAll (fs : List Fr) : Nat := fs.foldl (fun m f => Nat.lcm m f.2.natAbs) 1
theorem lcmAll_snoc (fs : List Fr) (f : Fr) : lcmAll (fs ++ [f]) = Nat.lcm (lcmAll fs) f.2.natAbs := by
  unfold lcmAll
  rw [List.foldl_append] <;> rfl
theorem lcm_fold : ∀ (fs : List Fr) (m : Nat), 0 < m → (∀ f ∈ fs, FrOk f) → 0 < fs.foldl (fun m f => Nat.lcm m f.2.natAbs) m ∧ fs.foldl (fun m f => Nat.lcm m f.2.natAbs) m ≤ m * 2 ^ (62 * fs.length)
  | [], m, hm, _ => ⟨hm, by simp⟩
  | f :: fs, m, hm, h => by
    obtain ⟨h1, h2, _⟩ := h f List.mem_cons_self
    have p : 0 < f.2.natAbs := by omega
    have q : 0 < Nat.lcm m f.2.natAbs := Nat.lcm_pos hm p
    obtain ⟨i1, i2⟩ := lcm_fold fs (Nat.lcm m f.2.natAbs) q fun g hg => h g (List.mem_cons_of_mem _ hg)
    refine ⟨i1, Nat.le_trans i2 ?_⟩
    have e1 : Nat.lcm m f.2.natAbs ≤ m * 2 ^ 62 := Nat.le_trans (lcm_le _ _ p hm) (Nat.mul_le_mul_left _ (Nat.le_of_lt h2))
    have e2 : m * 2 ^ (62 * (f :: fs).length) = m * 2 ^ 62 * 2 ^ (62 * fs.length) := by
      rw [List.length_cons, Nat.mul_add, Nat.mul_one, Nat.add_comm, Nat.pow_add, Nat.mul_assoc]
    rw [e2]
    exact Nat.mul_le_mul_right _ e1
theorem lcmAll_pos {fs : List Fr} (h : ∀ f ∈ fs, FrOk f) : 0 < lcmAll fs := (lcm_fold fs 1 (by decide) h).1
theorem lcmAll_lt {fs : List Fr} (h : ∀ f ∈ fs, FrOk f) (hl : fs.length ≤ 24) : lcmAll fs < 2 ^ 1489 := by
  have z := (lcm_fold fs 1 (by decide) h).2
  rw [Nat.one_mul] at z
  refine Nat.lt_of_le_of_lt z (Nat.pow_lt_pow_right (by decide) (by omega))
theorem pow_mono {n a b : Nat} (h : n < 2 ^ a) (hab : a ≤ b) : n < 2 ^ b := Nat.lt_of_lt_of_le h (Nat.pow_le_pow_right (by decide) hab)
section
variable {P : Program} {w : World} {K : PySem.W.Frag} {mg : Str → Option Value} {base : Heap}
def spComB (K : PySem.W.Frag) : Sp := fun vs H Q _ => ∃ (a : Addr) (fs : List Fr), vs = [.ref a] ∧ FrsAt K H a fs ∧ fs.length ≤ 24 ∧ (∀ f ∈ fs, FrOk f) ∧ Q (.int (lcmAll fs : Nat)) H
theorem scComB : FnScope ["fractions", "found", "_", "bottom"] ["fractions"] (defScope s_common_bottom) := ⟨rfl, rfl, rfl, by decide +kernel, rfl, by decide +kernel, by decide +kernel⟩
theorem ok_comb {f : Addr} {fd : FuncData} (F : Fun K "common_bottom" "common_bottom" s_common_bottom f fd) (T : NmA mg) : FnOk P w K mg base CX0 1 f fd ["fractions"] (spComB K) := by
  refine F.ok scComB (fun vs H Q E h => ?_) (fun cdv A outer s H vs Q E hr h => ?_)
  · obtain ⟨a, fs, rfl, _⟩ := h
    rfl
  · obtain ⟨a, fs, rfl, ⟨vs, hS, hF⟩, hl, ho, k⟩ := h
    refine ⟨_, pss_cons (ps_set (i := 1) scComB.nd rfl (Or.inl rfl) pe_int)
      (pss_cons (ps_for PassesOwn.never rfl (pi_list (pv 0)) (pg_tup (by rfl) (pgs_cons (pg_name (i := 2) scComB.nd rfl (Or.inl rfl)) (pgs_cons (pg_name (i := 3) scComB.nd rfl (Or.inl rfl)) pgs_nil)))
        (pss_one (ps_set (i := 1) scComB.nd rfl (Or.inl rfl) (pe_callBfun cr_lcm (by rfl) T.lcm (pa_cons (pv 1) (pa_cons (pv 3) pa_nil))))))
      (pss_one (ps_ret (pv 1)))), ?_⟩
    refine ⟨_, rfl, a, rfl, ⟨_, hS⟩, for_list (K := K) (a := a) (xs := vs) (fun i σ H' => H' = H ∧ ∃ u v : Option V, σ = [some (.ref a), some (.int (lcmAll (fs.take i) : Nat)), u, v]) ⟨rfl, none, none, rfl⟩ (fun i σ H' _ h => by rw [h.1]; exact hS) ?_ ?_⟩
    · rintro i x σ H' hi ⟨rfl, u, v, rfl⟩
      obtain ⟨g, hg, t, rfl, hT⟩ := hF.2 i x hi
      have gm : g ∈ fs := List.mem_of_getElem? hg
      obtain ⟨g1, g2, g3⟩ := ho g gm
      have hsub : ∀ f ∈ fs.take i, FrOk f := fun f hf => ho f (List.mem_of_mem_take hf)
      have hlt := lcmAll_lt hsub (by rw [List.length_take]; omega)
      refine ⟨t, _, rfl, hT, rfl, _, _, rfl, _, _, rfl, rfl, ?_⟩
      refine ⟨_, rfl, _, rfl, _, _, rfl, pow_mono (a := 1489) (by rw [Int.natAbs_natCast]; exact hlt) (by decide), pow_mono g2 (by decide), ?_⟩
      refine ⟨rfl, some (.int g.1), some (.int g.2), ?_⟩
      rw [List.take_add_one, hg]
      show _ = [some (V.ref a), some (V.int ((lcmAll (fs.take i ++ [g]) : Nat) : Int)), some (V.int g.1), some (V.int g.2)]
      rw [lcmAll_snoc]
      rfl
    · rintro σ H' ⟨rfl, u, v, rfl⟩
      refine ⟨_, rfl, ?_⟩
      rw [hF.1, List.take_length]
      exact k
def topsOf (fs : List Fr) (b : Int) : List Int := fs.map fun f => f.1 * (b / f.2)
def spTops (K : PySem.W.Frag) : Sp := fun vs H Q _ => ∃ (a : Addr) (fs : List Fr) (b : Int), vs = [.ref a, .int b] ∧ FrsAt K H a fs ∧ fs.length ≤ 24 ∧ (∀ f ∈ fs, FrOk f) ∧ ∀ p H', H p = none → Same H H' → H' p = some (.lst ((topsOf fs b).map V.int)) → Q (.ref p) H'
theorem scTops : FnScope ["fractions", "bottom", "top", "part"] ["fractions", "bottom"] (defScope s_tops_over) := ⟨rfl, rfl, rfl, by decide +kernel, rfl, by decide +kernel, by decide +kernel⟩
theorem ok_tops {f : Addr} {fd : FuncData} (F : Fun K "tops_over" "tops_over" s_tops_over f fd) : FnOk P w K mg base CX0 1 f fd ["fractions", "bottom"] (spTops K) := by
  refine F.ok scTops (fun vs H Q E h => ?_) (fun cdv A outer s H vs Q E hr h => ?_)
  · obtain ⟨a, fs, b, rfl, _⟩ := h
    rfl
  · obtain ⟨a, fs, b, rfl, ⟨vs, hS, hF⟩, hl, ho, k⟩ := h
    refine ⟨_, pss_one (ps_ret (pe_lc (own := [("top", 2), ("part", 3)]) (g := gTup K 2 (gCons (gName 2) (gCons (gName 3) gNil))) (tt := tYes) rfl scTops.nd (pi_list (pv 0))
        (blkOk_by (own := [("top", 2), ("part", 3)]) (N := ["fractions", "bottom", "top", "part"]) (sc := defScope s_tops_over) (by decide +kernel))
        (fun _ _ _ _ _ => pg_tup (by rfl) (pgs_cons (pg_name (i := 2) scTops.nd rfl (Or.inl rfl)) (pgs_cons (pg_name (i := 3) scTops.nd rfl (Or.inl rfl)) pgs_nil))) (fun _ _ _ _ _ => pts_nil)
        (fun _ _ _ _ _ => pe_op op_mul (pv 2) (pe_op op_fdivW (pv 1) (pv 3))))), ?_⟩
    refine ⟨_, rfl, a, rfl, ⟨_, hS⟩, fun D hD => ?_⟩
    refine lc_list (K := K) (a := a) (xs := vs) (fun i H' => Same H H' ∧ H' D = some (.lst ((topsOf (fs.take i) b).map V.int))) ⟨Same.new hD, upd_same⟩ (fun i H' _ h => h.1.seq hS) ?_ ?_
    · rintro i x H' hi ⟨s1, h1⟩
      obtain ⟨g, hg, t, rfl, hT⟩ := hF.2 i x hi
      obtain ⟨g1, g2, g3⟩ := ho g (List.mem_of_getElem? hg)
      have hil : i < fs.length := (List.getElem?_eq_some_iff.mp hg).1
      refine ⟨t, _, rfl, s1.sqT hT, rfl, _, _, rfl, _, _, rfl, rfl, ?_⟩
      refine ⟨rfl, _, rfl, _, rfl, _, rfl, _, _, rfl, rfl, wide_div g1 g2 (by decide) (by decide), _, _, rfl, rfl, .inl ⟨by omega, by omega⟩, _, h1, ?_, s1.mut hD, ?_⟩
      · unfold topsOf
        rw [List.length_map, List.length_map, List.length_take]
        exact small1000 (by omega)
      · unfold topsOf
        rw [upd_same, List.take_add_one, hg, List.map_append, List.map_append] <;> rfl
    · rintro H' ⟨s1, h1⟩
      rw [hF.1, List.take_length] at h1
      exact k D H' hD s1 h1
def spOne (K : PySem.W.Frag) : Sp := fun vs H Q _ => ∃ (a : Addr) (fs : List Fr), vs = [.ref a] ∧ FrsAt K H a fs ∧ fs.length ≤ 24 ∧ (∀ f ∈ fs, FrOk f) ∧ ∀ H', Same H H' → Q (.bl (decide ((topsOf fs (lcmAll fs : Nat)).sum = ((lcmAll fs : Nat) : Int)))) H'
theorem scOne : FnScope ["fractions", "bottom"] ["fractions"] (defScope s_are_one_together) := ⟨rfl, rfl, rfl, by decide +kernel, rfl, by decide +kernel, by decide +kernel⟩
theorem ok_one {f fC fT : Addr} {fd fdC fdT : FuncData} (F : Fun K "are_one_together" "are_one_together" s_are_one_together f fd) (T : NmA mg) (C : Cl P w K mg base CX0 1 "common_bottom" fC fdC ["fractions"] (spComB K))
    (U : Cl P w K mg base CX0 1 "tops_over" fT fdT ["fractions", "bottom"] (spTops K)) : FnOk P w K mg base CX0 2 f fd ["fractions"] (spOne K) := by
  refine F.ok scOne (fun vs H Q E h => ?_) (fun cdv A outer s H vs Q E hr h => ?_)
  · obtain ⟨a, fs, rfl, _⟩ := h
    rfl
  · obtain ⟨a, fs, rfl, hA, hl, ho, k⟩ := h
    refine ⟨_, pss_cons (ps_set (i := 1) scOne.nd rfl (Or.inl rfl) (C.call hr (pa_cons (pv 0) pa_nil)))
      (pss_one (ps_ret (pe_cmpR op_eq (pe_callB (cr_sum rfl) (by rfl) T.sum (by decide +kernel) (pa_cons (U.call hr (pa_cons (pv 0) (pa_cons (pv 1) pa_nil))) pa_nil)) (pv 1) (nomark _)))), ?_⟩
    refine ⟨_, rfl, a, fs, rfl, hA, hl, ho, ?_⟩
    refine ⟨_, rfl, _, rfl, a, fs, _, rfl, hA, hl, ho, fun p H' hp s1 h1 => ⟨p, _, rfl, SqL.of h1, _, rfl, rfl, ?_⟩⟩
    rw [dec_int]
    have z := k H' s1
    rw [show (((topsOf fs (lcmAll fs : Nat)).sum == ((lcmAll fs : Nat) : Int)) = decide ((topsOf fs (lcmAll fs : Nat)).sum = ((lcmAll fs : Nat) : Int))) from rfl]
    exact z
end
end Law

namespace PySem
namespace LawEnum
open AutoSeq1 (wpAny_loadPart')
theorem meets_enumerate_newT (l : Addr) (items : Array Value) (n : Nat) (dct : Option Addr) (sl : Array (Option Value)) :
    Meets (Builtin.«enumerate.__new__» ⟨[.type "enumerate", .ref l], []⟩) (fun _ R s => s.heap.get? l = some { cls := .type "tuple", dict := dct, data := .seq items n, slots := sl } ∧
      R (.ok (.ret (.ref (s.heap.push { cls := .type "tuple_iterator", data := .fields #[.ref l, .int 0 0] }).objs.size)))
        { s with heap := (s.heap.push { cls := .type "tuple_iterator", data := .fields #[.ref l, .int 0 0] }).push { cls := .type "enumerate", data := .fields #[.none, .bool false, .ref s.heap.objs.size, rawInt 0, .none, .none] } }) :=
  .of_wp fun prog w A R s h => by
    obtain ⟨hp, g, d, tk, os⟩ := s; obtain ⟨hl, h⟩ := h
    have hsub := sub_enumerate
    have hL : Heap.IsTuple (Shared.heap ⟨hp, g, d, tk, os⟩) l items := ⟨_, hl, rfl, n, rfl⟩
    wp_walk using wpAny_loadPart' hl
    refine wpAny_stack_any fun st => wpAny_pure ?_
    split
    · rename_i c _ _ _ _ _
      cases (c == Value.type "enumerate")
      · wp_walk using wpAny_loadPart' hl, wpAny_pyIter_tuple hL
        exact ⟨_, rfl, h⟩
      · wp_walk using wpAny_loadPart' hl, wpAny_pyIter_tuple hL
        exact ⟨_, rfl, h⟩
    · wp_walk using wpAny_loadPart' hl, wpAny_pyIter_tuple hL
      exact ⟨_, rfl, h⟩
section
variable {prog : Program} {w : World} {A : Around} {E : Value → Shared → Prop} {s : Shared}
theorem call_enumerate_tuple {l : Addr} {items : Array Value} {Q : Value → Shared → Prop} (hL : s.heap.IsTuple l items)
    (h : ∀ h', IsEnum h' (s.heap.objs.size + 1) s.heap.objs.size 0 .none → h'.IsTupleIter s.heap.objs.size l 0 → h'.objs.size = s.heap.objs.size + 2 →
      (∀ b o, s.heap.get? b = some o → h'.get? b = some o) → Q (.ref (s.heap.objs.size + 1)) { s with heap := h' }) :
    wpAny (model prog w) A (call (.type "enumerate") [.ref l]) Q E s := by
  obtain ⟨⟨c, dct, dt, sl⟩, hl, hc, n, hd⟩ := hL
  replace hc : c = .type "tuple" := hc
  replace hd : dt = .seq items n := hd
  subst hc hd
  refine callType_new F.called_enumerate (by decide) (F.typeCall_enumerate_1 _) (F.newCall_enumerate_1 _) (fun obj => F.args_object_init_2 obj _) F.entry_enumerate_new
    (meets_enumerate_newT l items n dct sl) ⟨hl, ?_⟩
  have hz : (s.heap.push { cls := .type "tuple_iterator", data := .fields #[.ref l, .int 0 0] }).objs.size = s.heap.objs.size + 1 := Heap.size_push ..
  show _ ∧ _
  rw [hz]
  have he : IsEnum ((s.heap.push { cls := .type "tuple_iterator", data := .fields #[.ref l, .int 0 0] }).push
      { cls := .type "enumerate", data := .fields #[.none, .bool false, .ref s.heap.objs.size, rawInt 0, .none, .none] }) (s.heap.objs.size + 1) s.heap.objs.size 0 .none := by
    have := Heap.get?_push_size (s.heap.push { cls := .type "tuple_iterator", data := .fields #[.ref l, .int 0 0] })
      (o := { cls := .type "enumerate", data := .fields #[.none, .bool false, .ref s.heap.objs.size, rawInt 0, .none, .none] }) rfl
    rw [hz] at this; exact this
  refine ⟨⟨_, he, rfl⟩, h _ he ⟨_, Heap.get?_push_of_some _ (Heap.get?_push_size _ rfl), rfl, rfl⟩ (by rw [Heap.size_push, hz]) fun b o x => Heap.get?_push_of_some _ (Heap.get?_push_of_some _ x)⟩
end
theorem draws_end {prog : Program} {w : World} {A : Around} (hh : A.handled = none) (it t : Addr) (items : Array Value) (i : Nat) (hx : items[i]? = none) :
    Draws prog w A it [it, t] 0 (fun _ _ => True) (fun _ h => h.IsTupleIter it t i ∧ h.IsTuple t items) where
  live := fun _ _ st => let ⟨o, ho, _⟩ := st.1; ⟨o, ho⟩
  frame := fun _ _ _ st hk => ⟨st.1.at fun o e => hk it (by simp) o e, st.2.at fun o e => hk t (by simp) o e⟩
  item := fun i s Q E hi st hQ => absurd hi (Nat.not_lt_zero i)
  done := fun s Q E st hE => wpAny_nextOf_tuple_end hh st.1 st.2 hx hE
end LawEnum
end PySem
namespace L2
open PySem PySem.Spec PyProof.Rows
/-- the tuple at a, item by item, each in a new pair with its number -/
def IteT (K : PySem.W.Frag) (a : Addr) : It :=
  ⟨fun i H => ∃ (xs : List V) (x : V), SqT K H a xs ∧ xs[i]? = some x, fun i H v H' => ∃ T x, v = .ref T ∧ H T = none ∧ H' = upd H T (.tup [.int (i : Nat), x]) ∧ ∀ xs, SqT K H a xs → xs[i]? = some x, fun i H => ∃ xs : List V, SqT K H a xs ∧ xs.length ≤ i⟩
theorem turn_enumT {P : Program} {w : World} {K : PySem.W.Frag} {elts : List Expr} {kk : Nat} {tpos : Pos} (a e it : Addr) :
    Turn P w K (.Tuple elts kk tpos) (IteT K a) [e, it] e (fun i h => (∃ old, IsEnum h e it ((i : Nat) : Int) old) ∧ h.IsTupleIter it a i ∧ e ≠ it ∧ a ≠ it ∧ e ≠ a) where
  mem := by simp
  obj := fun i h st b hb => by
    obtain ⟨⟨old, he⟩, ⟨o, ho, hc, hd⟩, _⟩ := st
    have e' : b = e ∨ b = it := by simpa using hb
    rcases e' with z | z
    · rw [z]; exact ⟨_, he, fun v q => nomatch q⟩
    · rw [z]; exact ⟨o, ho, fun v q => by rw [hd] at q; cases q⟩
  keep := fun i h h' st k => let ⟨⟨old, he⟩, hi, hne, h1, h2⟩ := st; ⟨⟨old, k e (by simp) _ he⟩, hi.at fun o q => k it (by simp) o q, hne, h1, h2⟩
  item := by
    intro X hP hw hK hc i pins s σ H E I hf st hg
    subst hP hw hK
    obtain ⟨⟨old, he⟩, hit, hne, hai, hea⟩ := st
    obtain ⟨xs, x, hq, hx⟩ := hg
    obtain ⟨its, rv, p, hz⟩ := I.tuple hq
    obtain ⟨u, hu, ru⟩ := rv.get hx
    have hel : e < s.heap.objs.size := Heap.lt_size he
    have hil : it < s.heap.objs.size := by obtain ⟨_, q, _⟩ := hit; exact Heap.lt_size q
    have hlt : i < its.toArray.size := by
      have z := (List.getElem?_eq_some_iff.mp hu).1
      simpa using z
    have D := Draws.tuple (prog := X.prog) (w := X.w) (A := X.A.in1) (I.ok.hd hc) it a hai its.toArray
    refine wpAny_pyNext_enum_itemD D he ⟨hit, p⟩ hlt hne (by simp [hne, hea]) fun x' h' tk hPx ho hit' hT hsz hk => ?_
    have ex : x' = u := by
      have z : its.toArray[i]? = some x' := hPx
      have z2 : its.toArray[i]? = some u := by simpa using hu
      rw [z2] at z
      exact (Option.some.inj z).symm
    subst ex
    refine ⟨_, rfl, wpAny_letOwnedTupleGo_enum (s := { s with heap := h', toks := tk + 1 }) ho fun h'' he' sb => ?_⟩
    have hT2 : h''.get? s.heap.objs.size = some { cls := .type "tuple", data := .seq #[.int i tk, x'] } := (sb.2 _ (Nat.ne_of_gt hel)).trans hT
    have new : ObjOk X.prog X.w (upd H s.heap.objs.size (.tup [.int (i : Nat), x])) h'' s.heap.objs.size (.tup [.int (i : Nat), x]) :=
      ⟨by show 2 ≤ sizeLine; decide, [.int i tk, x'], .cons ⟨_, rfl⟩ (.cons ru .nil), ⟨_, hT2, rfl, _, rfl⟩⟩
    have I1 : Inv X pins σ (upd H s.heap.objs.size (.tup [.int (i : Nat), x])) { s with heap := h'', toks := tk + 1 } :=
      I.turnedNew (ch := [e, it]) (fun b ob hb q => (sb.2 b (fun z => hb (by simp [z]))).trans (hk b ob (fun z => hb (by simp [z])) (fun z => hb (by simp [z])) q)) hf (Nat.le_refl _) new
    refine ⟨.ref s.heap.objs.size, _, I1, rfl, ⟨_, x, rfl, I.hok.fresh (Nat.le_refl _), rfl, fun ys hy => by rw [I.tuple_inj hy hq]; exact hx⟩, ⟨⟨x', ?_⟩, hit'.1.at fun o q => (sb.2 it (Ne.symm hne)).trans q, hne, hai, hea⟩, fun b hb => ?_⟩
    · have e1 : ((i + 1 : Nat) : Int) = (i : Int) + 1 := by omega
      rw [e1]; exact he'
    · have hb' : b < s.heap.objs.size := by
        have e' : b = e ∨ b = it := by simpa using hb
        rcases e' with z | z
        · rw [z]; exact hel
        · rw [z]; exact hil
      rw [upd_ne (Nat.ne_of_lt hb')]
      exact (hf b hb).1
  done := by
    intro X hP hw hK hc i pins s σ H E I hf st hg
    subst hP hw hK
    obtain ⟨⟨old, he⟩, hit, hne, hai, hea⟩ := st
    obtain ⟨xs, hq, hx⟩ := hg
    obtain ⟨its, rv, p, hz⟩ := I.tuple hq
    obtain ⟨f0, f1, f2, f3, f4, f5⟩ := hf it (by simp)
    have hl := rv.length
    have D := LawEnum.draws_end (prog := X.prog) (w := X.w) (A := X.A.in1) (I.ok.hd hc) it a its.toArray i (by simp; omega)
    exact wpAny_pyNext_enum_endD D he ⟨hit, p⟩ fun h' eb => ⟨rfl, I.turned (t' := s.toks) (fun b o hb q => eb b o hb q) f0 f1 f3 f4 f5⟩
  self := fun A i s Q E st h => let ⟨⟨_, he⟩, _⟩ := st; wpAny_pyIter_enum he h
def iEnumT (K : PySem.W.Frag) (ta : TA) : TI := fun σ H R => ta σ H fun vs H1 => ∃ a xs, vs = [.ref a] ∧ SqT K H1 a xs ∧ R (IteT K a) H1
theorem pi_enumT {X : Cx} {e : Expr} {ta : TA} {p pos tpos : Pos} {elts : List Expr} {kk : Nat} (hg : Gl X "enumerate") (hm : X.mg "enumerate" = none) (ha : PA X [e] ta) (hs : starEach [e] X.env = [(false, eval e X.env)] := by rfl) :
    PI X (.Tuple elts kk tpos) (.Call (.Name "enumerate" p) [e] [] pos) (iEnumT X.K ta) := by
  refine ⟨fun pins s σ H R I h => ?_⟩
  refine Call_ (ld_blt I hg hm boot_enumerate (PyProof.Rows.callWith_type1 (thn (ha.run pos pins s σ H _ I h) fun us s1 ⟨vs, H1, I1, r1, q1⟩ => ?_) hs rfl))
  obtain ⟨a, xs, ex, hq, q⟩ := q1
  subst ex
  cases r1 with
  | cons r rr =>
    cases rr
    cases r
    obtain ⟨its, rv, p', hz⟩ := I1.tuple hq
    have hal : a < s1.heap.objs.size := by obtain ⟨o, ho, _⟩ := p'; exact Heap.lt_size ho
    refine LawEnum.call_enumerate_tuple p' fun h' he hit hsz hk => wpAny_pyIter_enum he ?_
    have I2 : Inv X pins σ H1 { s1 with heap := h' } := I1.kept (t' := s1.toks) hk
    refine ⟨s1.heap.objs.size + 1, [s1.heap.objs.size + 1, s1.heap.objs.size], _, _, H1, rfl, I2, turn_enumT a (s1.heap.objs.size + 1) s1.heap.objs.size, ⟨⟨.none, he⟩, hit, Nat.succ_ne_self _, Nat.ne_of_lt hal, Nat.ne_of_gt (Nat.lt_succ_of_lt hal)⟩, fun b hb => ?_, q⟩
    have e' : b = s1.heap.objs.size + 1 ∨ b = s1.heap.objs.size := by simpa using hb
    have hle : s1.heap.objs.size ≤ b := by
      rcases e' with z | z
      · rw [z]; exact Nat.le_add_right _ _
      · rw [z]; exact Nat.le_refl _
    exact I1.fpOk hle (I1.hok.fresh hle)
theorem walk_enumT {K : PySem.W.Frag} {a : Addr} {xs : List V} : Walk (IteT K a) xs.length (fun H => SqT K H a xs) (fun i H v H' => ∃ T x, v = .ref T ∧ H T = none ∧ H' = upd H T (.tup [.int (i : Nat), x]) ∧ xs[i]? = some x) where
  goes := fun i H hi h => ⟨xs, xs[i], h, List.getElem?_eq_getElem hi⟩
  stops := fun H h => ⟨xs, h, Nat.le_refl _⟩
  yields := fun i H x H' hi h ⟨T, y, h1, h2, h3, h4⟩ => ⟨T, y, h1, h2, h3, h4 xs h⟩
end L2

namespace Law
open PySem L2
/-! ### data: ints, tuples of ints, moves -/
def tupD (l : List Int) : PyData := .tuple (l.map .int)
def frD (f : Fr) : PyData := .tuple [.int f.1, .int f.2]
abbrev Mv := Fr × List Int
def mvD (m : Mv) : PyData := .tuple [frD m.1, tupD m.2]
def mvsD (ms : List Mv) : PyData := .tuple (ms.map mvD)
theorem eqvAll_map {α : Type} [DecidableEq α] (g : α → PyData) (hg : ∀ a b, PyData.eqv (g a) (g b) = decide (a = b)) : ∀ xs ys : List α, PyData.eqvAll (xs.map g) (ys.map g) = decide (xs = ys)
  | [], [] => by simp [PyData.eqvAll]
  | [], _ :: _ => by simp [PyData.eqvAll]
  | _ :: _, [] => by simp [PyData.eqvAll]
  | x :: xs, y :: ys => by
    rw [List.map_cons, List.map_cons, PyData.eqvAll, hg, eqvAll_map g hg xs ys]
    by_cases h1 : x = y <;> by_cases h2 : xs = ys <;> simp [h1, h2]
theorem eqv_int (a b : Int) : PyData.eqv (.int a) (.int b) = decide (a = b) := by
  rw [PyData.eqv]
  rfl
theorem eqv_tupD (a b : List Int) : PyData.eqv (tupD a) (tupD b) = decide (a = b) := by
  unfold tupD
  rw [PyData.eqv]
  exact eqvAll_map PyData.int eqv_int a b
theorem eqv_frD (a b : Fr) : PyData.eqv (frD a) (frD b) = decide (a = b) := by
  obtain ⟨a1, a2⟩ := a
  obtain ⟨b1, b2⟩ := b
  unfold frD
  rw [PyData.eqv, PyData.eqvAll, PyData.eqvAll, PyData.eqvAll, eqv_int, eqv_int]
  by_cases h1 : a1 = b1 <;> by_cases h2 : a2 = b2 <;> simp [h1, h2]
theorem eqv_mvD (a b : Mv) : PyData.eqv (mvD a) (mvD b) = decide (a = b) := by
  obtain ⟨a1, a2⟩ := a
  obtain ⟨b1, b2⟩ := b
  unfold mvD
  rw [PyData.eqv, PyData.eqvAll, PyData.eqvAll, PyData.eqvAll, eqv_frD, eqv_tupD]
  by_cases h1 : a1 = b1 <;> by_cases h2 : a2 = b2 <;> simp [h1, h2]
theorem eqv_mvsD (a b : List Mv) : PyData.eqv (mvsD a) (mvsD b) = decide (a = b) := by
  unfold mvsD
  rw [PyData.eqv]
  exact eqvAll_map mvD eqv_mvD a b
theorem lay_all {α : Type} (g : α → PyData) (n : Nat) (hg : ∀ a, (g a).canLay0 = true ∧ (g a).depth ≤ n) : ∀ xs : List α, PyData.canLayAll0 (xs.map g) = true ∧ PyData.depthAll (xs.map g) ≤ n
  | [] => by simp [PyData.canLayAll0, PyData.depthAll]
  | x :: xs => by
    obtain ⟨h1, h2⟩ := hg x
    obtain ⟨h3, h4⟩ := lay_all g n hg xs
    rw [List.map_cons, PyData.canLayAll0, PyData.depthAll, h1, h3]
    exact ⟨rfl, Nat.max_le.mpr ⟨h2, h4⟩⟩
theorem lay_int (a : Int) : (PyData.int a).canLay0 = true ∧ (PyData.int a).depth ≤ 0 := by simp [PyData.canLay0, PyData.depth]
theorem lay_tupD (a : List Int) : (tupD a).canLay0 = true ∧ (tupD a).depth ≤ 1 := by
  have h := lay_all PyData.int 0 lay_int a
  unfold tupD
  rw [PyData.canLay0, PyData.depth]
  exact ⟨h.1, by omega⟩
theorem lay_frD (a : Fr) : (frD a).canLay0 = true ∧ (frD a).depth ≤ 1 := by simp [frD, PyData.canLay0, PyData.canLayAll0, PyData.depth, PyData.depthAll]
theorem lay_mvD (a : Mv) : (mvD a).canLay0 = true ∧ (mvD a).depth ≤ 2 := by
  have h1 := lay_frD a.1
  have h2 := lay_tupD a.2
  unfold mvD
  rw [PyData.canLay0, PyData.canLayAll0, PyData.canLayAll0, PyData.canLayAll0, PyData.depth, PyData.depthAll, PyData.depthAll, PyData.depthAll, h1.1, h2.1]
  exact ⟨rfl, by omega⟩
theorem lay_mvsD (a : List Mv) : (mvsD a).canLay0 = true ∧ (mvsD a).depth ≤ 3 := by
  have h := lay_all mvD 2 lay_mvD a
  unfold mvsD
  rw [PyData.canLay0, PyData.depth]
  exact ⟨h.1, by omega⟩
theorem shaped_of {d : PyData} {n : Nat} (h : d.canLay0 = true ∧ d.depth ≤ n) (hn : n ≤ 64) : SeqAt.shaped d = true := by
  unfold SeqAt.shaped
  rw [h.1, Bool.true_and, decide_eq_true (Nat.le_trans h.2 hn)]
theorem dp_ints {K : PySem.W.Frag} {H : Hp} : ∀ l : List Int, DpAll K H (l.map V.int) (l.map PyData.int)
  | [] => .nil
  | x :: l => .cons (.int x) (dp_ints l)
/-! ### moves and systems -/
def MvAt (K : PySem.W.Frag) (H : Hp) (v : V) (m : Mv) : Prop := ∃ a s l, v = .ref a ∧ SqT K H a [.ref s, .ref l] ∧ SqT K H s [.int m.1.1, .int m.1.2] ∧ SqT K H l (m.2.map V.int)
def MvsIn (K : PySem.W.Frag) (H : Hp) (vs : List V) (ms : List Mv) : Prop := vs.length = ms.length ∧ ∀ (i : Nat) (v : V), vs[i]? = some v → ∃ m, ms[i]? = some m ∧ MvAt K H v m
def MvsAt (K : PySem.W.Frag) (H : Hp) (a : Addr) (ms : List Mv) : Prop := ∃ vs, SqT K H a vs ∧ MvsIn K H vs ms
theorem MvAt.same {K : PySem.W.Frag} {H H' : Hp} {v : V} {m : Mv} (e : Same H H') (h : MvAt K H v m) : MvAt K H' v m := by
  obtain ⟨a, s, l, h1, h2, h3, h4⟩ := h
  exact ⟨a, s, l, h1, e.sqT h2, e.sqT h3, e.sqT h4⟩
theorem MvsIn.same {K : PySem.W.Frag} {H H' : Hp} {vs : List V} {ms : List Mv} (e : Same H H') (h : MvsIn K H vs ms) : MvsIn K H' vs ms := ⟨h.1, fun i v hv => by
  obtain ⟨m, h1, h2⟩ := h.2 i v hv
  exact ⟨m, h1, h2.same e⟩⟩
theorem MvsAt.same {K : PySem.W.Frag} {H H' : Hp} {a : Addr} {ms : List Mv} (e : Same H H') (h : MvsAt K H a ms) : MvsAt K H' a ms := by
  obtain ⟨vs, h1, h2⟩ := h
  exact ⟨vs, e.sqT h1, h2.same e⟩
theorem dp_mv {K : PySem.W.Frag} {H : Hp} {v : V} {m : Mv} (h : MvAt K H v m) : Dp K H v (mvD m) := by
  obtain ⟨a, s, l, rfl, h2, h3, h4⟩ := h
  exact .tup h2 (.cons (.tup h3 (.cons (.int _) (.cons (.int _) .nil))) (.cons (.tup h4 (dp_ints _)) .nil))
theorem dp_mvs {K : PySem.W.Frag} {H : Hp} : ∀ {vs : List V} {ms : List Mv}, MvsIn K H vs ms → DpAll K H vs (ms.map mvD)
  | [], [], _ => .nil
  | [], _ :: _, h => absurd h.1 (by simp)
  | _ :: _, [], h => absurd h.1 (by simp)
  | v :: vs, m :: ms, h => by
    obtain ⟨m', e, hm⟩ := h.2 0 v rfl
    cases e
    exact .cons (dp_mv hm) (dp_mvs ⟨by simpa using h.1, fun i x hx => h.2 (i + 1) x (by simpa using hx)⟩)
theorem dp_mvsAt {K : PySem.W.Frag} {H : Hp} {a : Addr} {ms : List Mv} (h : MvsAt K H a ms) : Dp K H (.ref a) (mvsD ms) := by
  obtain ⟨vs, h1, h2⟩ := h
  exact .tup h1 (dp_mvs h2)
def MvOk (many : Nat) (m : Mv) : Prop := FrOk m.1 ∧ 0 < m.1.1 ∧ Nat.gcd m.1.1.natAbs m.1.2.natAbs = 1 ∧ m.2.length = many ∧ ∀ x ∈ m.2, 0 ≤ x ∧ x < (many : Int)
abbrev OneOk (fs : List Fr) : Prop := (topsOf fs (lcmAll fs : Nat)).sum = ((lcmAll fs : Nat) : Int)
structure SysOk (many : Nat) (ms : List Mv) : Prop where
  m1 : 1 ≤ many
  m2 : many ≤ 12
  l1 : 1 ≤ ms.length
  l2 : ms.length ≤ 24
  mv : ∀ m ∈ ms, MvOk many m
  one : OneOk (ms.map (·.1))
theorem nMM : ¬ (("many" : Str) = "moves") := by decide +kernel
def sysF (many : Nat) (mv : Addr) : List (Str × V) := putF "moves" (.ref mv) (putF "many" (.int (many : Int)) [])
theorem sysF_eq (many : Nat) (mv : Addr) : sysF many mv = ([("many", V.int (many : Int)), ("moves", V.ref mv)] : List (Str × V)) := by
  show (if ("many" : Str) = "moves" then [(("many" : Str), V.ref mv)] else (("many" : Str), V.int (many : Int)) :: putF "moves" (V.ref mv) []) = _
  rw [if_neg nMM] <;> rfl
theorem sysF_many (many : Nat) (mv : Addr) : (sysF many mv).lookup ("many" : Str) = some (.int (many : Int)) := by
  unfold sysF
  rw [lookup_putF, if_neg nMM, lookup_putF, if_pos rfl]
theorem sysF_moves (many : Nat) (mv : Addr) : (sysF many mv).lookup ("moves" : Str) = some (.ref mv) := by
  unfold sysF
  rw [lookup_putF, if_pos rfl]
/-- a System stands at p -/
def SysAt (K : PySem.W.Frag) (C : Addr) (H : Hp) (p : Addr) (many : Nat) (ms : List Mv) : Prop := ∃ dx mv, H p = some (.ins C dx (sysF many mv)) ∧ MvsAt K H mv ms
theorem SysAt.same {K : PySem.W.Frag} {C : Addr} {H H' : Hp} {p : Addr} {many : Nat} {ms : List Mv} (e : Same H H') (h : SysAt K C H p many ms) : SysAt K C H' p many ms := by
  obtain ⟨dx, mv, h1, h2⟩ := h
  exact ⟨dx, mv, e _ _ h1, h2.same e⟩
/-- the class System, as the top has made it -/
structure SysT (K : PySem.W.Frag) (mg : Str → Option Value) (C : Addr) : Prop where
  cl : Cls K C
  nK : NoAttr K C "many"
  nM : NoAttr K C "moves"
  mgC : mg "System" = some (.ref C)
  ha : PySem.W.findIn K (.ref C) "__class__" = some (some (.builtin "object.__class__"))
  hn : PySem.W.specialIn K (.builtin "object.__class__") "__get__" = some (some (.builtin "getset_descriptor.__get__"))
  ht : PySem.W.takesIn K (.builtin "object.__class__") = some true
  hm : PySem.W.mroIn K C (.type "object") = some true
theorem SysAt.ty {K : PySem.W.Frag} {mg : Str → Option Value} {C : Addr} {H : Hp} {p : Addr} {many : Nat} {ms : List Mv} (T : SysT K mg C) (h : SysAt K C H p many ms) : TyX K H (.ref p) (.ref C) := by
  obtain ⟨dx, mv, h1, _⟩ := h
  exact .base (.ins h1 T.cl T.ha T.hn T.ht T.hm)
theorem kit_self {K : PySem.W.Frag} {v : Value} (h : (v == v) = true) : PySem.W.kitOne K v v = some true := by
  unfold PySem.W.kitOne
  rw [if_pos h]
theorem at0 (x y : V) : atI [x, y] (0 : Int) = some x := by
  unfold atI
  rw [show ixN [x, y].length (0 : Int) = some 0 from Evl.ixN_nat (n := 2) (j := 0) (by decide)]
  rfl
section
variable {P : Program} {w : World} {K : PySem.W.Frag} {mg : Str → Option Value} {base : Heap}
def spMove (K : PySem.W.Frag) : Sp := fun vs H Q _ => ∃ (many : Nat) (v : V) (m : Mv), vs = [.int (many : Int), v] ∧ many ≤ 12 ∧ MvAt K H v m ∧ MvOk many m ∧ ∀ H', Same H H' → Q (.bl true) H'
theorem scMove : FnScope ["many", "thing", "share", "leads"] ["many", "thing"] (defScope s_is_move) := ⟨rfl, rfl, rfl, by decide +kernel, rfl, by decide +kernel, by decide +kernel⟩
theorem ok_move {f fF fR : Addr} {fd fdF fdR : FuncData} (F : Fun K "is_move" "is_move" s_is_move f fd) (T : NmA mg) (G : Cl P w K mg base CX0 2 "is_fraction" fF fdF ["thing"] (spFrac K))
    (R : Cl P w K mg base CX0 3 "is_row_below" fR fdR ["bound", "thing"] (spRowB K)) : FnOk P w K mg base CX0 4 f fd ["many", "thing"] (spMove K) := by
  refine F.ok scMove (fun vs H Q E h => ?_) (fun cdv A outer s H vs Q E hr h => ?_)
  · obtain ⟨many, v, m, rfl, _⟩ := h
    rfl
  · obtain ⟨many, v, m, rfl, h12, ⟨a, t, l, rfl, hA, hT, hL⟩, ⟨⟨f1, f2, f3⟩, f4, f5, f6, f7⟩, k⟩ := h
    refine ⟨_, pss_cons (ps_if (PW.pt (pw_or (pt_not (pt_val (pe_callB call_isi (by rfl) T.isi (by decide +kernel) (pa_cons (pv 1) (pa_cons (pe_bltn (v := .ty "tuple") (u := .type "tuple") (by rfl) T.tuple (by decide +kernel) rfl) pa_nil)))))
        (pw_or1 (pt_cmpR op_ne (pe_callB call_len_seq (by rfl) T.len PySem.boot_len (pa_cons (pv 1) pa_nil)) pe_int (nomark _))))) (pss_one (ps_ret pe_bl)) pss_nil)
      (pss_cons (ps_asg (pv 1) (pg_tup (by rfl) (pgs_cons (pg_name (i := 2) scMove.nd rfl (Or.inl rfl)) (pgs_cons (pg_name (i := 3) scMove.nd rfl (Or.inl rfl)) pgs_nil))))
      (pss_one (ps_ret (pe_and (G.call (hr.mono (by decide)) (pa_cons (pv 2) pa_nil)) (pe_and (pe_cmpR op_gt (pe_ix ix_tup (pv 2) pe_int (fun _ _ => rfl)) pe_int (nomark _)) (pe_and (R.call hr (pa_cons (pv 0) (pa_cons (pv 3) pa_nil)))
        (pe_one (pe_cmpR op_eq (pe_callB call_len_seq (by rfl) T.len PySem.boot_len (pa_cons (pv 3) pa_nil)) (pv 0) (nomark _))))))))), ?_⟩
    refine ⟨_, rfl, _, _, _, _, _, rfl, .ty "tuple", tyx_tup hA, kit_tt, _, rfl, ?_⟩
    refine iteF ⟨_, rfl, a, _, rfl, .inr hA, rfl, _, rfl, iteF ?_⟩
    refine ⟨_, rfl, a, _, rfl, hA, rfl, _, _, rfl, _, _, rfl, rfl, ?_⟩
    refine ⟨_, rfl, t, _, _, rfl, hT, _, rfl, ?_⟩
    rw [decide_eq_true f1, f5]
    refine iteT ⟨_, rfl, t, _, _, _, rfl, rfl, hT, at0 _ _, _, _, rfl, rfl, _, rfl, ?_⟩
    rw [decide_eq_true f4]
    refine iteT ⟨_, rfl, _, rfl, _, l, _, rfl, hL, ?_, ?_, fun H' s1 => ⟨_, rfl, ?_⟩⟩
    · rw [List.length_map]
      omega
    · intro x hx
      obtain ⟨i, _, rfl⟩ := List.mem_map.mp hx
      exact ⟨i, rfl⟩
    · have hall : (m.2.map V.int).all (isW 0 ((many : Int) - 1)) = true := by
        rw [List.all_eq_true]
        intro x hx
        obtain ⟨i, hi, rfl⟩ := List.mem_map.mp hx
        obtain ⟨g1, g2⟩ := f7 i hi
        show (decide (0 ≤ i) && decide (i ≤ (many : Int) - 1)) = true
        rw [decide_eq_true g1, decide_eq_true (show i ≤ (many : Int) - 1 by omega)] <;> rfl
      rw [hall]
      refine iteT ⟨_, rfl, l, _, rfl, .inr (s1.sqT hL), _, rfl, rfl, ?_⟩
      rw [List.length_map, f6, decide_eq_true rfl]
      exact k H' s1
def spSInit (K : PySem.W.Frag) (C : Addr) : Sp := fun vs H Q _ => ∃ (p dx : Addr) (many : Nat) (mv : Addr) (ms : List Mv), vs = [.ref p, .int (many : Int), .ref mv] ∧ H p = some (.ins C dx []) ∧ MvsAt K H mv ms ∧ SysOk many ms ∧
  ∀ H', (∀ b o, b ≠ p → H b = some o → H' b = some o) → H' p = some (.ins C dx (sysF many mv)) → Q .non H'
theorem scSInit : FnScope ["self", "many", "moves", "number", "move", "share", "_"] ["self", "many", "moves"] (defScope s_System_init) := ⟨rfl, rfl, rfl, by decide +kernel, rfl, by decide +kernel, by decide +kernel⟩
theorem ok_sinit {f C fW fM fO : Addr} {fd fdW fdM fdO : FuncData} (F : Fun K "__init__" "System.__init__" s_System_init f fd) (T : NmA mg) (S : SysT K mg C) (W : Cl P w K mg base CX0 2 "is_within" fW fdW ["low", "high", "thing"] (spWithin K))
    (M : Cl P w K mg base CX0 4 "is_move" fM fdM ["many", "thing"] (spMove K)) (O : Cl P w K mg base CX0 2 "are_one_together" fO fdO ["fractions"] (spOne K)) : FnOk P w K mg base CX0 5 f fd ["self", "many", "moves"] (spSInit K C) := by
  refine F.ok scSInit (fun vs H Q E h => ?_) (fun cdv A outer s H vs Q E hr h => ?_)
  · obtain ⟨p, dx, many, mv, ms, rfl, _⟩ := h
    rfl
  · obtain ⟨p, dx, many, mv, ms, rfl, hp, ⟨vs, hV, hM⟩, ok, k⟩ := h
    have hvl : vs.length = ms.length := hM.1
    refine ⟨_, pss_cons (ps_if (pt_not (pt_val (W.call (hr.mono (by decide)) (pa_cons pe_int (pa_cons pe_int (pa_cons (pv 1) pa_nil)))))) pss_never pss_nil)
      (pss_cons (ps_if (PW.pt (pw_or (pt_not (pt_val (pe_callB call_isi (by rfl) T.isi (by decide +kernel) (pa_cons (pv 2) (pa_cons (pe_bltn (v := .ty "tuple") (u := .type "tuple") (by rfl) T.tuple (by decide +kernel) rfl) pa_nil)))))
        (pw_or1 (pt_not (pt_chain op_le op_le pe_int (pe_callB call_len_seq (by rfl) T.len PySem.boot_len (pa_cons (pv 2) pa_nil)) pe_int))))) pss_never pss_nil)
      (pss_cons (ps_for PassesOwn.never rfl (pi_enumT (by rfl) T.enum (pa_cons (pv 2) pa_nil)) (pg_tup (by rfl) (pgs_cons (pg_name (i := 3) scSInit.nd rfl (Or.inl rfl)) (pgs_cons (pg_name (i := 4) scSInit.nd rfl (Or.inl rfl)) pgs_nil)))
        (pss_one (ps_if (pt_not (pt_val (M.call hr (pa_cons (pv 1) (pa_cons (pv 4) pa_nil))))) pss_never pss_nil)))
      (pss_cons (ps_if (pt_not (pt_val (O.call (hr.mono (by decide)) (pa_cons (pe_lc (own := [("share", 5), ("_", 6)]) (g := gTup K 2 (gCons (gName 5) (gCons (gName 6) gNil))) (tt := tYes) rfl scSInit.nd (pi_tup (pv 2))
          (blkOk_by (own := [("share", 5), ("_", 6)]) (N := ["self", "many", "moves", "number", "move", "share", "_"]) (sc := defScope s_System_init) (by decide +kernel))
          (fun _ _ _ _ _ => pg_tup (by rfl) (pgs_cons (pg_name (i := 5) scSInit.nd rfl (Or.inl rfl)) (pgs_cons (pg_name (i := 6) scSInit.nd rfl (Or.inl rfl)) pgs_nil))) (fun _ _ _ _ _ => pts_nil) (fun _ _ _ _ _ => pv 5)) pa_nil)))) pss_never pss_nil)
      (pss_cons (ps_fld (pv 0) (pv 1) rfl) (pss_one (ps_fld (pv 0) (pv 2) rfl)))))), ?_⟩
    -- is_within(1, 12, many)
    refine ⟨_, rfl, 1, 12, _, rfl, .inl ⟨(many : Int), rfl, _, rfl, ?_⟩⟩
    rw [decide_eq_true (show (1 : Int) ≤ (many : Int) by have := ok.m1; omega), decide_eq_true (show (many : Int) ≤ 12 by have := ok.m2; omega)]
    -- isinstance(moves, tuple), 1 <= len(moves) <= 24
    refine iteF ⟨_, rfl, _, _, _, _, _, rfl, .ty "tuple", tyx_tup hV, kit_tt, _, rfl, iteF ⟨_, rfl, mv, _, rfl, .inr hV, _, _, rfl, rfl, _, rfl, ?_⟩⟩
    rw [decide_eq_true (show (1 : Int) ≤ ((vs.length : Nat) : Int) by have := ok.l1; omega)]
    refine iteT ⟨_, _, rfl, rfl, _, rfl, ?_⟩
    rw [decide_eq_true (show ((vs.length : Nat) : Int) ≤ 24 by have := ok.l2; omega)]
    refine iteF ?_
    -- for number, move in enumerate(moves)
    refine ⟨_, rfl, mv, vs, rfl, hV, for_it walk_enumT (fun i σ H' => Same H H' ∧ ∃ u v : Option V, σ = [some (.ref p), some (.int (many : Int)), some (.ref mv), u, v, none, none]) ⟨Same.refl H, none, none, rfl⟩ (fun i σ H' _ h => h.1.sqT hV) ?_ ?_⟩
    · rintro i x σ H1 H2 hi ⟨s1, u, v, rfl⟩ ⟨t, y, rfl, ht, rfl, hy⟩
      obtain ⟨m, hm, hA⟩ := hM.2 i y hy
      have s2 : Same H (upd H1 t (.tup [.int (i : Nat), y])) := fun b o e => Same.new ht b o (s1 b o e)
      refine ⟨t, _, rfl, SqT.of upd_same, rfl, _, _, rfl, _, _, rfl, rfl, ?_⟩
      refine ⟨_, rfl, _, rfl, many, _, m, rfl, ok.m2, hA.same s2, ok.mv m (List.mem_of_getElem? hm), fun H3 s3 => ⟨_, rfl, iteF ⟨s2.trans s3, _, _, rfl⟩⟩⟩
    · rintro σ H1 ⟨s1, u, v, rfl⟩
      -- the shares
      refine ⟨_, rfl, mv, rfl, ⟨_, s1.sqT hV⟩, fun D hD => ?_⟩
      refine lc_tup (K := K) (a := mv) (xs := vs) (fun i H' => Same H1 H' ∧ ∃ acc, H' D = some (.lst acc) ∧ FrsIn K H' acc ((ms.take i).map (·.1))) ⟨Same.new hD, [], upd_same, rfl, fun i v hv => by simp at hv⟩ (fun i H' _ h => (s1.trans h.1).sqT hV) ?_ ?_
      · rintro i x H2 hi ⟨s2, acc, h1, h2⟩
        obtain ⟨m, hm, a, t, l, rfl, hA, hT, hL⟩ := hM.2 i x hi
        have hil : i < ms.length := (List.getElem?_eq_some_iff.mp hm).1
        have s3 := s1.trans s2
        have hz : acc.length = i := by
          have z := h2.1
          rw [List.length_map, List.length_take] at z
          omega
        refine ⟨a, _, rfl, s3.sqT hA, rfl, _, _, rfl, _, _, rfl, rfl, ?_⟩
        have s4 : Same H1 (upd H2 D (.lst (acc ++ [.ref t]))) := s2.mut hD
        refine ⟨rfl, _, rfl, acc, h1, small1000 (by have := ok.l2; omega), s4, _, upd_same, ?_, fun j v hj => ?_⟩
        · rw [List.length_append, List.length_map, List.length_take]
          simp
          omega
        · by_cases hji : j < acc.length
          · rw [List.getElem?_append_left hji] at hj
            obtain ⟨f, g1, g2⟩ := h2.2 j v hj
            obtain ⟨q, g3, g4⟩ := g2
            refine ⟨f, ?_, q, g3, ?_⟩
            · rw [List.take_add_one, hm]
              simp only [Option.toList, List.map_append]
              rw [List.getElem?_append_left (by rw [List.length_map, List.length_take]; omega)]
              exact g1
            · rcases g4 with (z | ⟨o, z⟩) | z
              · refine .inl (.inl ?_)
                rw [upd_ne (ne_of z h1 (by intro y; cases y))]
                exact z
              · refine .inl (.inr ⟨o, ?_⟩)
                rw [upd_ne (ne_of z h1 (by intro y; cases y))]
                exact z
              · exact .inr z
          · have e : j = acc.length := by
              have z := (List.getElem?_eq_some_iff.mp hj).1
              rw [List.length_append] at z
              simp at z
              omega
            subst e
            rw [List.getElem?_append_right (Nat.le_refl _), Nat.sub_self] at hj
            have ev : V.ref t = v := Option.some.inj hj
            refine ⟨m.1, ?_, t, ev.symm, s4.sqT (s1.sqT hT)⟩
            rw [List.take_add_one, hm, hz]
            simp only [Option.toList, List.map_append]
            rw [List.getElem?_append_right (by rw [List.length_map, List.length_take]; omega), List.length_map, List.length_take, show i - min i ms.length = 0 by omega]
            rfl
      · rintro H2 ⟨s2, acc, h1, h2⟩
        rw [hvl, List.take_length] at h2
        refine ⟨D, ms.map (·.1), rfl, ⟨acc, SqL.of h1, h2⟩, by rw [List.length_map]; exact ok.l2, ?_, fun H3 s3 => ⟨_, rfl, ?_⟩⟩
        · intro f hf
          obtain ⟨m, hm, rfl⟩ := List.mem_map.mp hf
          exact (ok.mv m hm).1
        rw [decide_eq_true ok.one]
        have s4 := (s1.trans s2).trans s3
        refine iteF ⟨_, rfl, _, rfl, p, C, dx, [], rfl, s4 _ _ hp, S.cl, S.nK, (by show 0 < 1000; decide), _, rfl, _, rfl, p, C, dx, _, rfl, upd_same, S.cl, S.nM, (by show 1 < 1000; decide), ?_⟩
        rw [upd_upd]
        exact k _ (fun b o n e => by rw [upd_ne n]; exact s4 b o e) upd_same
def spSEq (K : PySem.W.Frag) (C : Addr) : Sp := fun vs H Q _ => ∃ (p q : Addr) (m1 m2 : Nat) (ms1 ms2 : List Mv), vs = [.ref p, .ref q] ∧ SysAt K C H p m1 ms1 ∧ SysAt K C H q m2 ms2 ∧ Q (.bl (decide (m1 = m2) && decide (ms1 = ms2))) H
theorem scSEq : FnScope ["self", "other"] ["self", "other"] (defScope s_System_eq) := ⟨rfl, rfl, rfl, by decide +kernel, rfl, by decide +kernel, by decide +kernel⟩
theorem ok_seq {f C : Addr} {fd : FuncData} (F : Fun K "__eq__" "System.__eq__" s_System_eq f fd) (T : NmA mg) (S : SysT K mg C) : FnOk P w K mg base CX0 1 f fd ["self", "other"] (spSEq K C) := by
  refine F.ok scSEq (fun vs H Q E h => ?_) (fun cdv A outer s H vs Q E hr h => ?_)
  · obtain ⟨p, q, m1, m2, ms1, ms2, rfl, _⟩ := h
    rfl
  · obtain ⟨p, q, m1, m2, ms1, ms2, rfl, h1, h2, k⟩ := h
    obtain ⟨d1, v1, a1, b1⟩ := id h1
    obtain ⟨d2, v2, a2, b2⟩ := id h2
    refine ⟨_, pss_one (ps_ret (pe_and (pe_callB call_isi (by rfl) T.isi (by decide +kernel) (pa_cons (pv 1) (pa_cons (pe_glob (v := .ref C) (u := .ref C) rfl S.mgC rfl) pa_nil)))
      (pe_and (pe_cmpR op_eq (pe_fld (pv 0) rfl) (pe_fld (pv 1) rfl) (nomark _)) (pe_one (pe_cmpR (op_eqD hr.units) (pe_fld (pv 0) rfl) (pe_fld (pv 1) rfl) (nomark _)))))), ?_⟩
    refine ⟨_, rfl, _, _, _, _, _, rfl, .own C, h2.ty S, kit_self (by simp), _, rfl, iteT ?_⟩
    refine ⟨_, rfl, p, C, d1, _, _, rfl, a1, S.cl, S.nK, sysF_many _ _, _, rfl, q, C, d2, _, _, rfl, a2, S.cl, S.nK, sysF_many _ _, rfl, _, rfl, ?_⟩
    have e1 : decide (V.int (m1 : Int) = V.int (m2 : Int)) = decide (m1 = m2) := by
      by_cases e : m1 = m2
      · subst e
        rw [decide_eq_true rfl, decide_eq_true rfl]
      · rw [decide_eq_false e, decide_eq_false (fun z => e (by have := V.int.inj z; omega))]
    rw [e1]
    refine ite2 (fun h => ?_) (fun h => ?_)
    · refine ⟨_, rfl, p, C, d1, _, _, rfl, a1, S.cl, S.nM, sysF_moves _ _, _, rfl, q, C, d2, _, _, rfl, a2, S.cl, S.nM, sysF_moves _ _, mvsD ms1, mvsD ms2, dp_mvsAt b1, dp_mvsAt b2, shaped_of (lay_mvsD _) (by decide), shaped_of (lay_mvsD _) (by decide), ?_⟩
      rw [eqv_mvsD]
      rw [h, Bool.true_and] at k
      exact k
    · rw [Bool.not_eq_true] at h
      rw [h, Bool.false_and] at k
      exact k
end
end Law

namespace L2
open PySem PySem.Spec PyProof.Rows HT
/-! ### t[::-1] of a tuple; set(xs) and len(set(xs)) of a list of ints -/
theorem places_rev (n : Nat) : Builtin.Slice.slicePlaces ((n : Int) - 1) (-1) (-1) = n := by
  unfold Builtin.Slice.slicePlaces
  have h1 : ¬ ((-1 : Int) > 0) := by decide
  simp only [h1, if_false]
  by_cases h : (n : Int) - 1 > -1
  · simp only [h, if_true]
    rw [show (- -1 : Int) = 1 by decide, Int.ediv_one]
    omega
  · simp only [h, if_false]
    omega
theorem adjust_rev (n : Nat) : Builtin.Slice.sliceAdjust none none (-1) (n : Int) = ((n : Int) - 1, -1) := by
  first
  | rfl
  | simp [Builtin.Slice.sliceAdjust]
theorem fmap_congr {α β : Type} {f g : α → Option β} : ∀ l : List α, (∀ a ∈ l, f a = g a) → l.filterMap f = l.filterMap g
  | [], _ => rfl
  | a :: l, h => by rw [List.filterMap_cons, List.filterMap_cons, h a List.mem_cons_self, fmap_congr l fun b hb => h b (List.mem_cons_of_mem _ hb)]
theorem pick_rev (xs : Array Value) : ((List.range xs.size).filterMap fun (m : Nat) => xs[(((xs.size : Nat) : Int) - 1 + (m : Int) * (-1)).toNat]?).toArray = xs.toList.reverse.toArray := by
  congr 1
  have e : (List.range xs.size).filterMap (fun (m : Nat) => xs[(((xs.size : Nat) : Int) - 1 + (m : Int) * (-1)).toNat]?) = ((List.range xs.size).map fun k => xs.size - 1 - k).filterMap (xs[·]?) := by
    rw [List.filterMap_map]
    refine fmap_congr _ fun m hm => ?_
    have := List.mem_range.mp hm
    show xs[(((xs.size : Nat) : Int) - 1 + (m : Int) * (-1)).toNat]? = xs[xs.size - 1 - m]?
    rw [show (((xs.size : Nat) : Int) - 1 + (m : Int) * (-1)).toNat = xs.size - 1 - m by omega]
  rw [e, PySem.W.krv_range, List.filterMap_reverse, PySem.W.krv_all]
section
variable {prog : Program} {w : World} {A : Around} {E : Value → Shared → Prop} {s : Shared}
theorem applied_rev {sl : Addr} {vs : Value} {n : Nat} {Q : Int × Int × Nat → Shared → Prop} (hs : s.heap.IsSliceOf sl .none .none vs) (ps : IsPart vs (some (-1))) (h : Q ((n : Int) - 1, -1, n) s) :
    wpAny (model prog w) A (Builtin.Slice.sliceApplied (.ref sl) (pure (n : Int))) Q E s := by
  obtain ⟨os, hos, hcs, hds⟩ := id hs
  unfold Builtin.Slice.sliceApplied; unfold Builtin.Slice.sliceFields
  refine wpAny_bind (wpAny_bind (wpAny_field hos hds (x := .none) rfl (wpAny_bind (wpAny_field hos hds (x := .none) rfl (wpAny_bind (wpAny_field hos hds (x := vs) rfl (wpAny_pure ?_)))))))
  refine wpAny_bind (slicePart_ ps ?_)
  show wpAny _ _ (if ((-1 : Int) == 0) = true then _ else _) _ _ s
  rw [if_neg (show ¬ ((-1 : Int) == 0) = true by decide)]
  refine wpAny_bind (slicePart_ .none (wpAny_bind (slicePart_ .none (wpAny_bind (wpAny_pure ?_)))))
  show wpAny _ _ (match Builtin.Slice.sliceAdjust none none (-1) (n : Int) with | (lo, hi) => pure (lo, (-1 : Int), Builtin.Slice.slicePlaces lo hi (-1))) _ _ s
  rw [adjust_rev n]
  show wpAny _ _ (pure ((n : Int) - 1, (-1 : Int), Builtin.Slice.slicePlaces ((n : Int) - 1) (-1) (-1))) _ _ s
  rw [places_rev]
  exact wpAny_pure h
theorem getItem_tuple_rev {t sl : Addr} {items : Array Value} {vs : Value} {Q : Value → Shared → Prop} (ht : IsTup s.heap t items) (hs : s.heap.IsSliceOf sl .none .none vs) (ps : IsPart vs (some (-1)))
    (h : Q (.ref s.heap.objs.size) { s with heap := s.heap.push { cls := .type "tuple", data := .seq items.toList.reverse.toArray } }) (hsz : items.size ≤ sizeLine) : wpAny (model prog w) A (getItem (.ref t) (.ref sl)) Q E s := by
  have hr : sizeOk (.seq items.toList.reverse.toArray) := by
    show items.toList.reverse.toArray.size ≤ sizeLine
    rw [List.size_toArray, List.length_reverse, Array.length_toList]
    exact hsz
  obtain ⟨os, hos, hcs, hds⟩ := id hs
  have hTs : s.TypeIs (.ref sl) "slice" := ⟨os, hos, hcs⟩; unfold getItem
  try with_reducible refine wpAny_holding ?_
  first | (refine wpAny_bind (wpAny_pure ?_)) | (skip)
  refine wpAny_bind (wpAny_sequenceKey ht.typeIs (show _ by decide) ?_)
  refine wpAny_bind (wpAny_callSpecial?_slot (name := Str.ofString "__getitem__") ht.typeIs PyProof.Rows.slot_tuple_getitem (wpAny_call_entry PyProof.Rows.slot_tuple_getitem ht.typeIs entry_tuple_getitem ?_ (args_tuple_getitem _ _)))
  show wpAny _ _ (Builtin.Tuple.tupleItemsOf (Value.ref t) >>= _) _ _ s
  refine wpAny_bind (tupleItemsOf_ ht ?_); refine wpAny_bind (wpAny_typeOf hTs ?_)
  rw [if_pos (show _ by decide)]
  refine wpAny_bind (applied_rev (n := items.size) hs ps ?_)
  have hno : ¬ (((((items.size : Nat) : Int) - 1) == 0 && (-1 : Int) == 1 && items.size == items.size) = true) := by
    rw [show ((-1 : Int) == 1) = false by decide, Bool.and_false, Bool.false_and]
    exact Bool.false_ne_true
  show wpAny _ _ (if ((((items.size : Nat) : Int) - 1) == 0 && (-1 : Int) == 1 && items.size == items.size) = true then _ else _) _ _ s
  rw [if_neg hno, pick_rev]
  first
    | exact wpAny_bind (m := Builtin.Tuple.tupleExact _) (wpAny_newObj_type (wpAny_pure ⟨_, rfl, wpAny_pure h⟩) hr)
    | exact wpAny_bind (m := Builtin.Tuple.tupleExact _) (wpAny_newObj_type (wpAny_bind (wpAny_pure (wpAny_pure ⟨_, rfl, wpAny_pure h⟩))) hr)
    | exact wpAny_bind (wpAny_bind (m := Builtin.Tuple.tupleExact _) (wpAny_newObj_type (wpAny_pure (wpAny_pure ⟨_, rfl, wpAny_pure h⟩)) hr))
    | exact wpAny_bind (wpAny_bind (m := Builtin.Tuple.tupleExact _) (wpAny_newObj_type (wpAny_pure ⟨_, rfl, wpAny_pure h⟩) hr))
end
def tRevT (K : PySem.W.Frag) (te : TE) : TE := fun σ H Q => te σ H fun x H1 => ∃ a xs, x = .ref a ∧ SqT K H1 a xs ∧ ∀ p, H1 p = none → Q (.ref p) (upd H1 p (.tup xs.reverse))
theorem pe_revT {X : Cx} {e : Expr} {te : TE} {k : Nat} {p1 p2 p3 pos : Pos} (he : PE X e te) : PE X (.Subscript e (.Slice none none (some (.UnaryOp .USub (.Constant (.int 1) k p1) p2)) p3) pos) (tRevT X.K te) := by
  refine ⟨fun pins s σ H Q I h => Subscript_ (thn (he.run pins s σ H _ I h) fun v s1 ⟨x, H1, I1, r1, q1⟩ => ?_)⟩
  obtain ⟨a, xs, rfl, hx, q⟩ := q1
  cases r1
  have hst : PO X (some (.UnaryOp .USub (.Constant (.int 1) k p1) p2)) (tPart (tUn (rU fun i => .int (-i)) (tC (.int 1)))) := po_some (pe_un un_neg pe_int)
  refine wpAny_Slice (thn (po_none.run pins s1 σ H1 (fun o H2 => o = none ∧ H2 = H1) I1 ⟨rfl, rfl⟩) fun vl s2 ⟨l, H2, I2, pl, el, e2⟩ => ?_)
  subst el; subst e2
  refine thn (po_none.run pins s2 σ H2 (fun o H3 => o = none ∧ H3 = H2) I2 ⟨rfl, rfl⟩) fun vu s3 ⟨u, H3, I3, pu, eu, e3⟩ => ?_
  subst eu; subst e3
  refine thn (hst.run pins s3 σ H3 (fun o H4 => o = some (-1) ∧ H4 = H3) I3 ⟨1, rfl, -1, rfl, rfl, rfl⟩) fun vs s4 ⟨o, H4, I4, ps, eo, e4⟩ => ?_
  subst eo; subst e4
  cases pl
  cases pu
  have I5 : Inv X pins σ H4 { s4 with heap := s4.heap.push { cls := .type "slice", data := .fields #[.none, .none, vs] } } := I4.kept (t' := s4.toks) fun b ob q => Heap.get?_push_of_some _ q
  obtain ⟨its, r, ht, hz⟩ := I5.tuple hx
  have hlen := r.length
  show wpAny (model X.prog X.w) X.A (subscriptTail e (.Slice none none (some (.UnaryOp .USub (.Constant (.int 1) k p1) p2)) p3) (.ref a) (.ref s4.heap.objs.size)) (EP X pins σ Q) X.xe { s4 with heap := s4.heap.push { cls := .type "slice", data := .fields #[.none, .none, vs] } }
  refine tail_any (ops := [.ref a, .ref s4.heap.objs.size]) ht.typeIs (PyProof.Rows.slot_tuple_getitem.lookup) ?_ (by with_unfolding_all rfl)
  refine getItem_tuple_rev ht (Heap.IsSliceOf.new _ .none .none vs) ps ?_ (by rw [List.size_toArray]; omega)
  refine ⟨.ref _, _, I5.laid (t' := s4.toks) (o := .tup xs.reverse) (fun b ob q => Heap.get?_push_of_some _ q) (Nat.le_refl _) ?_, rfl, q _ (I5.hok.fresh (Nat.le_refl _))⟩
  refine ⟨by rw [List.length_reverse]; exact hz, its.reverse, ?_, IsTup.new _ _⟩
  exact r.reverse
end L2
namespace L2
open PySem PySem.Spec PyProof.Rows
def freshSet (w : World) : Obj := { cls := .type "set", dict := none, data := .set #[] 0 (.fresh 0 0 (!w.params.followText "set-order")) }
section
variable {P : Program} {w : World} {A : Around} {E : Value → Shared → Prop} {s : Shared}
set_option maxRecDepth 100000 in
set_option maxHeartbeats 3200000 in
/-- set(xs), xs a list of ints -/
theorem call_setLst {l : Addr} {items : Array Value} (ns : List Int) {Q : Value → Shared → Prop} (hh : A.handled = none) (hl : s.heap.IsList l items) (hit : IntsAre items.toList ns) (hb : ns.length + 1 < scanBound)
    (h : ∀ (h' : Heap) (tk c : Nat), SetR w h' s.heap.objs.size (fun j => decide (j ∈ ns)) c → c ≤ ns.length → (∀ b o, s.heap.get? b = some o → h'.get? b = some o) → Q (.ref s.heap.objs.size) { s with heap := h', toks := tk }) :
    wpAny (model P w) A (call (.type "set") [Value.ref l]) Q E s := by
  have hisz : items.size = ns.length := by
    have q := IntsAre.length hit; rw [Array.length_toList] at q; exact q
  obtain ⟨c, tl, hmro⟩ := F.called_set.mro; have hmade := F.called_set.made; have hsub := F.called_set.sub
  refine wpAny_call (codeAny_of_tree ?_)
  show wpAny _ _ (callAny (.type "set") _) _ _ _
  refine wpAny_pure ⟨Code.quiet_builtin _ (show _ by decide +kernel), codeAny_builtin F.entry_type_call ?_⟩
  rw [Around.under_plain (weight_type_call_type "set" [Value.ref l] []) rfl]
  have h1 := F.called_set.notType; have h2 := F.called_set.canCreate; have hct := F.typeCall_set_1 (.ref l)
  repeat (any_goals (first | (assumption) | (wp_step)))
  refine codeAny_mono (code_set_led1 (.ref l) (E := E) (Q₁ := fun obj s₁ => obj = .ref s.heap.objs.size ∧ s₁ = { s with heap := s.heap.push (freshSet w) }) ⟨rfl, rfl⟩) fun r s₁ hr => ?_
  rcases r with e | fl
  · exact hr
  · cases fl with
    | ret obj =>
      obtain ⟨rfl, rfl⟩ := hr
      have hS : (s.heap.push (freshSet w)).get? s.heap.objs.size = some (freshSet w) := Heap.get?_push_size _ rfl
      have hT : Shared.TypeIs { s with heap := s.heap.push (freshSet w) } (.ref s.heap.objs.size) "set" := ⟨_, hS, rfl⟩
      have hli := F.called_set.init.lookup; have hbi := F.called_set.init.bind (.ref s.heap.objs.size)
      repeat (any_goals (first | (assumption) | (wp_step)))
      refine codeAny_mono (codeAny_call_builtin (R := wants (fun r s₂ => r = .none ∧ ∃ h' tk c, s₂ = { s with heap := h', toks := tk } ∧ SetR w h' s.heap.objs.size (fun j => decide (j ∈ ns)) c ∧ c ≤ ns.length ∧ (∀ b o, s.heap.get? b = some o → h'.get? b = some o)) E)
        F.called_set.init.plain F.entry_set_init (check_set_init_1 hT ?_)) fun r₂ s₂ hr₂ => ?_
      · obtain ⟨⟨ocls, odict, odata, oslots⟩, hol, hcl, nl, hdl⟩ := hl
        simp only at hcl hdl
        subst hcl hdl
        have hol' : (s.heap.push (freshSet w)).get? l = some { cls := .type "list", dict := odict, data := .seq items nl, slots := oslots } := Heap.get?_push_of_some _ hol
        have hsls := F.sub_list_set; have hslf := F.sub_list_frozenset
        have hne : (Value.type "list" == Value.type "dict") = false := show _ by decide
        have hl1 : (s.heap.push (freshSet w)).IsList l items := ⟨_, hol', rfl, nl, rfl⟩
        unfold Builtin.«set.__init__»; unfold noKeywords; unfold Builtin.Frozenset.updateFrom
        generalize hPI : pyIter = PI
        wp_walk; subst hPI
        refine wpAny_pyIter_list hl1 ?_; refine wpAny_bind (wpAny_runValue ?_)
        have hlS : l < s.heap.objs.size := Heap.lt_size hol
        have hh3 : A.in1.in1.in1.handled = none := by simp [hh]
        have hneI : l ≠ (s.heap.push (freshSet w)).objs.size := by
          rw [Heap.size_push]; exact (Nat.ne_of_lt (Nat.lt_succ_of_lt hlS))
        have hSf : s.heap.objs.size ∉ [(s.heap.push (freshSet w)).objs.size, l] := by
          rw [Heap.size_push]; simp only [List.mem_cons, List.mem_singleton, List.not_mem_nil, or_false, not_or]; exact ⟨Nat.ne_of_lt (Nat.lt_succ_self _), Nat.ne_of_gt hlS⟩
        have hval : ∀ (i : Nat) (v : Value), items[i]? = some v → ∃ k t, ns[i]? = some k ∧ v = .int k t := fun i v hv => by
          have hi : i < ns.length := hisz ▸ (Array.getElem?_eq_some_iff.mp hv).1
          obtain ⟨t, e⟩ := PyProof.Rows.IntsAre.int_at hit i v (by rw [Array.getElem?_toList] <;> exact hv)
          exact ⟨ns[i], t, List.getElem?_eq_getElem hi, by rw [e, List.getD_eq_getElem?_getD, List.getElem?_eq_getElem hi] <;> rfl⟩
        refine set_update_ints ((Walks.list hh3 _ l hneI items).toS) s.heap.objs.size hSf ns hisz hb hval (items.size - 0) 0 _ (by omega) (Nat.zero_le _) ⟨⟨_, Heap.get?_push_size _ rfl, rfl, rfl⟩, (hl1.push _)⟩ ?hS0 ?hR
        case hS0 =>
          have hget : ((s.heap.push (freshSet w)).push { cls := .type "list_iterator", data := .fields #[.ref l, .int 0 0] }).get? s.heap.objs.size = some (freshSet w) := Heap.get?_push_of_some _ hS
          exact ⟨0, (Nat.le_refl 0), setR_new_at hget⟩
        case hR =>
          intro s' c' hm hc' hS'
          obtain ⟨h', g2, d', tk', os'⟩ := s'
          have eg : g2 = s.gens := hm.gens; have ed : d' = s.drawn := hm.drawn; have eo : os' = s.os := hm.os
          subst eg ed eo
          show wpAny _ _ _ _ _ _; refine wpAny_pure ?_
          show wpAny _ _ (ret Value.none) _ _ _; rw [hisz] at hc'
          refine wpAny_pure ⟨rfl, h', tk', c', rfl, hS', hc', fun b o e => hm.heap b o ?_ (Heap.get?_push_of_some _ (Heap.get?_push_of_some _ e))⟩
          have hb0 : b < s.heap.objs.size := Heap.lt_size e
          simp only [List.mem_cons, List.mem_singleton, List.not_mem_nil, or_false, not_or, Heap.size_push]
          exact ⟨Nat.ne_of_lt hb0, Nat.ne_of_lt (Nat.lt_succ_of_lt hb0)⟩
      · rcases r₂ with e | fl₂
        · exact hr₂
        · cases fl₂ with
          | ret r =>
            obtain ⟨rfl, h', tk, c', rfl, hS', hc', hk'⟩ := hr₂
            repeat (any_goals (first | (assumption) | (wp_step)))
            exact (h _ _ _ hS' hc' hk')
          | _ => exact (hr₂.elim)
    | _ => exact (hr.elim)
end
def rSetLst (K : PySem.W.Frag) (w : World) : List V → Hp → VK → Prop := fun vs H Q => ∃ (a : Addr) (ns : List Int), vs = [V.ref a] ∧ SqL K H a (ns.map V.int) ∧ ns.length ≤ 1000 ∧
  ∀ (p : Addr) (c : Nat), H p = none → c ≤ ns.length → Q (.ref p) (upd H p (SetO w p (fun j => decide (j ∈ ns)) c))
theorem cr_setL {X : Cx} (hc : X.calm = true) : CallR X (.type "set") (rSetLst X.K X.w) := by
  intro pins s σ H xs us Q I r h
  obtain ⟨a, ns, rfl, hq, hl, q⟩ := h
  rw [Vals.ref1 r]
  obtain ⟨its, rv, pt, hz⟩ := I.list hq
  have hi : IntsAre its.toArray.toList ns := ints_of_vals rv
  refine call_setLst ns (I.ok.hd hc) pt.isList hi (by unfold scanBound; omega) fun h' tk c R1 hcn k => ?_
  exact ⟨.ref _, upd H s.heap.objs.size (SetO X.w s.heap.objs.size (fun j => decide (j ∈ ns)) c), I.laid (t' := tk) k (Nat.le_refl _) (setO_new R1), rfl, q _ c (I.hok.fresh (Nat.le_refl _)) hcn⟩
/-- len(s) of a set of ints: so many unlike members -/
def rLenSet (w : World) : List V → Hp → VK → Prop := fun vs H Q => ∃ (a : Addr) (S : Int → Bool) (n : Nat), vs = [V.ref a] ∧ H a = some (SetO w a S n) ∧ ((∃ ms : List Int, ms.Nodup ∧ ms.length = n ∧ ∀ k, S k = true ↔ k ∈ ms) → Q (.int (n : Nat)) H)
theorem cr_lenSet {X : Cx} : CallR X (.builtin "len") (rLenSet X.w) := by
  intro pins s σ H vs us Q I r h
  obtain ⟨a, S, n, rfl, ha, q⟩ := h
  obtain ⟨o, es, ep, t, ho, hx, hd, g, nd, hm, hb, hf, hn, _⟩ := setO_get I ha
  rw [Vals.ref1 r]
  refine call_len_set ho hx hd hf (by unfold scanBound at hb; omega) ⟨.int (n : Nat), H, I.tok _, ⟨_, by rw [hn]⟩, q ⟨es.toList.map keyOf, nd, by rw [List.length_map, Array.length_toList]; exact hn, hm⟩⟩
end L2
namespace Law
open PySem L2
/-! ### lowest terms -/
def gI (t b : Int) : Int := ((Nat.gcd t.natAbs b.natAbs : Nat) : Int)
theorem gI_pos {t b : Int} (h : 0 < b) : 0 < gI t b := by
  have z : 0 < Nat.gcd t.natAbs b.natAbs := Nat.gcd_pos_of_pos_right _ (by omega)
  unfold gI
  omega
def lowP (t b : Int) : Fr := (t / gI t b, b / gI t b)
section
variable {P : Program} {w : World} {K : PySem.W.Frag} {mg : Str → Option Value} {base : Heap}
theorem gI_step {x y : Int} (hx : 0 ≤ x) (hy : 0 < y) : gI y (x % y) = gI x y := by
  obtain ⟨a, rfl⟩ := Int.eq_ofNat_of_zero_le hx
  obtain ⟨c, rfl⟩ := Int.eq_ofNat_of_zero_le (Int.le_of_lt hy)
  unfold gI
  rw [← Int.natCast_emod, Int.natAbs_natCast, Int.natAbs_natCast, Int.natAbs_natCast, Nat.gcd_comm c, ← Nat.gcd_rec, Nat.gcd_comm]
theorem gI_zero {x : Int} (hx : 0 ≤ x) : gI x 0 = x := by
  unfold gI
  rw [show (0 : Int).natAbs = 0 from rfl, Nat.gcd_zero_right]
  omega
end
end Law



namespace Law
open PySem L2
/-! ### states with a hand -/
theorem keep_sqT {K : PySem.W.Frag} {H H' : Hp} {a p : Addr} {xs : List V} (k : ∀ b o, b ≠ p → H b = some o → H' b = some o) (hp : ∃ ks, H p = some (.dK ks)) (h : SqT K H a xs) : SqT K H' a xs := by
  obtain ⟨ks, hp⟩ := hp
  rcases h with (h | ⟨o, h⟩) | h
  · exact .inl (.inl (k _ _ (ne_of h hp (by intro z; cases z)) h))
  · exact .inl (.inr ⟨o, k _ _ (ne_of h hp (by intro z; cases z)) h⟩)
  · exact .inr h
theorem HandAt.dk {H : Hp} {p : Addr} (h : HandAt H p) : ∃ ks, H p = some (.dK ks) := by
  obtain ⟨ca, cells, a, g, s, t, hp, _⟩ := h
  exact ⟨_, hp⟩
theorem HandAt.same {H H' : Hp} {p : Addr} (s : Same H H') (h : HandAt H p) : HandAt H' p := by
  obtain ⟨ca, cells, a, g, s0, t, hp, hc, r⟩ := h
  exact ⟨ca, cells, a, g, s0, t, s _ _ hp, s _ _ hc, r⟩
theorem Stp.pre {p : Addr} {H H1 H2 : Hp} (s : Same H H1) (t : Stp p H1 H2) : Stp p H H2 := ⟨fun b o n e => t.keep b o n (s b o e), fun c ⟨a, g, s0, u, h⟩ => t.cell c ⟨a, g, s0, u, s _ _ h⟩, t.hand⟩
theorem Stp.post {p : Addr} {H H1 H2 : Hp} (t : Stp p H H1) (s : Same H1 H2) : Stp p H H2 := ⟨fun b o n e => s _ _ (t.keep b o n e), fun c hc => by
  obtain ⟨a, g, s0, u, h⟩ := t.cell c hc
  exact ⟨a, g, s0, u, s _ _ h⟩, t.hand.same s⟩
theorem Stp.of {p : Addr} {H H' : Hp} (h : HandAt H p) (s : Same H H') : Stp p H H' := (Stp.refl h).post s
theorem atI_nat {xs : List V} {i : Nat} {x : V} (h : xs[i]? = some x) : atI xs ((i : Nat) : Int) = some x := by
  unfold atI
  rw [Evl.ixN_nat (List.getElem?_eq_some_iff.mp h).1]
  exact h
theorem at_len {xs : List V} {i : Nat} (h : i < xs.length) : ∃ x, xs[i]? = some x ∧ x ∈ xs ∧ atI xs ((i : Nat) : Int) = some x := ⟨xs[i], List.getElem?_eq_getElem h, List.getElem_mem h, atI_nat (List.getElem?_eq_getElem h)⟩
theorem ats0 (x y : V) : atI [x, y] (0 : Int) = some x := atI_nat (i := 0) rfl
theorem ats1 (x y : V) : atI [x, y] (1 : Int) = some y := atI_nat (i := 1) rfl
end Law


namespace Law
open PySem L2
/-! ### the product of two, the size -/
section
variable {P : Program} {w : World} {K : PySem.W.Frag} {mg : Str → Option Value} {base : Heap}
end
/-! ### shares that are one together -/
theorem lcm_dvd_fold : ∀ (fs : List Fr) (m n : Nat), n ∣ m → n ∣ fs.foldl (fun m f => Nat.lcm m f.2.natAbs) m
  | [], _, _, h => h
  | f :: fs, m, n, h => lcm_dvd_fold fs _ n (Nat.dvd_trans h (Nat.dvd_lcm_left _ _))
theorem dvd_fold : ∀ (fs : List Fr) (m : Nat) (f : Fr), f ∈ fs → f.2.natAbs ∣ fs.foldl (fun m f => Nat.lcm m f.2.natAbs) m
  | [], _, _, h => nomatch h
  | g :: fs, m, f, h => by
    rcases List.mem_cons.mp h with rfl | h
    · exact lcm_dvd_fold fs _ _ (Nat.dvd_lcm_right _ _)
    · exact dvd_fold fs _ f h
theorem dvd_lcmAll {fs : List Fr} {f : Fr} (h : f ∈ fs) : f.2.natAbs ∣ lcmAll fs := dvd_fold fs 1 f h
theorem sum_scale (S : Int) (g : Int → Int) (L : Int) : ∀ ws : List Int, (∀ x ∈ ws, S * g x = x * L) → S * (ws.map g).sum = ws.sum * L
  | [], _ => by simp
  | x :: ws, h => by
    rw [List.map_cons, List.sum_cons, List.sum_cons, Int.mul_add, Int.add_mul, h x List.mem_cons_self, sum_scale S g L ws fun y hy => h y (List.mem_cons_of_mem _ hy)]
theorem lowP_cross {t b : Int} (hb : 0 < b) : b * (lowP t b).1 = t * (lowP t b).2 := by
  have gp := gI_pos (t := t) hb
  have d1 : gI t b ∣ t := by
    unfold gI
    exact Int.ofNat_dvd_left.mpr (Nat.gcd_dvd_left _ _)
  have d2 : gI t b ∣ b := by
    unfold gI
    exact Int.ofNat_dvd_left.mpr (Nat.gcd_dvd_right _ _)
  show b * (t / gI t b) = t * (b / gI t b)
  rw [← Int.mul_ediv_assoc _ d1, ← Int.mul_ediv_assoc _ d2, Int.mul_comm]
theorem lowP_pos {t b : Int} (ht : 0 < t) (hb : 0 < b) : 0 < (lowP t b).1 ∧ 0 < (lowP t b).2 := by
  have gp := gI_pos (t := t) hb
  have d1 : gI t b ∣ t := by
    unfold gI
    exact Int.ofNat_dvd_left.mpr (Nat.gcd_dvd_left _ _)
  have d2 : gI t b ∣ b := by
    unfold gI
    exact Int.ofNat_dvd_left.mpr (Nat.gcd_dvd_right _ _)
  exact ⟨Int.ediv_pos_of_pos_of_dvd ht (Int.le_of_lt gp) d1, Int.ediv_pos_of_pos_of_dvd hb (Int.le_of_lt gp) d2⟩
theorem lowP_le {t b : Int} (ht : 0 ≤ t) (hb : 0 < b) : (lowP t b).1 ≤ t ∧ (lowP t b).2 ≤ b := ⟨Int.ediv_le_self _ ht, Int.ediv_le_self _ (Int.le_of_lt hb)⟩
theorem lowP_cop {t b : Int} (ht : 0 ≤ t) (hb : 0 < b) : Nat.gcd (lowP t b).1.natAbs (lowP t b).2.natAbs = 1 := by
  obtain ⟨a, rfl⟩ := Int.eq_ofNat_of_zero_le ht
  obtain ⟨c, rfl⟩ := Int.eq_ofNat_of_zero_le (Int.le_of_lt hb)
  have z : 0 < Nat.gcd a c := Nat.gcd_pos_of_pos_right _ (by omega)
  have e : ∀ x : Nat, ((x : Int) / gI (a : Int) (c : Int)).natAbs = x / Nat.gcd a c := fun x => by
    unfold gI
    rw [Int.natAbs_natCast, Int.natAbs_natCast, ← Int.natCast_ediv, Int.natAbs_natCast]
  show Nat.gcd ((a : Int) / gI (a : Int) (c : Int)).natAbs ((c : Int) / gI (a : Int) (c : Int)).natAbs = 1
  rw [e, e]
  exact Nat.coprime_div_gcd_div_gcd z
theorem sum_pos : ∀ ws : List Int, ws ≠ [] → (∀ x ∈ ws, 0 < x) → 0 < ws.sum ∧ ∀ x ∈ ws, x ≤ ws.sum
  | [], h, _ => absurd rfl h
  | [x], _, h => by
    have := h x List.mem_cons_self
    simp
    omega
  | x :: y :: ws, _, h => by
    obtain ⟨h1, h2⟩ := sum_pos (y :: ws) (by simp) fun z hz => h z (List.mem_cons_of_mem _ hz)
    have h3 := h x List.mem_cons_self
    rw [List.sum_cons]
    refine ⟨by omega, fun z hz => ?_⟩
    rcases List.mem_cons.mp hz with rfl | hz
    · omega
    · have := h2 z hz
      omega
theorem sum_le (B : Int) : ∀ ws : List Int, (∀ x ∈ ws, x ≤ B) → ws.sum ≤ (ws.length : Int) * B
  | [], _ => by simp
  | x :: ws, h => by
    have h1 := sum_le B ws fun z hz => h z (List.mem_cons_of_mem _ hz)
    have h2 := h x List.mem_cons_self
    rw [List.sum_cons, List.length_cons, Int.natCast_add, Int.add_mul]
    simp
    omega
/-- a weight's share: in lowest terms, of moderate size -/
theorem share_ok {t b : Int} (ht : 0 < t) (h1 : t ≤ b) (h2 : b < 2 ^ 40) : FrOk (lowP t b) ∧ 0 < (lowP t b).1 ∧ Nat.gcd (lowP t b).1.natAbs (lowP t b).2.natAbs = 1 := by
  have hb : 0 < b := by omega
  obtain ⟨p1, p2⟩ := lowP_pos ht hb
  obtain ⟨l1, l2⟩ := lowP_le (Int.le_of_lt ht) hb
  refine ⟨⟨p2, ?_, ?_⟩, p1, lowP_cop (Int.le_of_lt ht) hb⟩ <;> omega
theorem one_of {ws : List Int} (hn : ws ≠ []) (h : ∀ x ∈ ws, 0 < x) : OneOk (ws.map fun x => lowP x ws.sum) := by
  obtain ⟨s0, s1⟩ := sum_pos ws hn h
  unfold OneOk topsOf
  rw [List.map_map]
  have q := sum_scale ws.sum ((fun f : Fr => f.1 * (((lcmAll (ws.map fun x => lowP x ws.sum) : Nat) : Int) / f.2)) ∘ fun x => lowP x ws.sum) ((lcmAll (ws.map fun x => lowP x ws.sum) : Nat) : Int) ws fun x hx => by
    obtain ⟨p1, p2⟩ := lowP_pos (h x hx) s0
    have d : (lowP x ws.sum).2 ∣ ((lcmAll (ws.map fun x => lowP x ws.sum) : Nat) : Int) := by
      have d0 := dvd_lcmAll (List.mem_map.mpr ⟨x, hx, rfl⟩ : lowP x ws.sum ∈ ws.map fun x => lowP x ws.sum)
      exact Int.ofNat_dvd_right.mpr d0
    show ws.sum * ((lowP x ws.sum).1 * (_ / (lowP x ws.sum).2)) = _
    rw [← Int.mul_assoc, lowP_cross s0, Int.mul_assoc, Int.mul_ediv_cancel' d]
  exact Int.eq_of_mul_eq_mul_left (by omega) q
end Law



namespace Law
open PySem L2
/-! ### the shares -/
theorem Stp.free {p W : Addr} {H H' : Hp} (S : Stp p H H') (h : H' W = none) : H W = none := by
  cases e : H W with
  | none => rfl
  | some o =>
    by_cases n : W = p
    · obtain ⟨ks, hp⟩ := S.hand.dk
      rw [n, hp] at h
      cases h
    · rw [S.keep W o n e] at h
      cases h
theorem sqT_upd {K : PySem.W.Frag} {H : Hp} {a D : Addr} {acc xs : List V} {o : HO} (hD : H D = some (.lst acc)) (h : SqT K H a xs) : SqT K (upd H D o) a xs := by
  rcases h with (z | ⟨q, z⟩) | z
  · refine .inl (.inl ?_)
    rw [upd_ne (ne_of z hD (by intro y; cases y))]
    exact z
  · refine .inl (.inr ⟨q, ?_⟩)
    rw [upd_ne (ne_of z hD (by intro y; cases y))]
    exact z
  · exact .inr z
theorem snoc_get {α : Type} {xs : List α} {y v : α} {i : Nat} (h : (xs ++ [y])[i]? = some v) : (i < xs.length ∧ xs[i]? = some v) ∨ (i = xs.length ∧ y = v) := by
  by_cases hi : i < xs.length
  · rw [List.getElem?_append_left hi] at h
    exact .inl ⟨hi, h⟩
  · have z := (List.getElem?_eq_some_iff.mp h).1
    rw [List.length_append] at z
    simp at z
    have e : i = xs.length := by omega
    subst e
    rw [List.getElem?_append_right (Nat.le_refl _), Nat.sub_self] at h
    exact .inr ⟨rfl, Option.some.inj h⟩
theorem FrsIn.snoc {K : PySem.W.Frag} {H : Hp} {D : Addr} {acc : List V} {fs : List Fr} {v : V} {f : Fr} (h : FrsIn K H acc fs) (hD : H D = some (.lst acc)) (hv : FrAt K H v f) : FrsIn K (upd H D (.lst (acc ++ [v]))) (acc ++ [v]) (fs ++ [f]) := by
  refine ⟨by rw [List.length_append, List.length_append, h.1]; rfl, fun i u hu => ?_⟩
  rcases snoc_get hu with ⟨hi, e⟩ | ⟨hi, e⟩
  · obtain ⟨g, h1, s, h2, h3⟩ := h.2 i u e
    exact ⟨g, by rw [List.getElem?_append_left (by rw [← h.1]; exact hi)]; exact h1, s, h2, sqT_upd hD h3⟩
  · obtain ⟨s, h2, h3⟩ := hv
    subst e
    refine ⟨f, ?_, s, h2, sqT_upd hD h3⟩
    rw [List.getElem?_append_right (by rw [hi, h.1]; exact Nat.le_refl _), hi, h.1, Nat.sub_self]
    rfl
theorem Stp.fr {p : Addr} {K : PySem.W.Frag} {H H' : Hp} {vs : List V} {fs : List Fr} (S : Stp p H H') (hp : HandAt H p) (h : FrsIn K H vs fs) : FrsIn K H' vs fs := ⟨h.1, fun i v hv => by
  obtain ⟨f, h1, s, h2, h3⟩ := h.2 i v hv
  exact ⟨f, h1, s, h2, S.sqT hp h3⟩⟩
def FrGood (f : Fr) : Prop := FrOk f ∧ 0 < f.1 ∧ Nat.gcd f.1.natAbs f.2.natAbs = 1
section
variable {P : Program} {w : World} {K : PySem.W.Frag} {mg : Str → Option Value} {base : Heap}
end
end Law



namespace Law
open PySem L2
/-! ### where a move leads -/
/-- a list of whole numbers below n grows at D -/
def Grow (p D : Addr) (H : Hp) (n : Int) : Nat → Hp → Prop := fun i H' => Stp p H H' ∧ ∃ ws : List Int, H' D = some (.lst (ws.map V.int)) ∧ ws.length = i ∧ ∀ x ∈ ws, 0 ≤ x ∧ x < n
theorem Grow.zero {p D : Addr} {H : Hp} {n : Int} (hH : HandAt H p) (hD : H D = none) : Grow p D H n 0 (upd H D (.lst [])) := ⟨Stp.of hH (Same.new hD), [], upd_same, rfl, fun x hx => absurd hx List.not_mem_nil⟩
theorem Grow.put {p D : Addr} {H H1 H2 : Hp} {n x : Int} {i : Nat} (hH : HandAt H p) (hD : H D = none) (g : Grow p D H n i H1) (S : Stp p H1 H2) (hi : i ≤ 999) (x0 : 0 ≤ x) (x1 : x < n) :
    ∃ acc, H2 D = some (.lst acc) ∧ acc.length < sizeLine ∧ Grow p D H n (i + 1) (upd H2 D (.lst (acc ++ [V.int x]))) := by
  obtain ⟨S1, ws, h1, h2, h3⟩ := g
  have nD : D ≠ p := ne_of h1 S1.hand.dk.choose_spec (by intro z; cases z)
  refine ⟨_, S.keep _ _ nD h1, ?_, (S1.trans S).mut hH hD, ws ++ [x], ?_, ?_, ?_⟩
  · rw [List.length_map, h2]
    exact small1000 (by omega)
  · rw [upd_same, List.map_append] <;> rfl
  · rw [List.length_append, h2] <;> rfl
  · intro y hy
    rcases List.mem_append.mp hy with hy | hy
    · exact h3 y hy
    · rw [List.mem_singleton.mp hy]
      exact ⟨x0, x1⟩
section
variable {P : Program} {w : World} {K : PySem.W.Frag} {mg : Str → Option Value} {base : Heap}
end
end Law



namespace Law
open PySem L2
/-! ### drawn moves -/
theorem Stp.mvAt {p : Addr} {K : PySem.W.Frag} {H H' : Hp} {v : V} {m : Mv} (S : Stp p H H') (hp : HandAt H p) (h : MvAt K H v m) : MvAt K H' v m := by
  obtain ⟨a, s, l, h1, h2, h3, h4⟩ := h
  exact ⟨a, s, l, h1, S.sqT hp h2, S.sqT hp h3, S.sqT hp h4⟩
theorem Stp.mv {p : Addr} {K : PySem.W.Frag} {H H' : Hp} {vs : List V} {ms : List Mv} (S : Stp p H H') (hp : HandAt H p) (h : MvsIn K H vs ms) : MvsIn K H' vs ms := ⟨h.1, fun i v hv => by
  obtain ⟨m, h1, h2⟩ := h.2 i v hv
  exact ⟨m, h1, S.mvAt hp h2⟩⟩
theorem Stp.mvs {p : Addr} {K : PySem.W.Frag} {H H' : Hp} {a : Addr} {ms : List Mv} (S : Stp p H H') (hp : HandAt H p) (h : MvsAt K H a ms) : MvsAt K H' a ms := by
  obtain ⟨vs, h1, h2⟩ := h
  exact ⟨vs, S.sqT hp h1, S.mv hp h2⟩
theorem mvAt_upd {K : PySem.W.Frag} {H : Hp} {D : Addr} {acc : List V} {o : HO} {v : V} {m : Mv} (hD : H D = some (.lst acc)) (h : MvAt K H v m) : MvAt K (upd H D o) v m := by
  obtain ⟨a, s, l, h1, h2, h3, h4⟩ := h
  exact ⟨a, s, l, h1, sqT_upd hD h2, sqT_upd hD h3, sqT_upd hD h4⟩
theorem MvsIn.snoc {K : PySem.W.Frag} {H : Hp} {D : Addr} {acc : List V} {ms : List Mv} {v : V} {m : Mv} (h : MvsIn K H acc ms) (hD : H D = some (.lst acc)) (hv : MvAt K H v m) : MvsIn K (upd H D (.lst (acc ++ [v]))) (acc ++ [v]) (ms ++ [m]) := by
  refine ⟨by rw [List.length_append, List.length_append, h.1]; rfl, fun i u hu => ?_⟩
  rcases snoc_get hu with ⟨hi, e⟩ | ⟨hi, e⟩
  · obtain ⟨g, h1, h2⟩ := h.2 i u e
    exact ⟨g, by rw [List.getElem?_append_left (by rw [← h.1]; exact hi)]; exact h1, mvAt_upd hD h2⟩
  · subst e
    refine ⟨m, ?_, mvAt_upd hD hv⟩
    rw [List.getElem?_append_right (by rw [hi, h.1]; exact Nat.le_refl _), hi, h.1, Nat.sub_self]
    rfl
section
variable {P : Program} {w : World} {K : PySem.W.Frag} {mg : Str → Option Value} {base : Heap}
/-- moves that are drawn: as a System may have them, their shares of moderate size -/
structure MvsOk (many : Nat) (ms : List Mv) : Prop where
  ok : SysOk many ms
  lt : ∀ m ∈ ms, m.1.1 < 2 ^ 40 ∧ m.1.2 < 2 ^ 40
end
end Law



namespace L2
open PySem PySem.Spec PyProof.Rows
/-! ### (x,) * n for every n; t.count(k); set(t) of a tuple of ints -/
theorem tuple_mul0 (l : Addr) (items : Array Value) (n : Nat) (dd : Option Addr) (sl : Array (Option Value)) (u : Tok) (hi : items.isEmpty = false) :
    Meets (Builtin.«tuple.__mul__» ⟨[.ref l, .int 0 u], []⟩) (fun _ R s => s.heap.get? l = some { cls := .type "tuple", dict := dd, data := .seq items n, slots := sl } ∧
      R (.ok (.ret (Value.ref s.heap.objs.size))) { s with heap := s.heap.push { cls := Value.type "tuple", data := Data.seq #[] }, toks := s.toks }) :=
  .of_wp fun prog w A R s h => by
    obtain ⟨hp, g, d, tk, os⟩ := s
    obtain ⟨hl, h⟩ := h
    have f1 := AutoSeq1.idx_int
    have c1 : (items.isEmpty || (0 : Int) == 1) = false := by rw [hi] <;> rfl
    wp_walk using wpAny_loadPart' hl
    repeat (first
      | (refine wpAny_ite_false (decide_eq_false (by decide)) ?_; wp_walk using wpAny_loadPart' hl)
      | (refine wpAny_ite_false (decide_eq_false (by rw [c1]; exact Bool.false_ne_true)) ?_; wp_walk using wpAny_loadPart' hl)
      | (refine wpAny_ite_true (decide_eq_true (by simp)) ?_; wp_walk using wpAny_loadPart' hl))
    exact ⟨_, rfl, h⟩
theorem tuple_mul1 (l : Addr) (items : Array Value) (n : Nat) (dd : Option Addr) (sl : Array (Option Value)) (u : Tok) :
    Meets (Builtin.«tuple.__mul__» ⟨[.ref l, .int 1 u], []⟩) (fun _ R s => s.heap.get? l = some { cls := .type "tuple", dict := dd, data := .seq items n, slots := sl } ∧ R (.ok (.ret (Value.ref l))) s) :=
  .of_wp fun prog w A R s h => by
    obtain ⟨hp, g, d, tk, os⟩ := s
    obtain ⟨hl, h⟩ := h
    have f1 := AutoSeq1.idx_int
    have c1 : (items.isEmpty || (1 : Int) == 1) = true := by simp
    wp_walk using wpAny_loadPart' hl
    repeat (first
      | (refine wpAny_ite_false (decide_eq_false (by decide)) ?_; wp_walk using wpAny_loadPart' hl)
      | (refine wpAny_ite_true (decide_eq_true (by rw [c1])) ?_; wp_walk using wpAny_loadPart' hl, wpAny_typeOf' ⟨_, hl, rfl⟩))
    exact ⟨_, rfl, h⟩
def rCntT (K : PySem.W.Frag) : V → List V → Hp → VK → Prop := fun x xs H Q => ∃ (p : Addr) (ns : List Int) (k : Int), x = .ref p ∧ xs = [.int k] ∧ SqT K H p (ns.map V.int) ∧ Q (.int (ns.count k : Nat)) H
def rSetI (K : PySem.W.Frag) (w : World) : List V → Hp → VK → Prop := fun vs H Q => ∃ (a : Addr) (ns : List Int), vs = [V.ref a] ∧ SqT K H a (ns.map V.int) ∧ ns.length ≤ 1000 ∧
  ∀ (p : Addr) (c : Nat), H p = none → c ≤ ns.length → Q (.ref p) (upd H p (SetO w p (fun j => decide (j ∈ ns)) c))
section
variable {X : Cx}
theorem mt_tcount : MtR X "tuple.count" (rCntT X.K) := by
  intro pins s σ H x xs v us Q I rx rxs h
  obtain ⟨p, ns, k, rfl, rfl, hs, q⟩ := h
  cases rx
  obtain ⟨u, rfl, ru⟩ := rxs.one
  obtain ⟨t, rfl⟩ := ru
  obtain ⟨its, rv, ⟨⟨cls, dd, data, sl⟩, ho, hc, n, hd⟩, hlen⟩ := I.tuple hs
  simp only at hc hd
  subst hc hd
  have hi := ints_of_vals rv
  refine call_meets PySem.F.slot_tuple_count ⟨_, ho, rfl⟩ PySem.F.entry_tuple_count (PySem.F.args_tuple_count_2 _ _)
    (SeqAt.tuple_countAt p its.toArray n dd sl (.int k t) (eqk k)) ⟨ho, fun y hy => (eqk_gives hi y (by simpa using hy)).at _ _, ?_⟩
  have ec : its.toArray.toList.countP (eqk k) = ns.count k := eqk_count hi
  refine ⟨.int (ns.count k : Nat), H, I.tok _, ⟨s.toks, ?_⟩, q⟩
  show Value.int ((its.toArray.toList.countP (eqk k) : Nat) : Int) s.toks = Value.int ((ns.count k : Nat) : Int) s.toks
  rw [ec]
theorem cr_setI (hc : X.calm = true) : CallR X (.type "set") (rSetI X.K X.w) := by
  intro pins s σ H xs us Q I r h
  obtain ⟨a, ns, rfl, hq, hl, q⟩ := h
  rw [Vals.ref1 r]
  obtain ⟨its, rv, pt, hz⟩ := I.tuple hq
  have hi : IntsAre its.toArray.toList ns := ints_of_vals rv
  refine call_set_tupI ns (I.ok.hd hc) (show s.heap.IsTuple a its.toArray from pt) hi (by unfold scanBound; omega) fun h' tk c R1 hcn k => ?_
  exact ⟨.ref _, upd H s.heap.objs.size (SetO X.w s.heap.objs.size (fun j => decide (j ∈ ns)) c), I.laid (t' := tk) k (Nat.le_refl _) (setO_new R1), rfl, q _ c (I.hok.fresh (Nat.le_refl _)) hcn⟩
def rRepI (K : PySem.W.Frag) : R2 := fun x y H Q => ∃ l k xs, x = .ref l ∧ y = .int k ∧ SqT K H l xs ∧ xs ≠ [] ∧ 0 ≤ k ∧ k ≤ 1000 ∧ xs.length ≤ 1000 ∧
  (k = 0 → ∀ p, H p = none → Q (.ref p) (upd H p (.tup []))) ∧ (k = 1 → Q (.ref l) H) ∧ (2 ≤ k → ∀ p, H p = none → Q (.ref p) (upd H p (.tup (List.replicate k.toNat xs).flatten)))
theorem op_repI : OpR X (binaryOp .Mult) (rRepI X.K) := by
  intro pins s σ H x y v u Q I rx ry h
  obtain ⟨l, k, xs, rfl, rfl, hT, hne, h1, h2, hz, q0, q1, q2⟩ := h
  by_cases k2 : 2 ≤ k
  · exact op_repT pins s σ H _ _ v u Q I rx ry ⟨l, k, xs, rfl, rfl, hT, hne, k2, h2, hz, q2 k2⟩
  cases rx
  obtain ⟨t, rfl⟩ := ry
  obtain ⟨its, r, ⟨⟨cls, dd, data, sl⟩, ho, hc, n, hd⟩, hs⟩ := I.tuple hT
  simp only at hc hd
  subst hc hd
  have hle : its.length = xs.length := r.length.symm
  have hn : its ≠ [] := fun e => hne (by
    rw [e] at hle
    exact List.eq_nil_of_length_eq_zero hle.symm)
  have hi : its.toArray.isEmpty = false := by
    cases its with
    | nil => exact absurd rfl hn
    | cons a b => rfl
  by_cases k0 : k = 0
  · subst k0
    refine wpAny_binaryOp_repeat_ref (T := "tuple") (U := "int") (by decide) ⟨_, ho, rfl⟩ (fun s' => typeIs_int s' 0 t) noFill_tuple_mul F.fills_int_mul F.slot_int_rmul repeat_tuple F.slot_int_index.lookup
      (call_meets F.slot_int_rmul (typeIs_int s 0 t) F.entry_int_rmul (F.args_int_rmul_2 _ _) (int_rmul_tuple 0 t l its.toArray n dd sl)
        ⟨ho, rfl, ⟨_, ho, rfl⟩, call_meets F.slot_tuple_mul ⟨_, ho, rfl⟩ F.entry_tuple_mul (F.args_tuple_mul_2 _ _) (tuple_mul0 l its.toArray n dd sl t hi) ⟨ho, ?_⟩⟩)
    refine ⟨.ref s.heap.objs.size, _, I.laid (t' := s.toks) (o := .tup []) (fun b ob q => Heap.get?_push_of_some _ q) (Nat.le_refl _) ?_, rfl, q0 rfl _ (I.hok.fresh (Nat.le_refl _))⟩
    exact ⟨Nat.zero_le _, [], .nil, IsTup.new _ _⟩
  · have k1 : k = 1 := by omega
    subst k1
    exact wpAny_binaryOp_repeat_ref (T := "tuple") (U := "int") (by decide) ⟨_, ho, rfl⟩ (fun s' => typeIs_int s' 1 t) noFill_tuple_mul F.fills_int_mul F.slot_int_rmul repeat_tuple F.slot_int_index.lookup
      (call_meets F.slot_int_rmul (typeIs_int s 1 t) F.entry_int_rmul (F.args_int_rmul_2 _ _) (int_rmul_tuple 1 t l its.toArray n dd sl)
        ⟨ho, rfl, ⟨_, ho, rfl⟩, call_meets F.slot_tuple_mul ⟨_, ho, rfl⟩ F.entry_tuple_mul (F.args_tuple_mul_2 _ _) (tuple_mul1 l its.toArray n dd sl t) ⟨ho, ⟨.ref l, H, I, rfl, q1 rfl⟩⟩⟩)
end
end L2


namespace L2
open PySem
theorem rep_one {α : Type} (z : α) : ∀ m : Nat, (List.replicate m [z]).flatten = List.replicate m z
  | 0 => rfl
  | m + 1 => by rw [List.replicate_succ, List.flatten_cons, rep_one z m, List.replicate_succ] <;> rfl
end L2
namespace L2
open PySem
/-- all but p stands as it was -/
def Kp (p : Addr) (H H' : Hp) : Prop := ∀ b o, b ≠ p → H b = some o → H' b = some o
theorem Same.kp {p : Addr} {H H' : Hp} (s : Same H H') : Kp p H H' := fun b o _ e => s b o e
end L2
namespace Law
open PySem L2
theorem Stp.kp {p : Addr} {H H' : Hp} (s : Stp p H H') : Kp p H H' := s.keep
/-! ### a world: a dict of many, leads, weights, sum -/
def wdK (many : Int) (la wa : Addr) (S : Int) : List (Key × V) := [(Sum.inr ("many" : Str), .int many), (Sum.inr ("leads" : Str), .ref la), (Sum.inr ("weights" : Str), .ref wa), (Sum.inr ("sum" : Str), .int S)]
theorem w01 : ¬ ((Sum.inr ("many" : Str) : Key) = Sum.inr ("leads" : Str)) := sne (by decide +kernel)
theorem w02 : ¬ ((Sum.inr ("many" : Str) : Key) = Sum.inr ("weights" : Str)) := sne (by decide +kernel)
theorem w03 : ¬ ((Sum.inr ("many" : Str) : Key) = Sum.inr ("sum" : Str)) := sne (by decide +kernel)
theorem w12 : ¬ ((Sum.inr ("leads" : Str) : Key) = Sum.inr ("weights" : Str)) := sne (by decide +kernel)
theorem w13 : ¬ ((Sum.inr ("leads" : Str) : Key) = Sum.inr ("sum" : Str)) := sne (by decide +kernel)
theorem w23 : ¬ ((Sum.inr ("weights" : Str) : Key) = Sum.inr ("sum" : Str)) := sne (by decide +kernel)
section
variable {H : Hp} {p la wa : Addr} {m S : Int} (h : H p = some (.dK (wdK m la wa S)))
include h
theorem gw_many : DGet H p (.str "many") (some (.int m)) := by
  have q := DGet.k (k := Sum.inr ("many" : Str)) h
  rw [show valV (wdK m la wa S) (Sum.inr ("many" : Str)) = some (.int m) from valV_pos rfl] at q
  exact q
theorem gw_leads : DGet H p (.str "leads") (some (.ref la)) := by
  have q := DGet.k (k := Sum.inr ("leads" : Str)) h
  rw [show valV (wdK m la wa S) (Sum.inr ("leads" : Str)) = some (.ref la) from (valV_neg w01).trans (valV_pos rfl)] at q
  exact q
theorem gw_weights : DGet H p (.str "weights") (some (.ref wa)) := by
  have q := DGet.k (k := Sum.inr ("weights" : Str)) h
  rw [show valV (wdK m la wa S) (Sum.inr ("weights" : Str)) = some (.ref wa) from (valV_neg w02).trans ((valV_neg w12).trans (valV_pos rfl))] at q
  exact q
theorem gw_sum : DGet H p (.str "sum") (some (.int S)) := by
  have q := DGet.k (k := Sum.inr ("sum" : Str)) h
  rw [show valV (wdK m la wa S) (Sum.inr ("sum" : Str)) = some (.int S) from (valV_neg w03).trans ((valV_neg w13).trans ((valV_neg w23).trans (valV_pos rfl)))] at q
  exact q
end
theorem wd_keys : ([Sum.inr ("many" : Str), Sum.inr ("leads" : Str), Sum.inr ("weights" : Str), Sum.inr ("sum" : Str)] : List Key).Nodup := by decide +kernel
theorem merge_wd (m : Int) (la wa : Addr) (S : Int) : mergeK [] (wdK m la wa S) = wdK m la wa S := merge_app _ [] wd_keys
theorem nCM : ¬ (("cells" : Str) = "many") := by decide +kernel
theorem wd_ne {H : Hp} {p wd la wa : Addr} {m S : Int} (hp : HandAt H p) (h : H wd = some (.dK (wdK m la wa S))) : wd ≠ p := by
  obtain ⟨ca, cells, a, g, s, t, hp, _⟩ := hp
  intro e
  subst e
  rw [hp] at h
  injection h with h
  injection h with h
  unfold hdK wdK at h
  injection h with h _
  injection h with h _
  exact nCM (Sum.inr.inj h)
/-- tuples of whole numbers -/
def TupsIn (K : PySem.W.Frag) (H : Hp) (vs : List V) (Ls : List (List Int)) : Prop := vs.length = Ls.length ∧ ∀ (i : Nat) (v : V), vs[i]? = some v → ∃ xs, Ls[i]? = some xs ∧ ∃ l, v = .ref l ∧ SqT K H l (xs.map V.int)
theorem sqT_kp {K : PySem.W.Frag} {p a : Addr} {H H' : Hp} {xs : List V} (k : Kp p H H') (hp : HandAt H p) (h : SqT K H a xs) : SqT K H' a xs := keep_sqT k hp.dk h
theorem TupsIn.kp {K : PySem.W.Frag} {p : Addr} {H H' : Hp} {vs : List V} {Ls : List (List Int)} (h : TupsIn K H vs Ls) (k : Kp p H H') (hp : HandAt H p) : TupsIn K H' vs Ls := ⟨h.1, fun i v hv => by
  obtain ⟨xs, h1, l, h2, h3⟩ := h.2 i v hv
  exact ⟨xs, h1, l, h2, sqT_kp k hp h3⟩⟩
theorem TupsIn.same {K : PySem.W.Frag} {H H' : Hp} {vs : List V} {Ls : List (List Int)} (h : TupsIn K H vs Ls) (k : Same H H') : TupsIn K H' vs Ls := ⟨h.1, fun i v hv => by
  obtain ⟨xs, h1, l, h2, h3⟩ := h.2 i v hv
  exact ⟨xs, h1, l, h2, k.sqT h3⟩⟩
theorem TupsIn.snoc {K : PySem.W.Frag} {H : Hp} {D l : Addr} {acc : List V} {Ls : List (List Int)} {xs : List Int} (h : TupsIn K H acc Ls) (hD : H D = some (.lst acc)) (hl : SqT K H l (xs.map V.int)) : TupsIn K (upd H D (.lst (acc ++ [.ref l]))) (acc ++ [.ref l]) (Ls ++ [xs]) := by
  refine ⟨by rw [List.length_append, List.length_append, h.1]; rfl, fun i u hu => ?_⟩
  rcases snoc_get hu with ⟨hi, e⟩ | ⟨hi, e⟩
  · obtain ⟨g, h1, s, h2, h3⟩ := h.2 i u e
    exact ⟨g, by rw [List.getElem?_append_left (by rw [← h.1]; exact hi)]; exact h1, s, h2, sqT_upd hD h3⟩
  · subst e
    refine ⟨xs, ?_, l, rfl, sqT_upd hD hl⟩
    rw [List.getElem?_append_right (by rw [hi, h.1]; exact Nat.le_refl _), hi, h.1, Nat.sub_self]
    rfl
theorem TupsIn.nil {K : PySem.W.Frag} {H : Hp} : TupsIn K H [] [] := ⟨rfl, fun i v hv => by simp at hv⟩
structure WOk (many : Nat) (Ls : List (List Int)) (ws : List Int) : Prop where
  m1 : 1 ≤ many
  m2 : many ≤ 12
  l1 : 1 ≤ Ls.length
  l2 : Ls.length ≤ 24
  wl : ws.length = Ls.length
  ld : ∀ xs ∈ Ls, xs.length = many ∧ ∀ x ∈ xs, 0 ≤ x ∧ x < (many : Int)
  wt : ∀ x ∈ ws, 0 < x ∧ x < 2 ^ 34
def WAt (K : PySem.W.Frag) (H : Hp) (wd : Addr) (many : Nat) (Ls : List (List Int)) (ws : List Int) : Prop := ∃ la wa vs, H wd = some (.dK (wdK (many : Int) la wa ws.sum)) ∧ H la = some (.lst vs) ∧ TupsIn K H vs Ls ∧ H wa = some (.lst (ws.map V.int))
theorem WAt.kp {K : PySem.W.Frag} {p wd : Addr} {H H' : Hp} {many : Nat} {Ls : List (List Int)} {ws : List Int} (h : WAt K H wd many Ls ws) (k : Kp p H H') (hp : HandAt H p) : WAt K H' wd many Ls ws := by
  obtain ⟨la, wa, vs, h1, h2, h3, h4⟩ := h
  obtain ⟨ks, hk⟩ := hp.dk
  exact ⟨la, wa, vs, k _ _ (wd_ne hp h1) h1, k _ _ (ne_of h2 hk (by intro z; cases z)) h2, h3.kp k hp, k _ _ (ne_of h4 hk (by intro z; cases z)) h4⟩
theorem WAt.same {K : PySem.W.Frag} {wd : Addr} {H H' : Hp} {many : Nat} {Ls : List (List Int)} {ws : List Int} (h : WAt K H wd many Ls ws) (k : Same H H') : WAt K H' wd many Ls ws := by
  obtain ⟨la, wa, vs, h1, h2, h3, h4⟩ := h
  exact ⟨la, wa, vs, k _ _ h1, k _ _ h2, h3.same k, k _ _ h4⟩
theorem gI_le {t b : Int} (hb : 0 < b) : gI t b ≤ b := by
  have z : Nat.gcd t.natAbs b.natAbs ≤ b.natAbs := Nat.gcd_le_right _ (by omega)
  unfold gI
  omega
section
variable {P : Program} {w : World} {K : PySem.W.Frag} {mg : Str → Option Value} {base : Heap}
def spLowS : Sp := fun vs H Q _ => ∃ (t b : Int), vs = [.int t, .int b] ∧ 0 ≤ t ∧ 0 < b ∧ b < 2 ^ 41 ∧ ∀ p, H p = none → Q (.ref p) (upd H p (.tup [.int (lowP t b).1, .int (lowP t b).2]))
abbrev nLawLow : List Str := ["_law_top", "_law_bottom", "_law_one", "_law_other"]
theorem scLawLow : FnScope nLawLow ["_law_top", "_law_bottom"] (defScope s_law_low) := ⟨rfl, rfl, rfl, by decide +kernel, rfl, by decide +kernel, by decide +kernel⟩
theorem ok_low {f : Addr} {fd : FuncData} (F : Fun K "_law_low" "_law_low" s_law_low f fd) (T : NmA mg) : FnOk P w K mg base CX0 1 f fd ["_law_top", "_law_bottom"] spLowS := by
  refine F.ok scLawLow (fun vs H Q E h => ?_) (fun cdv A' outer s H vs Q E hr h => ?_)
  · obtain ⟨t, b, rfl, _⟩ := h
    rfl
  · obtain ⟨t, b, rfl, ht, hb, hb2, k⟩ := h
    have hu := hu_of hr
    refine ⟨_, pss_cons (ps_par (i := 2) (j := 3) (by rfl) scLawLow.nd rfl rfl (by decide) rfl rfl (pa_cons (pe_callB call_abs (by rfl) T.abs (by decide +kernel) (pa_cons (pv 0) pa_nil)) (pa_cons (pv 1) pa_nil)) (by rfl))
      (pss_cons (ps_while PassesOwn.never (pt_cmpR op_gt (pv 3) pe_int (nomark _))
        (pss_one (ps_par (i := 2) (j := 3) (by rfl) scLawLow.nd rfl rfl (by decide) rfl rfl (pa_cons (pv 3) (pa_cons (pe_op op_mod (pe_callTy call_int1 (by rfl) T.int (by decide +kernel) (pa_cons (pv 2) pa_nil)) (pv 3)) pa_nil)) (by rfl))))
      (pss_one (ps_ret (pe_tup (pa_cons (pe_op op_fdivW (pv 0) (pv 2)) (pa_cons (pe_op op_fdivW (pv 1) (pv 2)) pa_nil)))))), ?_⟩
    have gp : (0 : Int) < gI t b := gI_pos hb
    have gl : gI t b ≤ b := gI_le hb
    refine ⟨_, rfl, t, rfl, _, rfl, _, _, rfl, ?_⟩
    rw [if_neg (show ¬ t < 0 by omega)]
    refine ⟨fun m σ H' => H' = H ∧ ∃ x y : Int, σ = [some (.int t), some (.int b), some (.int x), some (.int y)] ∧ 0 ≤ x ∧ 0 ≤ y ∧ gI x y = gI t b ∧ m = y.toNat, ⟨_, rfl, t, b, rfl, ht, by omega, rfl, rfl⟩, ?_⟩
    rintro m σ H' ⟨rfl, x, y, rfl, hx, hy, e, rfl⟩
    refine ⟨_, rfl, _, _, rfl, rfl, _, rfl, ite2 (fun h1 => ?_) (fun h1 => ?_)⟩
    · have y0 : 0 < y := of_decide_eq_true h1
      refine ⟨fun σ' H1 => H1 = H' ∧ ∃ x' y' : Int, σ' = [some (.int t), some (.int b), some (.int x'), some (.int y')] ∧ 0 ≤ x' ∧ 0 ≤ y' ∧ gI x' y' = gI t b ∧ y'.toNat < y.toNat, ?_, ?_⟩
      · rintro σ' H1 ⟨rfl, x', y', rfl, a1, a2, a3, a4⟩
        exact ⟨_, a4, rfl, x', y', rfl, a1, a2, a3, rfl⟩
      · refine ⟨_, rfl, _, rfl, .inl ⟨_, rfl, _, rfl, _, _, rfl, rfl, y0, _, _, rfl, ?_⟩⟩
        have r0 := Int.emod_nonneg x (show y ≠ 0 by omega)
        have r1 := Int.emod_lt_of_pos x y0
        exact ⟨rfl, y, x % y, rfl, by omega, r0, by rw [gI_step hx y0]; exact e, by omega⟩
    · have y0 : y = 0 := by
        have z : ¬ 0 < y := fun q => h1 (decide_eq_true q)
        omega
      subst y0
      rw [gI_zero hx] at e
      subst e
      refine ⟨_, rfl, _, rfl, _, _, rfl, rfl, wide_div (b := 41) gp (by omega) (by decide) (by decide), _, rfl, _, rfl, _, _, rfl, rfl, wide_div (b := 41) gp (by omega) (by decide) (by decide), ?_⟩
      exact ⟨(by show 2 ≤ sizeLine; decide), fun p hp => k p hp⟩
def spLeads (K : PySem.W.Frag) : Sp := fun vs H Q _ => ∃ (p : Addr) (n : Nat), vs = [.ref p, .int (n : Int)] ∧ 1 ≤ n ∧ n ≤ 12 ∧ HandAt H p ∧
  ∀ (l : Addr) (H' : Hp) (xs : List Int), Stp p H H' → H' l = some (.tup (xs.map V.int)) → xs.length = n → (∀ x ∈ xs, 0 ≤ x ∧ x < (n : Int)) → Q (.ref l) H'
abbrev nLawLeads : List Str := ["_law_hand_here", "_law_many", "_law_kind", "_law_one", "_law_other", "_law_state"]
theorem scLawLeads : FnScope nLawLeads ["_law_hand_here", "_law_many"] (defScope s_law_leads) := ⟨rfl, rfl, rfl, by decide +kernel, rfl, by decide +kernel, by decide +kernel⟩
theorem ok_leads {f : Addr} {fd : FuncData} {fD : Addr} {fdD : FuncData} (F : Fun K "_law_leads" "_law_leads" s_law_leads f fd) (T : NmA mg) (D : Cl P w K mg base CX0 1 "_law_draw" fD fdD ["_law_hand_here", "_law_many"] spDraw) : FnOk P w K mg base CX0 2 f fd ["_law_hand_here", "_law_many"] (spLeads K) := by
  refine F.ok scLawLeads (fun vs H Q E h => ?_) (fun cdv A' outer s H vs Q E hr h => ?_)
  · obtain ⟨p, n, rfl, _⟩ := h
    rfl
  · obtain ⟨p, n, rfl, n1, n12, hH, k⟩ := h
    have hu := hu_of hr
    refine ⟨_, pss_cons (ps_asg (pe_tup (pa_cons (D.call (hr.mono (by decide)) (pa_cons (pv 0) (pa_cons pe_int pa_nil))) (pa_cons (D.call (hr.mono (by decide)) (pa_cons (pv 0) (pa_cons (pv 1) pa_nil))) (pa_cons (D.call (hr.mono (by decide)) (pa_cons (pv 0) (pa_cons (pv 1) pa_nil))) pa_nil)))) (pg_tup (by rfl) (pgs_cons (pg_name (i := 2) scLawLeads.nd rfl (Or.inl rfl)) (pgs_cons (pg_name (i := 3) scLawLeads.nd rfl (Or.inr rfl)) (pgs_cons (pg_name (i := 4) scLawLeads.nd rfl (Or.inr rfl)) pgs_nil)))))
      (pss_cons (ps_if (pt_cmpR op_lt (pv 2) pe_int (nomark _))
        (pss_one (ps_ret (pe_callTy call_tuple_of (by rfl) T.tuple (by decide +kernel) (pa_cons (pe_lc (own := [("_law_state", 5)]) (g := (gName 5)) (tt := tYes) rfl scLawLeads.nd  (pi_range1 (by rfl) T.range (pa_cons (pv 1) pa_nil)) (blkOk_by (own := [("_law_state", 5)]) (N := nLawLeads) (sc := defScope s_law_leads) (by decide +kernel)) (fun _ _ _ _ _ => (pg_name (i := 5) scLawLeads.nd rfl (Or.inl rfl))) (fun _ _ _ _ _ => pts_nil) (fun _ _ _ _ _ => (D.call (hr.mono (by decide)) (pa_cons (pv 0) (pa_cons (pv 1) pa_nil))))) pa_nil)))) pss_nil)
      (pss_cons (ps_if (pt_cmpR op_eq (pv 2) pe_int (nomark _))
        (pss_one (ps_ret (pe_callTy call_tuple_of (by rfl) T.tuple (by decide +kernel) (pa_cons (pe_lc (own := [("_law_state", 5)]) (g := (gName 5)) (tt := tYes) rfl scLawLeads.nd  (pi_range1 (by rfl) T.range (pa_cons (pv 1) pa_nil)) (blkOk_by (own := [("_law_state", 5)]) (N := nLawLeads) (sc := defScope s_law_leads) (by decide +kernel)) (fun _ _ _ _ _ => (pg_name (i := 5) scLawLeads.nd rfl (Or.inl rfl))) (fun _ _ _ _ _ => pts_nil) (fun _ _ _ _ _ => (pe_ifExp (pt_cmpR op_eq (D.call (hr.mono (by decide)) (pa_cons (pv 0) (pa_cons pe_int pa_nil))) pe_int (nomark _)) (pv 3) (pv 4)))) pa_nil)))) pss_nil)
      (pss_cons (ps_if (pt_cmpR op_eq (pv 2) pe_int (nomark _))
        (pss_one (ps_ret (pe_callTy call_tuple_of (by rfl) T.tuple (by decide +kernel) (pa_cons (pe_lc (own := [("_law_state", 5)]) (g := (gName 5)) (tt := tYes) rfl scLawLeads.nd  (pi_range1 (by rfl) T.range (pa_cons (pv 1) pa_nil)) (blkOk_by (own := [("_law_state", 5)]) (N := nLawLeads) (sc := defScope s_law_leads) (by decide +kernel)) (fun _ _ _ _ _ => (pg_name (i := 5) scLawLeads.nd rfl (Or.inl rfl))) (fun _ _ _ _ _ => pts_nil) (fun _ _ _ _ _ => (pe_ifExp (pt_cmpR op_eq (pv 5) (pv 3) (nomark _)) (pv 4) (pv 5)))) pa_nil)))) pss_nil)
      (pss_cons (ps_if (pt_cmpR op_eq (pv 2) pe_int (nomark _))
        (pss_one (ps_ret (pe_callTy call_tuple_of (by rfl) T.tuple (by decide +kernel) (pa_cons (pe_lc (own := [("_law_state", 5)]) (g := (gName 5)) (tt := tYes) rfl scLawLeads.nd  (pi_range1 (by rfl) T.range (pa_cons (pv 1) pa_nil)) (blkOk_by (own := [("_law_state", 5)]) (N := nLawLeads) (sc := defScope s_law_leads) (by decide +kernel)) (fun _ _ _ _ _ => (pg_name (i := 5) scLawLeads.nd rfl (Or.inl rfl))) (fun _ _ _ _ _ => pts_nil) (fun _ _ _ _ _ => (pe_op op_mod (pe_callTy (r := fun xs H Q => (∃ i, xs = [.int i] ∧ Q (.int i) H) ∨ ∃ k, xs = [.bl k] ∧ Q (.int (if k then 1 else 0)) H) call_int1 (by rfl) T.int (by decide +kernel) (pa_cons (pe_op op_add (pv 5) (pv 3)) pa_nil)) (pv 1)))) pa_nil)))) pss_nil)
      (pss_one (ps_ret (pe_callTy call_tuple_of (by rfl) T.tuple (by decide +kernel) (pa_cons (pe_ifExp (pt_cmpR op_eq (D.call (hr.mono (by decide)) (pa_cons (pv 0) (pa_cons pe_int pa_nil))) pe_int (nomark _)) (pe_op op_rep (pe_lst (pa_cons (pv 3) pa_nil)) (pv 1)) (pe_listRg (by rfl) (by rfl) T.list (prg_1 (by rfl) T.range (pv 1)))) pa_nil)))))))), ?_⟩
    have fin : ∀ (D : Addr) (H' : Hp) (ws : List Int), Stp p H H' → H' D = some (.lst (ws.map V.int)) → ws.length = n → (∀ x ∈ ws, 0 ≤ x ∧ x < (n : Int)) → ∃ q ys, [V.ref D] = [.ref q] ∧ ((SqL K H' q ys ∧ ∀ l, H' l = none → Q (.ref l) (upd H' l (.tup ys))) ∨ (SqT K H' q ys ∧ Q (.ref q) H')) := by
      intro D H' ws S h1 h2 h3
      exact ⟨D, _, rfl, .inl ⟨SqL.of h1, fun l hl => k l _ ws (S.post (Same.new hl)) upd_same h2 h3⟩⟩
    have done : ∀ (D : Addr) (H1 H' : Hp), Stp p H H1 → Grow p D H1 n n H' → ∃ q ys, [V.ref D] = [.ref q] ∧ ((SqL K H' q ys ∧ ∀ l, H' l = none → Q (.ref l) (upd H' l (.tup ys))) ∨ (SqT K H' q ys ∧ Q (.ref q) H')) := by
      rintro D H1 H' S ⟨S1, ws, h1, h2, h3⟩
      exact fin D H' ws (S.trans S1) h1 h2 h3
    refine ⟨_, rfl, p, 7, rfl, by decide, by decide, hH, fun kd H1 d0 d1 S1 => ?_⟩
    refine ⟨_, rfl, _, rfl, p, (n : Int), rfl, by omega, by omega, S1.hand, fun one H2 o0 o1 S2 => ?_⟩
    refine ⟨_, rfl, _, rfl, p, (n : Int), rfl, by omega, by omega, S2.hand, fun oth H3 t0 t1 S3 => ⟨by show 3 ≤ sizeLine; decide, fun q hq => ?_⟩⟩
    have S4 : Stp p H (upd H3 q (.tup [.int kd, .int one, .int oth])) := ((S1.trans S2).trans S3).post (Same.new hq)
    refine ⟨q, _, rfl, SqT.of upd_same, rfl, _, _, rfl, _, _, rfl, _, _, rfl, rfl, ?_⟩
    generalize upd H3 q (.tup [.int kd, .int one, .int oth]) = H4 at S4 ⊢
    have np : (0 : Int) < n := by omega
    refine ⟨_, rfl, _, _, rfl, rfl, _, rfl, ite2 (fun _ => ?_) (fun _ => ?_)⟩
    · refine ⟨_, rfl, (n : Int), rfl, by omega, by omega, fun D hD => ?_⟩
      refine lc_range (lo := 0) (n := n) (Grow p D H4 n) (Grow.zero S4.hand hD) (fun i H' hi g => ?_) fun H' g => done D H4 H' S4 g
      exact ⟨rfl, _, rfl, _, rfl, p, (n : Int), rfl, by omega, by omega, g.1.hand, fun d3 H5 f0 f1 S5 => g.put S4.hand hD S5 (by omega) f0 f1⟩
    refine ⟨_, rfl, rfl, _, rfl, ite2 (fun _ => ?_) (fun _ => ?_)⟩
    · refine ⟨_, rfl, (n : Int), rfl, by omega, by omega, fun D hD => ?_⟩
      refine lc_range (lo := 0) (n := n) (Grow p D H4 n) (Grow.zero S4.hand hD) (fun i H' hi g => ?_) fun H' g => done D H4 H' S4 g
      refine ⟨rfl, _, rfl, p, 2, rfl, by decide, by decide, g.1.hand, fun d2 H5 e0 e1 S5 => ⟨rfl, _, rfl, ite2 (fun _ => ?_) (fun _ => ?_)⟩⟩
      · exact ⟨_, rfl, g.put S4.hand hD S5 (by omega) o0 o1⟩
      · exact ⟨_, rfl, g.put S4.hand hD S5 (by omega) t0 t1⟩
    refine ⟨_, rfl, rfl, _, rfl, ite2 (fun _ => ?_) (fun _ => ?_)⟩
    · refine ⟨_, rfl, (n : Int), rfl, by omega, by omega, fun D hD => ?_⟩
      refine lc_range (lo := 0) (n := n) (Grow p D H4 n) (Grow.zero S4.hand hD) (fun i H' hi g => ?_) fun H' g => done D H4 H' S4 g
      refine ⟨rfl, _, rfl, _, rfl, rfl, _, rfl, ite2 (fun _ => ?_) (fun _ => ?_)⟩
      · exact ⟨_, rfl, g.put S4.hand hD (Stp.refl g.1.hand) (by omega) t0 t1⟩
      · exact ⟨_, rfl, g.put S4.hand hD (Stp.refl g.1.hand) (by omega) (by omega) (by omega)⟩
    refine ⟨_, rfl, rfl, _, rfl, ite2 (fun _ => ?_) (fun _ => ?_)⟩
    · refine ⟨_, rfl, (n : Int), rfl, by omega, by omega, fun D hD => ?_⟩
      refine lc_range (lo := 0) (n := n) (Grow p D H4 n) (Grow.zero S4.hand hD) (fun i H' hi g => ?_) fun H' g => done D H4 H' S4 g
      exact ⟨rfl, _, rfl, _, rfl, _, _, rfl, rfl, .inl ⟨_, rfl, _, rfl, _, _, rfl, rfl, np, g.put S4.hand hD (Stp.refl g.1.hand) (by omega) (Int.emod_nonneg _ (by omega)) (Int.emod_lt_of_pos _ np)⟩⟩
    · refine ⟨_, rfl, p, 3, rfl, by decide, by decide, S4.hand, fun d2 H5 e0 e1 S5 => ⟨rfl, _, rfl, ite2 (fun _ => ?_) (fun _ => ?_)⟩⟩
      · refine ⟨_, rfl, (by show 1 ≤ sizeLine; decide), fun D1 hD1 => ⟨_, rfl, D1, (n : Int), _, rfl, rfl, upd_same, by omega, by omega, ?_, fun D2 hD2 => ?_⟩⟩
        · show 1 * _ ≤ sizeLine
          exact Nat.le_of_lt (small1000 (by omega))
        · refine fin D2 _ (List.replicate n one) (((S4.trans S5).post (Same.new hD1)).post (Same.new hD2)) ?_ List.length_replicate ?_
          · rw [upd_same, Int.toNat_natCast, List.map_replicate]
            exact congrArg (fun z => some (HO.lst z)) (rep_one _ n)
          · intro x hx
            rw [(List.mem_replicate.mp hx).2]
            exact ⟨o0, o1⟩
      · refine ⟨_, rfl, (n : Int), rfl, RgOk.of_le (by decide) (by omega) (by decide) (by omega), fun D2 hD2 => ?_⟩
        refine fin D2 _ ((List.range n).map fun i : Nat => (i : Int)) ((S4.trans S5).post (Same.new hD2)) ?_ (by rw [List.length_map, List.length_range]) ?_
        · rw [upd_same]
          unfold rgV
          rw [List.map_map, show ((n : Int) - 0).toNat = n by omega]
          refine congrArg (fun z => some (HO.lst z)) (List.map_congr_left fun i _ => ?_)
          show V.int (0 + (i : Nat)) = V.int (i : Int)
          rw [Int.zero_add]
        · intro x hx
          obtain ⟨i, hi, rfl⟩ := List.mem_map.mp hx
          have := List.mem_range.mp hi
          omega
end
end Law

namespace Law
open PySem L2
/-- a list of whole numbers with a property grows at D -/
def GrowP (p D : Addr) (H : Hp) (P : Int → Prop) : Nat → Hp → Prop := fun i H' => Stp p H H' ∧ ∃ ws : List Int, H' D = some (.lst (ws.map V.int)) ∧ ws.length = i ∧ ∀ x ∈ ws, P x
theorem GrowP.zero {p D : Addr} {H : Hp} {P : Int → Prop} (hH : HandAt H p) (hD : H D = none) : GrowP p D H P 0 (upd H D (.lst [])) := ⟨Stp.of hH (Same.new hD), [], upd_same, rfl, fun x hx => absurd hx List.not_mem_nil⟩
theorem GrowP.put {p D : Addr} {H H1 H2 : Hp} {P : Int → Prop} {x : Int} {i : Nat} (hH : HandAt H p) (hD : H D = none) (g : GrowP p D H P i H1) (S : Stp p H1 H2) (hi : i ≤ 999) (hx : P x) :
    ∃ acc, H2 D = some (.lst acc) ∧ acc.length < sizeLine ∧ GrowP p D H P (i + 1) (upd H2 D (.lst (acc ++ [V.int x]))) := by
  obtain ⟨S1, ws, h1, h2, h3⟩ := g
  have nD : D ≠ p := ne_of h1 S1.hand.dk.choose_spec (by intro z; cases z)
  refine ⟨_, S.keep _ _ nD h1, ?_, (S1.trans S).mut hH hD, ws ++ [x], ?_, ?_, ?_⟩
  · rw [List.length_map, h2]
    exact small1000 (by omega)
  · rw [upd_same, List.map_append] <;> rfl
  · rw [List.length_append, h2] <;> rfl
  · intro y hy
    rcases List.mem_append.mp hy with hy | hy
    · exact h3 y hy
    · rw [List.mem_singleton.mp hy]
      exact hx
/-- a list of tuples grows at D -/
def GrowT (K : PySem.W.Frag) (p D : Addr) (H : Hp) (P : List Int → Prop) : Nat → Hp → Prop := fun i H' => Stp p H H' ∧ ∃ (acc : List V) (Ls : List (List Int)), H' D = some (.lst acc) ∧ TupsIn K H' acc Ls ∧ Ls.length = i ∧ ∀ x ∈ Ls, P x
theorem GrowT.zero {K : PySem.W.Frag} {p D : Addr} {H : Hp} {P : List Int → Prop} (hH : HandAt H p) (hD : H D = none) : GrowT K p D H P 0 (upd H D (.lst [])) := ⟨Stp.of hH (Same.new hD), [], [], upd_same, .nil, rfl, fun x hx => absurd hx List.not_mem_nil⟩
theorem GrowT.put {K : PySem.W.Frag} {p D l : Addr} {H H1 H2 : Hp} {P : List Int → Prop} {xs : List Int} {i : Nat} (hH : HandAt H p) (hD : H D = none) (g : GrowT K p D H P i H1) (S : Stp p H1 H2) (hi : i ≤ 999) (hl : H2 l = some (.tup (xs.map V.int))) (hx : P xs) :
    ∃ acc, H2 D = some (.lst acc) ∧ acc.length < sizeLine ∧ GrowT K p D H P (i + 1) (upd H2 D (.lst (acc ++ [V.ref l]))) := by
  obtain ⟨S1, acc, Ls, h1, h2, h3, h4⟩ := g
  have nD : D ≠ p := ne_of h1 S1.hand.dk.choose_spec (by intro z; cases z)
  have h1' := S.keep _ _ nD h1
  refine ⟨acc, h1', small1000 (by have := h2.1; omega), (S1.trans S).mut hH hD, acc ++ [.ref l], Ls ++ [xs], upd_same, (h2.kp S.kp S1.hand).snoc h1' (SqT.of hl), ?_, ?_⟩
  · rw [List.length_append, h3] <;> rfl
  · intro y hy
    rcases List.mem_append.mp hy with hy | hy
    · exact h4 y hy
    · rw [List.mem_singleton.mp hy]
      exact hx
/-- the moves of a world's System -/
def mvW (Ls : List (List Int)) (ws : List Int) (j : Nat) : Mv := (lowP (ws.getD j 0) ws.sum, Ls.getD j [])
def movesF (Ls : List (List Int)) (ws : List Int) : List Mv := (List.range Ls.length).map (mvW Ls ws)
theorem range_getD (ws : List Int) : (List.range ws.length).map (fun j => ws.getD j 0) = ws := by
  refine List.ext_getElem (by simp) fun i h1 h2 => ?_
  rw [List.getElem_map, List.getElem_range, List.getD_eq_getElem?_getD, List.getElem?_eq_getElem h2] <;> rfl
theorem sys_of {many : Nat} {Ls : List (List Int)} {ws : List Int} (ok : WOk many Ls ws) : SysOk many (movesF Ls ws) := by
  have wn : ws ≠ [] := fun z => by
    have := ok.wl
    have := ok.l1
    rw [z] at *
    simp at *
    omega
  obtain ⟨s0, s1⟩ := sum_pos ws wn fun x hx => (ok.wt x hx).1
  have sB := sum_le (2 ^ 34) ws fun x hx => Int.le_of_lt (ok.wt x hx).2
  have l24 := ok.l2
  have s2 : ws.sum < 2 ^ 40 := by
    rw [ok.wl] at sB
    omega
  refine ⟨ok.m1, ok.m2, by unfold movesF; rw [List.length_map, List.length_range]; exact ok.l1, by unfold movesF; rw [List.length_map, List.length_range]; exact ok.l2, fun m hm => ?_, ?_⟩
  · obtain ⟨j, hj, rfl⟩ := List.mem_map.mp hm
    have hj := List.mem_range.mp hj
    have hw : j < ws.length := by rw [ok.wl]; exact hj
    have e1 : ws.getD j 0 = ws[j] := by rw [List.getD_eq_getElem?_getD, List.getElem?_eq_getElem hw] <;> rfl
    have e2 : Ls.getD j [] = Ls[j] := by rw [List.getD_eq_getElem?_getD, List.getElem?_eq_getElem hj] <;> rfl
    obtain ⟨a1, a2, a3⟩ := share_ok (ok.wt _ (List.getElem_mem hw)).1 (s1 _ (List.getElem_mem hw)) s2
    obtain ⟨b1, b2⟩ := ok.ld _ (List.getElem_mem hj)
    show MvOk many (lowP (ws.getD j 0) ws.sum, Ls.getD j [])
    rw [e1, e2]
    exact ⟨a1, a2, a3, b1, b2⟩
  · have e : (movesF Ls ws).map (·.1) = ws.map fun x => lowP x ws.sum := by
      unfold movesF
      rw [List.map_map, ← ok.wl]
      show (List.range ws.length).map (fun j => lowP (ws.getD j 0) ws.sum) = _
      have := congrArg (List.map fun x => lowP x ws.sum) (range_getD ws)
      rw [List.map_map] at this
      exact this
    rw [e]
    exact one_of wn fun x hx => (ok.wt x hx).1
section
variable {P : Program} {w : World} {K : PySem.W.Frag} {mg : Str → Option Value} {base : Heap}
def spWorld (K : PySem.W.Frag) : Sp := fun vs H Q _ => ∃ (p : Addr) (most moves : Nat), vs = [.ref p, .int (most : Int), .int (moves : Int)] ∧ 1 ≤ most ∧ most ≤ 12 ∧ 1 ≤ moves ∧ moves ≤ 24 ∧ HandAt H p ∧
  ∀ (wd : Addr) (H' : Hp) (many : Nat) (Ls : List (List Int)) (ws : List Int), Stp p H H' → WAt K H' wd many Ls ws → WOk many Ls ws → Q (.ref wd) H'
abbrev nLawWorld : List Str := ["_law_hand_here", "_law_most", "_law_moves", "_law_many", "_law_great", "_law_leads_here", "_law_weights", "_law_k", "_law_move_here"]
theorem scLawWorld : FnScope nLawWorld ["_law_hand_here", "_law_most", "_law_moves"] (defScope s_law_world) := ⟨rfl, rfl, rfl, by decide +kernel, rfl, by decide +kernel, by decide +kernel⟩
theorem ok_world {f : Addr} {fd : FuncData} {fD : Addr} {fdD : FuncData} {fA : Addr} {fdA : FuncData} {fcLeads : Addr} {fdcLeads : FuncData} (F : Fun K "_law_world" "_law_world" s_law_world f fd) (T : NmA mg) (D : Cl P w K mg base CX0 1 "_law_draw" fD fdD ["_law_hand_here", "_law_many"] spDraw) (A : Cl P w K mg base CX0 2 "_law_any" fA fdA ["_law_hand_here", "_law_things"] (spAny K)) (cLeads : Cl P w K mg base CX0 2 "_law_leads" fcLeads fdcLeads ["_law_hand_here", "_law_many"] (spLeads K)) : FnOk P w K mg base CX0 3 f fd ["_law_hand_here", "_law_most", "_law_moves"] (spWorld K) := by
  refine F.ok scLawWorld (fun vs H Q E h => ?_) (fun cdv A' outer s H vs Q E hr h => ?_)
  · obtain ⟨p, most, moves, rfl, _⟩ := h
    rfl
  · obtain ⟨p, most, moves, rfl, m1, m12, v1, v24, hH, k⟩ := h
    have hu := hu_of hr
    refine ⟨_, pss_cons (ps_set (i := 3) scLawWorld.nd rfl (Or.inr rfl) (pe_op op_add pe_int (D.call (hr.mono (by decide)) (pa_cons (pv 0) (pa_cons (pv 1) pa_nil)))))
      (Evl.pss_cut (ps_set (i := 4) scLawWorld.nd rfl (Or.inr rfl) (pe_ifExp (pt_cmpR op_gt (D.call (hr.mono (by decide)) (pa_cons (pv 0) (pa_cons pe_int pa_nil))) pe_int (nomark _)) (A.call (hr.mono (by decide)) (pa_cons (pv 0) (pa_cons (pe_lst (pa_cons pe_int (pa_cons pe_int (pa_cons pe_int (pa_cons pe_int (pa_cons pe_int pa_nil)))))) pa_nil))) (pe_op op_pow pe_int pe_int)))
      (pss_cons (ps_setLc (i := 5) (own := [("_law_k", 7)]) (g := (gName 7)) (tt := tYes) (by rfl) scLawWorld.nd rfl rfl (sw_true rfl rfl rfl (by decide +kernel)) (pi_range1 (by rfl) T.range (pa_cons (pe_op op_add pe_int (D.call (hr.mono (by decide)) (pa_cons (pv 0) (pa_cons (pv 2) pa_nil)))) pa_nil)) (blkOk_by (own := [("_law_k", 7)]) (N := nLawWorld) (sc := defScope s_law_world) (by decide +kernel)) (fun _ _ _ _ _ => (pg_name (i := 7) scLawWorld.nd rfl (Or.inl rfl))) (fun _ _ _ _ _ => pts_nil) (fun _ _ _ _ _ => (cLeads.call (hr.mono (by decide)) (pa_cons (pv 0) (pa_cons (pv 3) pa_nil)))))
      (pss_cons (ps_setLc (i := 6) (own := [("_law_move_here", 8)]) (g := (gName 8)) (tt := tYes) (by rfl) scLawWorld.nd rfl rfl (sw_true rfl rfl rfl (by decide +kernel)) (pi_list (pv 5)) (blkOk_by (own := [("_law_move_here", 8)]) (N := nLawWorld) (sc := defScope s_law_world) (by decide +kernel)) (fun _ _ _ _ _ => (pg_name (i := 8) scLawWorld.nd rfl (Or.inl rfl))) (fun _ _ _ _ _ => pts_nil) (fun _ _ _ _ _ => (pe_op op_add pe_int (D.call (hr.mono (by decide)) (pa_cons (pv 0) (pa_cons (pv 4) pa_nil))))))
      (pss_one (ps_ret (pe_disp (pps_cons pe_str (pv 3) (pps_cons pe_str (pv 5) (pps_cons pe_str (pv 6) (pps_cons pe_str (pe_callB (cr_sum rfl) (by rfl) T.sum (by decide +kernel) (pa_cons (pv 6) pa_nil)) pps_nil)))) (by rfl) (by rfl) (fun z => by cases z) (by decide))))))), ?_⟩
    refine ⟨_, rfl, _, rfl, p, (most : Int), rfl, by omega, by omega, hH, fun d H1 d0 d1 S1 => ⟨_, _, rfl, rfl, ?_⟩⟩
    obtain ⟨c, rfl⟩ := Int.eq_ofNat_of_zero_le d0
    refine ⟨fun σ' H' => ∃ g : Int, 1 ≤ g ∧ g ≤ 10000000000 ∧ σ' = [some (.ref p), some (.int (most : Int)), some (.int (moves : Int)), some (.int (1 + (c : Int))), some (.int g), none, none, none, none] ∧ Stp p H H', ?_, ?_⟩
    · refine ⟨_, rfl, p, 8, rfl, by decide, by decide, S1.hand, fun d2 H2 e0 e1 S2 => ⟨_, _, rfl, rfl, _, rfl, ite2 (fun _ => ?_) (fun _ => ?_)⟩⟩
      · refine ⟨_, rfl, by show 5 ≤ sizeLine; decide, fun q hq => ?_⟩
        refine ⟨p, q, _, rfl, .inl (SqL.of upd_same), by decide, by decide, S2.hand.same (Same.new hq), fun j x H3 hj S3 => ?_⟩
        have S := (S1.trans S2).trans (S3.pre (Same.new hq))
        have e : ∃ m : Int, x = .int m ∧ 1 ≤ m ∧ m ≤ 10000000000 := by
          have hx := List.mem_of_getElem? hj
          simp only [List.mem_cons, List.not_mem_nil, or_false] at hx
          rcases hx with rfl | rfl | rfl | rfl | rfl
          · exact ⟨1, rfl, by decide, by decide⟩
          · exact ⟨3, rfl, by decide, by decide⟩
          · exact ⟨3, rfl, by decide, by decide⟩
          · exact ⟨7, rfl, by decide, by decide⟩
          · exact ⟨1000, rfl, by decide, by decide⟩
        obtain ⟨m, rfl, g1, g2⟩ := e
        exact ⟨m, g1, g2, rfl, S⟩
      · refine ⟨_, _, rfl, rfl, ⟨by decide, by decide, by decide⟩, ?_⟩
        exact ⟨10000000000, by decide, by decide, rfl, S1.trans S2⟩
    · rintro σ' H2 ⟨g, g1, g2, rfl, S2⟩
      refine ⟨_, rfl, _, rfl, p, (moves : Int), rfl, by omega, by omega, S2.hand, fun d3 H3 f0 f1 S3 => ⟨_, _, rfl, rfl, ?_⟩⟩
      obtain ⟨n, rfl⟩ := Int.eq_ofNat_of_zero_le f0
      have S23 := S2.trans S3
      refine ⟨((1 + n : Nat) : Int), rfl, by omega, by omega, fun D hD => ?_⟩
      refine lc_range (lo := 0) (n := 1 + n) (GrowT K p D H3 fun xs => xs.length = 1 + c ∧ ∀ x ∈ xs, 0 ≤ x ∧ x < ((1 + c : Nat) : Int)) (GrowT.zero S3.hand hD) (fun i H' hi gg => ?_) fun H4 gg => ?_
      · exact ⟨rfl, _, rfl, _, rfl, p, 1 + c, rfl, by omega, by omega, gg.1.hand, fun l H5 xs S5 hl hxl hxb => gg.put S3.hand hD S5 (by omega) hl ⟨hxl, hxb⟩⟩
      obtain ⟨S4, acc, Ls, h1, h2, h3, h4⟩ := gg
      have S24 := S23.trans S4
      have nD : D ≠ p := ne_of h1 S4.hand.dk.choose_spec (by intro z; cases z)
      have hal := h2.1
      refine ⟨_, rfl, D, rfl, ⟨_, SqL.of h1⟩, fun D2 hD2 => ?_⟩
      refine lc_list (K := K) (a := D) (xs := acc) (GrowP p D2 H4 fun x => 0 < x ∧ x < 2 ^ 34) (GrowP.zero S4.hand hD2) (fun i H' _ gg => SqL.of (gg.1.keep _ _ nD h1)) (fun i x H' hi gg => ?_) fun H5 gg => ?_
      · have hil := (List.getElem?_eq_some_iff.mp hi).1
        exact ⟨rfl, _, rfl, _, rfl, p, g, rfl, by omega, by omega, gg.1.hand, fun d4 H6 a0 a1 S6 => ⟨_, _, rfl, rfl, gg.put S4.hand hD2 S6 (by omega) ⟨by omega, by omega⟩⟩⟩
      obtain ⟨S5, ws, w1, w2, w3⟩ := gg
      have S25 := S24.trans S5
      have h1' := S5.keep _ _ nD h1
      intro wd hwd
      have s6 : Same H5 (upd H5 wd (.dK [])) := Same.new hwd
      have w1' := s6 _ _ w1
      refine ⟨_, rfl, _, rfl, _, rfl, _, rfl, D2, _, rfl, SqL.of w1', upd_same, wdK (1 + (c : Int)) D D2 ws.sum, rfl, (show 4 ≤ 15 by decide), ?_⟩
      rw [merge_wd, upd_upd]
      have s7 : Same H5 (upd H5 wd (.dK (wdK (1 + (c : Int)) D D2 ws.sum))) := Same.new hwd
      refine k wd _ (1 + c) Ls ws (S25.post s7) ⟨D, D2, acc, ?_, s7 _ _ h1', (h2.kp S5.kp S4.hand).same s7, s7 _ _ w1⟩ ⟨by omega, by omega, by omega, by omega, by omega, h4, w3⟩
      rw [upd_same, Int.natCast_add] <;> rfl
theorem mk_same {C : Addr} {H H' : Hp} {y dy : Addr} (hy : H y = none) (hdy : H dy = none) (kC : ∀ b o, b ≠ y → (upd (upd H dy (.own y)) y (.ins C dy [])) b = some o → H' b = some o) : Same H H' := fun b o e =>
  kC b o (ne_of_none e hy) (by rw [upd_ne (ne_of_none e hy), upd_ne (ne_of_none e hdy)]; exact e)
theorem mk_same0 {C : Addr} {H : Hp} {y dy : Addr} (hy : H y = none) (hdy : H dy = none) : Same H (upd (upd H dy (.own y)) y (.ins C dy [])) := fun b o e => by
  rw [upd_ne (ne_of_none e hy), upd_ne (ne_of_none e hdy)]
  exact e
def spMade (K : PySem.W.Frag) (C : Addr) : Sp := fun vs H Q _ => ∃ (wd : Addr) (many : Nat) (Ls : List (List Int)) (ws : List Int), vs = [.ref wd] ∧ WAt K H wd many Ls ws ∧ WOk many Ls ws ∧ ∀ y H', Same H H' → SysAt K C H' y many (movesF Ls ws) → Q (.ref y) H'
abbrev nLawMade : List Str := ["_law_world_here", "_law_moves", "_law_k"]
theorem scLawMade : FnScope nLawMade ["_law_world_here"] (defScope s_law_made) := ⟨rfl, rfl, rfl, by decide +kernel, rfl, by decide +kernel, by decide +kernel⟩
theorem ok_made {f : Addr} {fd : FuncData} {fcLow : Addr} {fdcLow : FuncData} {fcSys : Addr} {fdcSys : FuncData} {C : Addr} (F : Fun K "_law_made" "_law_made" s_law_made f fd) (T : NmA mg) (cLow : Cl P w K mg base CX0 1 "_law_low" fcLow fdcLow ["_law_top", "_law_bottom"] spLowS) (McSys : Mk K C fcSys) (GcSys : FnOk P w K mg base CX0 5 fcSys fdcSys ["self", "many", "moves"] (spSInit K C)) (BcSys : Binds K fdcSys ["self", "many", "moves"] []) (YcSys : SysT K mg C) : FnOk P w K mg base CX0 7 f fd ["_law_world_here"] (spMade K C) := by
  refine F.ok scLawMade (fun vs H Q E h => ?_) (fun cdv A' outer s H vs Q E hr h => ?_)
  · obtain ⟨wd, many, Ls, ws, rfl, _⟩ := h
    rfl
  · obtain ⟨wd, many, Ls, ws, rfl, hW, ok, k⟩ := h
    have hu := hu_of hr
    refine ⟨_, pss_cons (ps_setLc (i := 1) (own := [("_law_k", 2)]) (g := (gName 2)) (tt := tYes) (by rfl) scLawMade.nd rfl rfl (sw_true rfl rfl rfl (by decide +kernel)) (pi_range1 (by rfl) T.range (pa_cons (pe_callB call_len_seq (by rfl) T.len PySem.boot_len (pa_cons (pe_dget hu (pv 0) pe_str (fun _ _ => rfl)) pa_nil)) pa_nil)) (blkOk_by (own := [("_law_k", 2)]) (N := nLawMade) (sc := defScope s_law_made) (by decide +kernel)) (fun _ _ _ _ _ => (pg_name (i := 2) scLawMade.nd rfl (Or.inl rfl))) (fun _ _ _ _ _ => pts_nil) (fun _ _ _ _ _ => (pe_tup (pa_cons (cLow.call (hr.mono (by decide)) (pa_cons (pe_ix (r := rIxL K) (show IxR _ (rIxL K) from ix_list) (pe_dget hu (pv 0) pe_str (fun _ _ => rfl)) (pv 2) (fun _ _ => rfl)) (pa_cons (pe_dget hu (pv 0) pe_str (fun _ _ => rfl)) pa_nil))) (pa_cons (pe_ix (r := rIxL K) (show IxR _ (rIxL K) from ix_list) (pe_dget hu (pv 0) pe_str (fun _ _ => rfl)) (pv 2) (fun _ _ => rfl)) pa_nil)))))
      (pss_one (ps_ret (pe_make McSys GcSys (hr.mono (by decide)) (by rfl) YcSys.mgC BcSys .nil pass0 (pa_cons (pe_dget hu (pv 0) pe_str (fun _ _ => rfl)) (pa_cons (pe_callTy call_tuple_of (by rfl) T.tuple (by decide +kernel) (pa_cons (pv 1) pa_nil)) pa_nil))))), ?_⟩
    obtain ⟨la, wa, vs, h1, h2, h3, h4⟩ := id hW
    have hvl := h3.1
    have l24 := ok.l2
    have wl := ok.wl
    have wn : ws ≠ [] := fun z => by
      have := ok.l1
      rw [z] at wl
      simp at wl
      omega
    obtain ⟨s0, s1⟩ := sum_pos ws wn fun x hx => (ok.wt x hx).1
    have sB := sum_le (2 ^ 34) ws fun x hx => Int.le_of_lt (ok.wt x hx).2
    have s2 : ws.sum < 2 ^ 40 := by
      rw [wl] at sB
      omega
    refine ⟨_, rfl, wd, _, rfl, gw_leads h1, la, _, rfl, .inl (SqL.of h2), ((vs.length : Nat) : Int), rfl, by omega, by omega, fun D hD => ?_⟩
    refine lc_range (lo := 0) (n := vs.length) (fun i H' => Same H H' ∧ ∃ acc, H' D = some (.lst acc) ∧ MvsIn K H' acc ((List.range i).map (mvW Ls ws))) ⟨Same.new hD, [], upd_same, rfl, fun i v hv => by simp at hv⟩ (fun i H' hi g => ?_) fun H' g => ?_
    · obtain ⟨t1, acc, g1, g2⟩ := g
      rw [Int.zero_add]
      have hi : i < Ls.length := by rw [← hvl]; exact hi
      have hw : i < ws.length := by rw [wl]; exact hi
      have e1 : ws.getD i 0 = ws[i] := by rw [List.getD_eq_getElem?_getD, List.getElem?_eq_getElem hw] <;> rfl
      have e2 : Ls.getD i [] = Ls[i] := by rw [List.getD_eq_getElem?_getD, List.getElem?_eq_getElem hi] <;> rfl
      have hwa : atI (ws.map V.int) (i : Int) = some (.int ws[i]) := atI_nat (by rw [List.getElem?_map, List.getElem?_eq_getElem hw]; rfl)
      have hvi : i < vs.length := by rw [hvl]; exact hi
      obtain ⟨xs, x1, l, x2, x3⟩ := h3.2 i vs[i] (List.getElem?_eq_getElem hvi)
      have hla : atI vs (i : Int) = some (.ref l) := by rw [← x2]; exact atI_nat (List.getElem?_eq_getElem hvi)
      rw [List.getElem?_eq_getElem hi] at x1
      have x1 := Option.some.inj x1
      refine ⟨rfl, _, rfl, wd, _, rfl, gw_weights (t1 _ _ h1), _, rfl, wa, _, _, _, rfl, rfl, SqL.of (t1 _ _ h4), hwa, _, rfl, wd, _, rfl, gw_sum (t1 _ _ h1), ws[i], ws.sum, rfl, ?_, s0, by omega, fun q hq => ?_⟩
      · have := (ok.wt _ (List.getElem_mem hw)).1
        omega
      have t2 : Same H' (upd H' q (.tup [.int (lowP ws[i] ws.sum).1, .int (lowP ws[i] ws.sum).2])) := Same.new hq
      have q2 : (upd H' q (.tup [.int (lowP ws[i] ws.sum).1, .int (lowP ws[i] ws.sum).2])) q = some (.tup [.int (lowP ws[i] ws.sum).1, .int (lowP ws[i] ws.sum).2]) := upd_same
      generalize upd H' q (.tup [.int (lowP ws[i] ws.sum).1, .int (lowP ws[i] ws.sum).2]) = H2 at t2 q2 ⊢
      have t12 := t1.trans t2
      refine ⟨_, rfl, wd, _, rfl, gw_leads (t12 _ _ h1), _, rfl, la, _, _, _, rfl, rfl, SqL.of (t12 _ _ h2), hla, (by show 2 ≤ sizeLine; decide), fun t ht => ?_⟩
      have t3 : Same H2 (upd H2 t (.tup [.ref q, .ref l])) := Same.new ht
      have g1' := t3 _ _ (t2 _ _ g1)
      refine ⟨acc, g1', ?_, (t12.trans t3).mut hD, acc ++ [.ref t], upd_same, ?_⟩
      · have := g2.1
        rw [List.length_map, List.length_range] at this
        exact small1000 (by omega)
      · rw [List.range_succ, List.map_append]
        refine MvsIn.snoc (g2.same (t2.trans t3)) g1' ⟨t, q, l, rfl, SqT.of upd_same, ?_, ?_⟩
        · show SqT K _ q [.int (lowP (ws.getD i 0) ws.sum).1, .int (lowP (ws.getD i 0) ws.sum).2]
          rw [e1]
          exact SqT.of (t3 _ _ q2)
        · show SqT K _ l ((Ls.getD i []).map V.int)
          rw [e2, x1]
          exact (t12.trans t3).sqT x3
    · obtain ⟨t1, acc, g1, g2⟩ := g
      have e : (List.range vs.length).map (mvW Ls ws) = movesF Ls ws := by rw [hvl] <;> rfl
      rw [e] at g2
      refine ⟨_, rfl, wd, _, rfl, gw_many (t1 _ _ h1), _, rfl, D, _, rfl, .inl ⟨SqL.of g1, fun l hl => ?_⟩⟩
      have t2 : Same H' (upd H' l (.tup acc)) := Same.new hl
      have hA : MvsAt K (upd H' l (.tup acc)) l (movesF Ls ws) := ⟨acc, SqT.of upd_same, g2.same t2⟩
      generalize upd H' l (.tup acc) = H2 at t2 hA ⊢
      intro y dy hy hdy ney
      refine ⟨y, dy, many, l, movesF Ls ws, rfl, upd_same, hA.same (mk_same0 hy hdy), sys_of ok, fun H6 k6 h6 => ⟨rfl, ?_⟩⟩
      have c6 : Same H2 H6 := mk_same hy hdy k6
      exact k y H6 ((t1.trans t2).trans c6) ⟨dy, l, h6, hA.same c6⟩
end
end Law

namespace L2
open PySem PySem.Spec PyProof.Rows
/-- set(xs), xs a list or tuple of ints -/
def rSetA (K : PySem.W.Frag) (w : World) : List V → Hp → VK → Prop := fun vs H Q => ∃ (a : Addr) (ns : List Int), vs = [V.ref a] ∧ (SqL K H a (ns.map V.int) ∨ SqT K H a (ns.map V.int)) ∧ ns.length ≤ 1000 ∧
  ∀ (p : Addr) (c : Nat), H p = none → c ≤ ns.length → Q (.ref p) (upd H p (SetO w p (fun j => decide (j ∈ ns)) c))
theorem cr_setA {X : Cx} (hc : X.calm = true) : CallR X (.type "set") (rSetA X.K X.w) := by
  intro pins s σ H xs us Q I r h
  obtain ⟨a, ns, e, hq | hq, hl, q⟩ := h
  · exact cr_setL hc pins s σ H xs us Q I r ⟨a, ns, e, hq, hl, q⟩
  · exact cr_setI hc pins s σ H xs us Q I r ⟨a, ns, e, hq, hl, q⟩
end L2
namespace Law
open PySem L2
/-! ### lots -/
def upto (n : Nat) : List Int := (List.range n).map fun i : Nat => (i : Int)
theorem mem_upto {n : Nat} {x : Int} : x ∈ upto n ↔ 0 ≤ x ∧ x < (n : Int) := by
  unfold upto
  rw [List.mem_map]
  constructor
  · rintro ⟨i, hi, rfl⟩
    have := List.mem_range.mp hi
    omega
  · rintro ⟨h1, h2⟩
    exact ⟨x.toNat, List.mem_range.mpr (by omega), by omega⟩
theorem upto_len (n : Nat) : (upto n).length = n := by unfold upto; rw [List.length_map, List.length_range]
theorem upto_asc (n : Nat) : (upto n).Pairwise (· < ·) := by
  unfold upto
  rw [List.pairwise_map]
  exact List.Pairwise.imp (fun h => by omega) List.pairwise_lt_range
theorem upto_get {n i : Nat} (h : i < n) : (upto n)[i]? = some (i : Int) := by
  unfold upto
  rw [List.getElem?_map, List.getElem?_range h] <;> rfl
theorem upto_snoc (n : Nat) : upto (n + 1) = upto n ++ [(n : Int)] := by
  unfold upto
  rw [List.range_succ, List.map_append] <;> rfl
def lotF (e : List Int) : List Int := (upto 12).filter fun x => decide (x ∈ e)
def In12 (e : List Int) : Prop := ∀ x ∈ e, 0 ≤ x ∧ x < 12
theorem lot_asc (e : List Int) : (lotF e).Pairwise (· < ·) := List.Pairwise.filter _ (upto_asc 12)
theorem lot_mem {e : List Int} (h : In12 e) (x : Int) : x ∈ lotF e ↔ x ∈ e := by
  unfold lotF
  rw [List.mem_filter, mem_upto, decide_eq_true_iff]
  exact ⟨fun z => z.2, fun z => ⟨h x z, z⟩⟩
theorem asc_ext : ∀ {a b : List Int}, a.Pairwise (· < ·) → b.Pairwise (· < ·) → (∀ k, k ∈ a ↔ k ∈ b) → a = b
  | [], [], _, _, _ => rfl
  | [], y :: b, _, _, h => absurd ((h y).mpr List.mem_cons_self) List.not_mem_nil
  | x :: a, [], _, _, h => absurd ((h x).mp List.mem_cons_self) List.not_mem_nil
  | x :: a, y :: b, ha, hb, h => by
    rw [List.pairwise_cons] at ha hb
    have exy : x = y := by
      rcases List.mem_cons.mp ((h x).mp List.mem_cons_self) with e | e
      · exact e
      rcases List.mem_cons.mp ((h y).mpr List.mem_cons_self) with e2 | e2
      · exact e2.symm
      have := hb.1 x e
      have := ha.1 y e2
      omega
    subst exy
    rw [asc_ext ha.2 hb.2 fun k => ⟨fun hk => ?_, fun hk => ?_⟩]
    · rcases List.mem_cons.mp ((h k).mp (List.mem_cons_of_mem _ hk)) with e | e
      · have := ha.1 k hk
        omega
      · exact e
    · rcases List.mem_cons.mp ((h k).mpr (List.mem_cons_of_mem _ hk)) with e | e
      · have := hb.1 k hk
        omega
      · exact e
theorem lot_eq {e ns : List Int} (h : In12 e) (p : ns.Pairwise (· < ·)) (q : ∀ k, k ∈ ns ↔ k ∈ e) : ns = lotF e := asc_ext p (lot_asc e) fun k => by rw [q k, lot_mem h]
theorem lot_len {e ms : List Int} (h : In12 e) (n : ms.Nodup) (q : ∀ k, k ∈ e ↔ k ∈ ms) : ms.length = (lotF e).length := by
  have nl : (lotF e).Nodup := List.Pairwise.imp (fun h => Int.ne_of_lt h) (lot_asc e)
  exact ((List.perm_ext_iff_of_nodup n nl).mpr fun k => by rw [lot_mem h, q k]).length_eq
theorem lot_congr {a b : List Int} (ha : In12 a) (hb : In12 b) (h : ∀ k, k ∈ a ↔ k ∈ b) : lotF a = lotF b := lot_eq hb (lot_asc a) fun k => by rw [lot_mem ha, h k]
theorem lot_one {e : List Int} (h : In12 e) (h1 : (lotF e).length = 1) : ∃ z, lotF e = [z] ∧ (∀ x ∈ e, x = z) ∧ z ∈ e := by
  match hl : lotF e, h1 with
  | [z], _ =>
    refine ⟨z, rfl, fun x hx => ?_, ?_⟩
    · have := (lot_mem h x).mpr hx
      rw [hl] at this
      exact List.mem_singleton.mp this
    · exact (lot_mem h z).mp (by rw [hl]; exact List.mem_singleton_self z)
/-! ### where coins lead -/
def aheadF (mv e : List Int) : List Int := mv.map fun s => e.getD s.toNat 0
def endsF (Ls : List (List Int)) (many : Nat) (cs : List Int) : List Int := cs.foldl (fun e c => aheadF (Ls.getD c.toNat []) e) (upto many)
structure LdOk (many : Nat) (Ls : List (List Int)) : Prop where
  m1 : 1 ≤ many
  m2 : many ≤ 12
  ld : ∀ xs ∈ Ls, xs.length = many ∧ ∀ x ∈ xs, 0 ≤ x ∧ x < (many : Int)
def InM (many : Nat) (e : List Int) : Prop := ∀ x ∈ e, 0 ≤ x ∧ x < (many : Int)
theorem InM.in12 {many : Nat} {e : List Int} (h : InM many e) (h2 : many ≤ 12) : In12 e := fun x hx => by
  have := h x hx
  omega
def CsOk (n : Nat) (cs : List Int) : Prop := ∀ c ∈ cs, 0 ≤ c ∧ c < (n : Int)
theorem getD_of {α : Type} {xs : List α} {i : Nat} {d : α} (h : i < xs.length) : xs.getD i d = xs[i] := by
  rw [List.getD_eq_getElem?_getD, List.getElem?_eq_getElem h] <;> rfl
theorem ld_at {many : Nat} {Ls : List (List Int)} (ok : LdOk many Ls) {c : Int} (h : 0 ≤ c ∧ c < ((Ls.length : Nat) : Int)) : ∃ xs, Ls[c.toNat]? = some xs ∧ Ls.getD c.toNat [] = xs ∧ xs.length = many ∧ InM many xs := by
  have h1 : c.toNat < Ls.length := by omega
  obtain ⟨a, b⟩ := ok.ld _ (List.getElem_mem h1)
  exact ⟨Ls[c.toNat], List.getElem?_eq_getElem h1, getD_of h1, a, b⟩
theorem ahead_ok {many : Nat} {mv e : List Int} (h : InM many mv) (he : e.length = many) (hi : InM many e) : (aheadF mv e).length = mv.length ∧ InM many (aheadF mv e) ∧ ∀ x ∈ aheadF mv e, x ∈ e := by
  refine ⟨by unfold aheadF; rw [List.length_map], ?_⟩
  have key : ∀ x ∈ aheadF mv e, x ∈ e := fun x hx => by
    obtain ⟨s, hs, rfl⟩ := List.mem_map.mp hx
    have := h s hs
    have hl : s.toNat < e.length := by omega
    rw [getD_of hl]
    exact List.getElem_mem hl
  exact ⟨fun x hx => hi x (key x hx), key⟩
theorem upto_in (many : Nat) : InM many (upto many) := fun _ hx => mem_upto.mp hx
theorem ext_at {α : Type} {n : Nat} {a b : List α} (ha : a.length = n) (hb : b.length = n) (h : ∀ i, i < n → a[i]? = b[i]?) : a = b := by
  refine List.ext_getElem? fun i => ?_
  rcases Nat.lt_or_ge i n with c | c
  · exact h i c
  · rw [List.getElem?_eq_none (by omega), List.getElem?_eq_none (by omega)]
theorem ahead_upto {many : Nat} {e : List Int} (he : e.length = many) : aheadF (upto many) e = e := by
  refine ext_at (n := many) (by unfold aheadF; rw [List.length_map, upto_len]) he fun i hi => ?_
  have hi' : i < e.length := by omega
  unfold aheadF
  rw [List.getElem?_map, upto_get hi, List.getElem?_eq_getElem hi']
  show some (e.getD ((i : Int)).toNat 0) = _
  rw [Int.toNat_natCast, getD_of hi']
theorem ends_snoc (Ls : List (List Int)) (many : Nat) (cs : List Int) (c : Int) : endsF Ls many (cs ++ [c]) = aheadF (Ls.getD c.toNat []) (endsF Ls many cs) := by
  unfold endsF
  rw [List.foldl_append] <;> rfl
theorem ends_gen {many : Nat} {Ls : List (List Int)} (ok : LdOk many Ls) : ∀ (cs e : List Int), CsOk Ls.length cs → e.length = many → InM many e →
    (cs.foldl (fun e c => aheadF (Ls.getD c.toNat []) e) e).length = many ∧ InM many (cs.foldl (fun e c => aheadF (Ls.getD c.toNat []) e) e) ∧ ∀ x ∈ cs.foldl (fun e c => aheadF (Ls.getD c.toNat []) e) e, x ∈ e
  | [], e, _, he, hi => ⟨he, hi, fun _ h => h⟩
  | c :: cs, e, hc, he, hi => by
    obtain ⟨xs, _, e2, x1, x2⟩ := ld_at ok (hc c List.mem_cons_self)
    obtain ⟨a1, a2, a3⟩ := ahead_ok x2 he hi
    obtain ⟨b1, b2, b3⟩ := ends_gen ok cs (aheadF xs e) (fun y hy => hc y (List.mem_cons_of_mem _ hy)) (by rw [a1, x1]) a2
    rw [List.foldl_cons, e2]
    exact ⟨b1, b2, fun x hx => a3 x (b3 x hx)⟩
theorem ends_ok {many : Nat} {Ls : List (List Int)} (ok : LdOk many Ls) {cs : List Int} (hc : CsOk Ls.length cs) : (endsF Ls many cs).length = many ∧ InM many (endsF Ls many cs) := by
  obtain ⟨a, b, _⟩ := ends_gen ok cs (upto many) hc (upto_len many) (upto_in many)
  exact ⟨a, b⟩
theorem ends_app {many : Nat} {Ls : List (List Int)} (ok : LdOk many Ls) {cs ds : List Int} (hc : CsOk Ls.length cs) (hd : CsOk Ls.length ds) : ∀ x ∈ endsF Ls many (cs ++ ds), x ∈ endsF Ls many cs := by
  obtain ⟨a, b⟩ := ends_ok ok hc
  unfold endsF
  rw [List.foldl_append]
  exact (ends_gen ok ds _ hd a b).2.2
/-- of the states of st, one alone is left behind so many coins -/
def selF (Ls : List (List Int)) (many : Nat) (st cs : List Int) (k : Nat) : List Int := aheadF st (endsF Ls many (cs.take k))
def oneF (Ls : List (List Int)) (many : Nat) (st cs : List Int) (k : Nat) : Bool := decide ((lotF (selF Ls many st cs k)).length = 1)
theorem CsOk.take {n : Nat} {cs : List Int} (h : CsOk n cs) (k : Nat) : CsOk n (cs.take k) := fun c hc => h c (List.mem_of_mem_take hc)
theorem CsOk.drop {n : Nat} {cs : List Int} (h : CsOk n cs) (k : Nat) : CsOk n (cs.drop k) := fun c hc => h c (List.mem_of_mem_drop hc)
theorem sel_all {many : Nat} {Ls : List (List Int)} (ok : LdOk many Ls) {cs : List Int} (hc : CsOk Ls.length cs) (k : Nat) : selF Ls many (upto many) cs k = endsF Ls many (cs.take k) := ahead_upto (ends_ok ok (hc.take k)).1
theorem sel_in {many : Nat} {Ls : List (List Int)} (ok : LdOk many Ls) {st cs : List Int} (hs : InM many st) (hc : CsOk Ls.length cs) (k : Nat) : InM many (selF Ls many st cs k) ∧ (selF Ls many st cs k).length = st.length := by
  obtain ⟨a, b⟩ := ends_ok ok (hc.take k)
  obtain ⟨c, d, _⟩ := ahead_ok hs a b
  exact ⟨d, c⟩
/-- once all are one they stay the same one -/
theorem one_stays {many : Nat} {Ls : List (List Int)} (ok : LdOk many Ls) {cs : List Int} (hc : CsOk Ls.length cs) {j k : Nat} (hj : j ≤ k) (h1 : oneF Ls many (upto many) cs j = true) : lotF (selF Ls many (upto many) cs k) = lotF (selF Ls many (upto many) cs j) := by
  have h1 := of_decide_eq_true h1
  rw [sel_all ok hc] at h1 ⊢
  rw [sel_all ok hc]
  have m2 := ok.m2
  have m1 := ok.m1
  obtain ⟨aj, bj⟩ := ends_ok ok (hc.take j)
  obtain ⟨ak, bk⟩ := ends_ok ok (hc.take k)
  obtain ⟨z, e1, e2, e3⟩ := lot_one (bj.in12 m2) h1
  have sub : ∀ x ∈ endsF Ls many (cs.take k), x = z := fun x hx => by
    have t : cs.take k = cs.take j ++ (cs.drop j).take (k - j) := by
      rw [← List.take_add]
      congr 1
      omega
    rw [t] at hx
    exact e2 x (ends_app ok (hc.take j) ((hc.drop j).take (k - j)) x hx)
  refine lot_congr (bk.in12 m2) (bj.in12 m2) fun x => ⟨fun hx => by rw [sub x hx]; exact e3, fun hx => ?_⟩
  rw [e2 x hx]
  have l0 : 0 < (endsF Ls many (cs.take k)).length := by omega
  have := sub _ (List.getElem_mem l0)
  rw [← this]
  exact List.getElem_mem l0
/-! ### looks -/
def plS (b : Bool) : Str := if b = true then "one" else "double"
def lkM (b : Bool) (n j : Nat) : Prop := j ≤ n ∧ (b = true ∨ j = 0 ∨ ∃ i, j = 2 ^ i)
structure IsLk (b : Bool) (n : Nat) (ks : List Nat) : Prop where
  asc : ks.Pairwise (· < ·)
  mem : ∀ j, j ∈ ks ↔ lkM b n j
/-- the first look at which P holds, or the last one -/
structure Pick (b : Bool) (n : Nat) (P : Nat → Bool) (k : Nat) : Prop where
  at_ : lkM b n k
  ahead : ∀ j, lkM b n j → j < k → P j = false
  end_ : P k = true ∨ ((∀ j, lkM b n j → j ≤ k) ∧ P k = false)
theorem Pick.uniq {b : Bool} {n : Nat} {P : Nat → Bool} {k k' : Nat} (h : Pick b n P k) (h' : Pick b n P k') : k = k' := by
  rcases Nat.lt_trichotomy k k' with c | c | c
  · have z := h'.ahead k h.at_ c
    rcases h.end_ with e | e
    · rw [z] at e
      cases e
    · have := e.1 k' h'.at_
      omega
  · exact c
  · have z := h.ahead k' h'.at_ c
    rcases h'.end_ with e | e
    · rw [z] at e
      cases e
    · have := e.1 k h.at_
      omega
theorem zero_look (b : Bool) (n : Nat) : lkM b n 0 := ⟨Nat.zero_le _, .inr (.inl rfl)⟩
theorem last_look {n k : Nat} {P : Nat → Bool} (h : Pick true n P k) (h0 : P k = false) : k = n := by
  rcases h.end_ with e | e
  · rw [h0] at e
    cases e
  · have := e.1 n ⟨Nat.le_refl _, .inl rfl⟩
    have := h.at_.1
    omega
/-- by the looks in their order -/
theorem pick_hit {b : Bool} {n : Nat} {P : Nat → Bool} {ks : List Nat} (h : IsLk b n ks) {i k : Nat} (hi : ks[i]? = some k) (hb : ∀ j x, j < i → ks[j]? = some x → P x = false) (hP : P k = true) : Pick b n P k := by
  refine ⟨(h.mem k).mp (List.mem_of_getElem? hi), fun j hj hjk => ?_, .inl hP⟩
  obtain ⟨m, hm, e⟩ := List.getElem_of_mem ((h.mem j).mpr hj)
  obtain ⟨hil, hik⟩ := List.getElem?_eq_some_iff.mp hi
  by_cases c : m < i
  · exact hb m j c (by rw [List.getElem?_eq_getElem hm, e])
  · have : k ≤ j := by
      rcases Nat.lt_or_ge i m with c2 | c2
      · have := List.pairwise_iff_getElem.mp h.asc i m hil hm c2
        omega
      · have : i = m := by omega
        subst this
        omega
    omega
theorem pick_end {b : Bool} {n : Nat} {P : Nat → Bool} {ks : List Nat} (h : IsLk b n ks) {k : Nat} (hl : ks.getLast? = some k) (hb : ∀ j x : Nat, ks[j]? = some x → P x = false) : Pick b n P k := by
  have hk : k ∈ ks := List.mem_of_getLast? hl
  have all : ∀ j, lkM b n j → P j = false := fun j hj => by
    obtain ⟨m, hm, e⟩ := List.getElem_of_mem ((h.mem j).mpr hj)
    exact hb m j (by rw [List.getElem?_eq_getElem hm, e])
  refine ⟨(h.mem k).mp hk, fun j hj _ => all j hj, .inr ⟨fun j hj => ?_, all k ((h.mem k).mp hk)⟩⟩
  obtain ⟨m, hm, e⟩ := List.getElem_of_mem ((h.mem j).mpr hj)
  rw [List.getLast?_eq_getElem?] at hl
  obtain ⟨q1, q2⟩ := List.getElem?_eq_some_iff.mp hl
  rcases Nat.lt_or_ge m (ks.length - 1) with c | c
  · have := List.pairwise_iff_getElem.mp h.asc m (ks.length - 1) hm q1 c
    omega
  · have : m = ks.length - 1 := by omega
    subst this
    omega
theorem lk_one (n : Nat) : IsLk true n (List.range (n + 1)) := ⟨List.pairwise_lt_range, fun j => by
  rw [List.mem_range]
  exact ⟨fun h => ⟨by omega, .inl rfl⟩, fun h => by have := h.1; omega⟩⟩
def dblF (k : Nat) : List Nat := 0 :: (List.range k).map fun i => 2 ^ i
theorem pow_lt {a b : Nat} (h : a < b) : 2 ^ a < 2 ^ b := Nat.pow_lt_pow_right (by decide) h
theorem dbl_snoc (k : Nat) : dblF (k + 1) = dblF k ++ [2 ^ k] := by
  unfold dblF
  rw [List.range_succ, List.map_append] <;> rfl
theorem lk_dbl {n k : Nat} (h1 : ∀ i, i < k → 2 ^ i ≤ n) (h2 : n < 2 ^ k) : IsLk false n (dblF k) := by
  refine ⟨?_, fun j => ?_⟩
  · unfold dblF
    rw [List.pairwise_cons]
    refine ⟨fun x hx => ?_, ?_⟩
    · obtain ⟨i, _, rfl⟩ := List.mem_map.mp hx
      exact Nat.two_pow_pos i
    · rw [List.pairwise_map]
      exact List.Pairwise.imp pow_lt List.pairwise_lt_range
  · unfold dblF
    rw [List.mem_cons, List.mem_map]
    constructor
    · rintro (rfl | ⟨i, hi, rfl⟩)
      · exact zero_look _ _
      · exact ⟨h1 i (List.mem_range.mp hi), .inr (.inr ⟨i, rfl⟩)⟩
    · rintro ⟨a, b | b | ⟨i, rfl⟩⟩
      · cases b
      · exact .inl b
      · refine .inr ⟨i, List.mem_range.mpr ?_, rfl⟩
        rcases Nat.lt_or_ge i k with c | c
        · exact c
        · have : 2 ^ k ≤ 2 ^ i := Nat.pow_le_pow_right (by decide) c
          omega
def lits : List Nat := [0, 1, 2, 4, 8, 16, 32, 64, 128, 256]
theorem lk_lits {n : Nat} (h : n ≤ 400) : IsLk false n (lits.filter fun x => decide (x ≤ n)) := by
  refine ⟨List.Pairwise.filter _ (by decide), fun j => ?_⟩
  rw [List.mem_filter, decide_eq_true_iff]
  constructor
  · rintro ⟨a, b⟩
    refine ⟨b, .inr ?_⟩
    simp only [lits, List.mem_cons, List.not_mem_nil, or_false] at a
    rcases a with rfl | rfl | rfl | rfl | rfl | rfl | rfl | rfl | rfl | rfl
    · exact .inl rfl
    · exact .inr ⟨0, rfl⟩
    · exact .inr ⟨1, rfl⟩
    · exact .inr ⟨2, rfl⟩
    · exact .inr ⟨3, rfl⟩
    · exact .inr ⟨4, rfl⟩
    · exact .inr ⟨5, rfl⟩
    · exact .inr ⟨6, rfl⟩
    · exact .inr ⟨7, rfl⟩
    · exact .inr ⟨8, rfl⟩
  · rintro ⟨a, b | rfl | ⟨i, rfl⟩⟩
    · cases b
    · exact ⟨by decide, a⟩
    · refine ⟨?_, a⟩
      have hi : i < 9 := by
        rcases Nat.lt_or_ge i 9 with c | c
        · exact c
        · have : 2 ^ 9 ≤ 2 ^ i := Nat.pow_le_pow_right (by decide) c
          omega
      match i, hi with
      | 0, _ => decide
      | 1, _ => decide
      | 2, _ => decide
      | 3, _ => decide
      | 4, _ => decide
      | 5, _ => decide
      | 6, _ => decide
      | 7, _ => decide
      | 8, _ => decide
theorem lk_filter {n : Nat} : IsLk true n ((List.range (n + 1)).filter fun x => decide (x ≤ n)) := by
  have e : (List.range (n + 1)).filter (fun x => decide (x ≤ n)) = List.range (n + 1) := by
    rw [List.filter_eq_self]
    intro x hx
    have := List.mem_range.mp hx
    exact decide_eq_true (by omega)
  rw [e]
  exact lk_one n
/-! ### a state led along a row -/
def leadL (Ls : List (List Int)) (c s : Int) : Int := (Ls.getD c.toNat []).getD s.toNat 0
def goneL (Ls : List (List Int)) (row : List Int) (s : Int) : Int := row.foldl (fun s c => leadL Ls c s) s
theorem goneL_snoc (Ls : List (List Int)) (row : List Int) (c s : Int) : goneL Ls (row ++ [c]) s = leadL Ls c (goneL Ls row s) := by
  unfold goneL
  rw [List.foldl_append] <;> rfl
theorem goneL_cons (Ls : List (List Int)) (row : List Int) (c s : Int) : goneL Ls (c :: row) s = goneL Ls row (leadL Ls c s) := rfl
theorem lead_in {many : Nat} {Ls : List (List Int)} (ok : LdOk many Ls) {c s : Int} (hc : 0 ≤ c ∧ c < ((Ls.length : Nat) : Int)) (hs : 0 ≤ s ∧ s < (many : Int)) : 0 ≤ leadL Ls c s ∧ leadL Ls c s < (many : Int) ∧ ∃ xs, Ls[c.toNat]? = some xs ∧ xs[s.toNat]? = some (leadL Ls c s) := by
  obtain ⟨xs, e1, e2, x1, x2⟩ := ld_at ok hc
  have h : s.toNat < xs.length := by omega
  have e3 : leadL Ls c s = xs[s.toNat] := by
    unfold leadL
    rw [e2, getD_of h]
  rw [e3]
  obtain ⟨y1, y2⟩ := x2 _ (List.getElem_mem h)
  exact ⟨y1, y2, xs, e1, List.getElem?_eq_getElem h⟩
theorem goneL_in {many : Nat} {Ls : List (List Int)} (ok : LdOk many Ls) : ∀ (row : List Int) (s : Int), CsOk Ls.length row → 0 ≤ s ∧ s < (many : Int) → 0 ≤ goneL Ls row s ∧ goneL Ls row s < (many : Int)
  | [], _, _, h => h
  | c :: row, s, hr, h => by
    obtain ⟨a, b, _⟩ := lead_in ok (hr c List.mem_cons_self) h
    exact goneL_in ok row _ (fun x hx => hr x (List.mem_cons_of_mem _ hx)) ⟨a, b⟩
/-- coins are read from the last move back -/
theorem ends_gone {many : Nat} {Ls : List (List Int)} (ok : LdOk many Ls) : ∀ (cs : List Int) (e : List Int), CsOk Ls.length cs → e.length = many → ∀ s : Int, 0 ≤ s ∧ s < (many : Int) →
    (cs.foldl (fun e c => aheadF (Ls.getD c.toNat []) e) e).getD s.toNat 0 = e.getD (goneL Ls cs.reverse s).toNat 0
  | [], e, _, _, s, _ => rfl
  | c :: cs, e, hc, he, s, hs => by
    have hcs : CsOk Ls.length cs := fun x hx => hc x (List.mem_cons_of_mem _ hx)
    obtain ⟨xs, _, e2, x1, x2⟩ := ld_at ok (hc c List.mem_cons_self)
    have hrev : CsOk Ls.length cs.reverse := fun x hx => hcs x (List.mem_reverse.mp hx)
    have g := goneL_in ok cs.reverse s hrev hs
    rw [List.foldl_cons, e2, ends_gone ok cs (aheadF xs e) hcs (by unfold aheadF; rw [List.length_map, x1]) s hs, List.reverse_cons, goneL_snoc]
    have hg : (goneL Ls cs.reverse s).toNat < xs.length := by omega
    unfold aheadF leadL
    rw [e2, getD_of (by rw [List.length_map]; exact hg), List.getElem_map, getD_of hg]
def behindF (Ls : List (List Int)) (many : Nat) (row : List Int) : List Int := (List.range many).map fun s : Nat => goneL Ls row (s : Int)
theorem behind_ends {many : Nat} {Ls : List (List Int)} (ok : LdOk many Ls) {cs : List Int} (hc : CsOk Ls.length cs) : behindF Ls many cs.reverse = endsF Ls many cs := by
  obtain ⟨a, b⟩ := ends_ok ok hc
  have hrev : CsOk Ls.length cs.reverse := fun x hx => hc x (List.mem_reverse.mp hx)
  refine ext_at (n := many) (by unfold behindF; rw [List.length_map, List.length_range]) a fun i hi => ?_
  have z := ends_gone ok cs (upto many) hc (upto_len many) (i : Int) ⟨by omega, by omega⟩
  have g := goneL_in ok cs.reverse (i : Int) hrev ⟨by omega, by omega⟩
  have z1 : (endsF Ls many cs).getD ((i : Int)).toNat 0 = (upto many).getD (goneL Ls cs.reverse (i : Int)).toNat 0 := z
  have l1 : i < (endsF Ls many cs).length := by omega
  have l2 : (goneL Ls cs.reverse (i : Int)).toNat < many := by omega
  rw [Int.toNat_natCast, getD_of l1, List.getD_eq_getElem?_getD, upto_get l2] at z1
  unfold behindF
  rw [List.getElem?_map, List.getElem?_range hi, List.getElem?_eq_getElem l1, z1]
  show some (goneL Ls cs.reverse (i : Int)) = some (((goneL Ls cs.reverse (i : Int)).toNat : Nat) : Int)
  rw [Int.toNat_of_nonneg g.1]
end Law

namespace Law
open PySem L2
theorem rg_upto (n : Nat) : rgV 0 (n : Int) = (upto n).map V.int := by
  unfold rgV upto
  rw [List.map_map, show ((n : Int) - 0).toNat = n by omega]
  refine List.map_congr_left fun i _ => ?_
  show V.int (0 + (i : Nat)) = V.int (i : Int)
  rw [Int.zero_add]
abbrev ldsOf (ms : List Mv) : List (List Int) := ms.map (·.2)
theorem lds_ok {many : Nat} {ms : List Mv} (h : SysOk many ms) : LdOk many (ldsOf ms) := ⟨h.m1, h.m2, fun xs hx => by
  obtain ⟨m, hm, rfl⟩ := List.mem_map.mp hx
  obtain ⟨_, _, _, a, b⟩ := h.mv m hm
  exact ⟨a, b⟩⟩
theorem mv_ix {K : PySem.W.Frag} {H : Hp} {vs : List V} {ms : List Mv} {r : Int} (h : MvsIn K H vs ms) (hr : 0 ≤ r ∧ r < ((ms.length : Nat) : Int)) :
    ∃ m aa sa la, atI vs r = some (.ref aa) ∧ ms[r.toNat]? = some m ∧ SqT K H aa [.ref sa, .ref la] ∧ SqT K H sa [.int m.1.1, .int m.1.2] ∧ SqT K H la (m.2.map V.int) := by
  have hv : r.toNat < vs.length := by have := h.1; omega
  obtain ⟨m, h1, a, s, l, h2, h3, h4, h5⟩ := h.2 r.toNat vs[r.toNat] (List.getElem?_eq_getElem hv)
  refine ⟨m, a, s, l, ?_, h1, h3, h4, h5⟩
  have z : atI vs ((r.toNat : Nat) : Int) = some vs[r.toNat] := atI_nat (List.getElem?_eq_getElem hv)
  rw [show ((r.toNat : Nat) : Int) = r by omega, h2] at z
  exact z
theorem ints_at {xs : List Int} {s : Int} (h0 : 0 ≤ s) (h1 : s < ((xs.length : Nat) : Int)) : atI (xs.map V.int) s = some (.int (xs.getD s.toNat 0)) := by
  have h : s.toNat < xs.length := by omega
  have e : s = ((s.toNat : Nat) : Int) := by omega
  have z : atI (xs.map V.int) ((s.toNat : Nat) : Int) = some (.int (xs.getD s.toNat 0)) := atI_nat (by rw [List.getElem?_map, List.getElem?_eq_getElem h, getD_of h] <;> rfl)
  rw [← e] at z
  exact z
/-- xs[a:b] of a tuple, a ≤ b ≤ its length -/
theorem sl_nat {K : PySem.W.Frag} {H : Hp} {p : Addr} {xs : List V} {a b : Nat} {Q : VK} (hS : SqT K H p xs) (h1 : a ≤ b) (h2 : b ≤ xs.length) (k : ∀ l H', Same H H' → SqT K H' l ((xs.drop a).take (b - a)) → Q (.ref l) H') : rSlA K (.ref p) (some ((a : Nat) : Int)) (some ((b : Nat) : Int)) H Q := by
  refine ⟨p, xs, rfl, hS, fun h => ?_, fun _ q hq => ?_⟩
  · rw [HT.sIx_nat, HT.sIx_nat, Nat.min_eq_left (show a ≤ xs.length by omega), Nat.min_eq_left h2] at h
    refine k p H (Same.refl H) ?_
    rw [h.1, h.2, List.drop_zero, Nat.sub_zero, List.take_length]
    exact hS
  · have e : cutV xs (some ((a : Nat) : Int)) (some ((b : Nat) : Int)) = (xs.drop a).take (b - a) := by
      unfold cutV
      rw [HT.sIx_nat, HT.sIx_nat, Nat.min_eq_left (show a ≤ xs.length by omega), Nat.min_eq_left h2]
    rw [e]
    exact k q _ (Same.new hq) (SqT.of upd_same)
theorem sl_to {K : PySem.W.Frag} {H : Hp} {p : Addr} {xs : List V} {b : Nat} {Q : VK} (hS : SqT K H p xs) (k : ∀ l H', Same H H' → SqT K H' l (xs.take b) → Q (.ref l) H') : rSlA K (.ref p) none (some ((b : Nat) : Int)) H Q := by
  have e0 : HT.sIx xs.length 0 none = 0 := rfl
  refine ⟨p, xs, rfl, hS, fun h => ?_, fun _ q hq => ?_⟩
  · rw [HT.sIx_nat] at h
    refine k p H (Same.refl H) ?_
    rw [List.take_of_length_le (by omega)]
    exact hS
  · have e : cutV xs none (some ((b : Nat) : Int)) = xs.take b := by
      unfold cutV
      rw [HT.sIx_nat, e0, List.drop_zero, Nat.sub_zero]
      rcases Nat.le_total b xs.length with c | c
      · rw [Nat.min_eq_left c]
      · rw [Nat.min_eq_right c, List.take_length, List.take_of_length_le c]
    rw [e]
    exact k q _ (Same.new hq) (SqT.of upd_same)
theorem pl_one (b : Bool) : decide (V.str (plS b) = V.str ("one" : Str)) = b := by
  cases b
  · exact decide_eq_false fun e => absurd (V.str.inj e) (by decide +kernel)
  · exact decide_eq_true rfl
theorem pl_in (b : Bool) : inV (V.str (plS b)) [V.str ("one" : Str), V.str ("double" : Str)] = true := by cases b <;> decide +kernel
theorem dec_len1 (n : Nat) : decide (V.int (n : Int) = V.int 1) = decide (n = 1) := by
  by_cases h : n = 1
  · subst h
    rfl
  · rw [decide_eq_false h]
    exact decide_eq_false fun e => h (by injection e; omega)
/-- what is drawn: told, or undecided -/
def ResAt (K : PySem.W.Frag) (H : Hp) (t : Addr) (k : Nat) (e : List Int) : Prop := ((lotF e).length = 1 ∧ SqT K H t [.str "told", .int ((lotF e).headD 0), .int (k : Int)]) ∨
  ((lotF e).length ≠ 1 ∧ ∃ l, SqT K H t [.str "undecided", .ref l, .int (k : Int)] ∧ SqT K H l ((lotF e).map V.int))
theorem ResAt.kp {K : PySem.W.Frag} {p t : Addr} {H H' : Hp} {k : Nat} {e : List Int} (h : ResAt K H t k e) (s : Kp p H H') (hp : HandAt H p) : ResAt K H' t k e := by
  rcases h with ⟨a, b⟩ | ⟨a, l, b, c⟩
  · exact .inl ⟨a, sqT_kp s hp b⟩
  · exact .inr ⟨a, l, sqT_kp s hp b, sqT_kp s hp c⟩
theorem ResAt.same {K : PySem.W.Frag} {t : Addr} {H H' : Hp} {k : Nat} {e : List Int} (h : ResAt K H t k e) (s : Same H H') : ResAt K H' t k e := by
  rcases h with ⟨a, b⟩ | ⟨a, l, b, c⟩
  · exact .inl ⟨a, s.sqT b⟩
  · exact .inr ⟨a, l, s.sqT b, s.sqT c⟩
theorem at_head {e : List Int} (h : (lotF e).length = 1) : atI ((lotF e).map V.int) 0 = some (.int ((lotF e).headD 0)) := by
  have z := ints_at (xs := lotF e) (s := 0) (by decide) (by omega)
  rw [show (lotF e).getD (0 : Int).toNat 0 = (lotF e).headD 0 by cases lotF e <;> rfl] at z
  exact z
def RowOk (n : Nat) (row : List Int) : Prop := row.length ≤ 400 ∧ ∀ r ∈ row, 0 ≤ r ∧ r < (n : Int)
end Law

namespace Law
open PySem L2
/-! ### the program: rows, states led -/
section
variable {P : Program} {w : World} {K : PySem.W.Frag} {mg : Str → Option Value} {base : Heap}
def spIsRow (K : PySem.W.Frag) (C : Addr) : Sp := fun vs H Q _ => ∃ (p b : Addr) (many : Nat) (ms : List Mv) (row : List Int), vs = [.ref p, .ref b] ∧ SysAt K C H p many ms ∧ SqT K H b (row.map V.int) ∧ RowOk ms.length row ∧ ∀ H', Same H H' → Q (.bl true) H'
theorem scIsRow : FnScope ["system", "thing"] ["system", "thing"] (defScope s_is_row) := ⟨rfl, rfl, rfl, by decide +kernel, rfl, by decide +kernel, by decide +kernel⟩
theorem ok_isrow {f C fR : Addr} {fd fdR : FuncData} (F : Fun K "is_row" "is_row" s_is_row f fd) (T : NmA mg) (S : SysT K mg C) (R : Cl P w K mg base CX0 3 "is_row_below" fR fdR ["bound", "thing"] (spRowB K)) : FnOk P w K mg base CX0 4 f fd ["system", "thing"] (spIsRow K C) := by
  refine F.ok scIsRow (fun vs H Q E h => ?_) (fun cdv A' outer s H vs Q E hr h => ?_)
  · obtain ⟨p, b, many, ms, row, rfl, _⟩ := h
    rfl
  · obtain ⟨p, b, many, ms, row, rfl, ⟨dx, mv, hp, vs, hV, hM⟩, hR, ⟨rl, rb⟩, k⟩ := h
    have hvl : vs.length = ms.length := hM.1
    refine ⟨_, pss_one (ps_ret (pe_and (R.call hr (pa_cons (pe_callB call_len_seq (by rfl) T.len PySem.boot_len (pa_cons (pe_fld (pv 0) rfl) pa_nil)) (pa_cons (pv 1) pa_nil)))
      (pe_one (pe_cmpR op_le (pe_callB call_len_seq (by rfl) T.len PySem.boot_len (pa_cons (pv 1) pa_nil)) pe_int (nomark _))))), ?_⟩
    refine ⟨_, rfl, p, C, dx, _, _, rfl, hp, S.cl, S.nM, sysF_moves _ _, mv, _, rfl, .inr hV, _, rfl, ((vs.length : Nat) : Int), b, _, rfl, hR, by rw [List.length_map]; omega, fun x hx => ?_, fun H1 s1 => ?_⟩
    · obtain ⟨i, _, rfl⟩ := List.mem_map.mp hx
      exact ⟨i, rfl⟩
    · have hall : (row.map V.int).all (isW 0 (((vs.length : Nat) : Int) - 1)) = true := by
        rw [List.all_eq_true]
        intro x hx
        obtain ⟨i, hi, rfl⟩ := List.mem_map.mp hx
        obtain ⟨g1, g2⟩ := rb i hi
        show (decide (0 ≤ i) && decide (i ≤ ((vs.length : Nat) : Int) - 1)) = true
        rw [decide_eq_true g1, decide_eq_true (show i ≤ ((vs.length : Nat) : Int) - 1 by omega)] <;> rfl
      rw [hall]
      refine ⟨_, rfl, iteT ⟨_, rfl, b, _, rfl, .inr (s1.sqT hR), _, _, rfl, rfl, ?_⟩⟩
      rw [List.length_map]
      show Q (.bl (decide (((row.length : Nat) : Int) ≤ 400))) H1
      rw [decide_eq_true (show ((row.length : Nat) : Int) ≤ 400 by omega)]
      exact k H1 s1
end
end Law

namespace Law
open PySem L2
section
variable {P : Program} {w : World} {K : PySem.W.Frag} {mg : Str → Option Value} {base : Heap}
def spLotOf (K : PySem.W.Frag) : Sp := fun vs H Q _ => ∃ (a : Addr) (e : List Int), vs = [.ref a] ∧ (SqL K H a (e.map V.int) ∨ SqT K H a (e.map V.int)) ∧ e.length ≤ 63 ∧ In12 e ∧ ∀ l H', Same H H' → H' l = some (.tup ((lotF e).map V.int)) → Q (.ref l) H'
abbrev nLotOf : List Str := ["things"]
theorem scLotOf : FnScope nLotOf ["things"] (defScope s_lot_of) := ⟨rfl, rfl, rfl, by decide +kernel, rfl, by decide +kernel, by decide +kernel⟩
theorem ok_lot_of {f : Addr} {fd : FuncData} (F : Fun K "lot_of" "lot_of" s_lot_of f fd) (T : NmA mg) : FnOk P w K mg base CX0 1 f fd ["things"] (spLotOf K) := by
  refine F.ok scLotOf (fun vs H Q E h => ?_) (fun cdv A' outer s H vs Q E hr h => ?_)
  · obtain ⟨a, e, rfl, _⟩ := h
    rfl
  · obtain ⟨a, e, rfl, hS, h63, h12, k⟩ := h
    refine ⟨_, pss_one (ps_ret (pe_callTy call_tuple_of (by rfl) T.tuple (by decide +kernel) (pa_cons (pe_callB (cr_sortedSet (by rfl)) (by rfl) T.sorted (by decide +kernel) (pa_cons (pe_callTy (cr_setA (by rfl)) (by rfl) T.set (by decide +kernel) (pa_cons (pv 0) pa_nil)) pa_nil)) pa_nil))), ?_⟩
    refine ⟨_, rfl, a, e, rfl, hS, by omega, fun q c hq hc => ?_⟩
    refine ⟨q, _, c, rfl, upd_same, by omega, fun ns r p1 p2 p3 hr' => ?_⟩
    refine ⟨r, _, rfl, .inl ⟨SqL.of upd_same, fun l hl => ?_⟩⟩
    refine k l _ (((Same.new hq).trans (Same.new hr')).trans (Same.new hl)) ?_
    rw [upd_same, lot_eq h12 p1 fun z => by rw [p2 z, decide_eq_true_iff]]
abbrev nLawLot : List Str := ["_law_states"]
theorem scLawLot : FnScope nLawLot ["_law_states"] (defScope s_law_lot) := ⟨rfl, rfl, rfl, by decide +kernel, rfl, by decide +kernel, by decide +kernel⟩
theorem ok_lot {f : Addr} {fd : FuncData} (F : Fun K "_law_lot" "_law_lot" s_law_lot f fd) (T : NmA mg) : FnOk P w K mg base CX0 1 f fd ["_law_states"] (spLotOf K) := by
  refine F.ok scLawLot (fun vs H Q E h => ?_) (fun cdv A' outer s H vs Q E hr h => ?_)
  · obtain ⟨a, e, rfl, _⟩ := h
    rfl
  · obtain ⟨a, e, rfl, hS, h63, h12, k⟩ := h
    refine ⟨_, pss_one (ps_ret (pe_callTy call_tuple_of (by rfl) T.tuple (by decide +kernel) (pa_cons (pe_callB (cr_sortedSet (by rfl)) (by rfl) T.sorted (by decide +kernel) (pa_cons (pe_callTy (cr_setA (by rfl)) (by rfl) T.set (by decide +kernel) (pa_cons (pv 0) pa_nil)) pa_nil)) pa_nil))), ?_⟩
    refine ⟨_, rfl, a, e, rfl, hS, by omega, fun q c hq hc => ?_⟩
    refine ⟨q, _, c, rfl, upd_same, by omega, fun ns r p1 p2 p3 hr' => ?_⟩
    refine ⟨r, _, rfl, .inl ⟨SqL.of upd_same, fun l hl => ?_⟩⟩
    refine k l _ (((Same.new hq).trans (Same.new hr')).trans (Same.new hl)) ?_
    rw [upd_same, lot_eq h12 p1 fun z => by rw [p2 z, decide_eq_true_iff]]
def spIsPlan : Sp := fun vs H Q _ => ∃ (b : Bool), vs = [.str (plS b)] ∧ ∀ H', Same H H' → Q (.bl true) H'
abbrev nIsPlan : List Str := ["thing"]
theorem scIsPlan : FnScope nIsPlan ["thing"] (defScope s_is_plan) := ⟨rfl, rfl, rfl, by decide +kernel, rfl, by decide +kernel, by decide +kernel⟩
theorem ok_is_plan {f : Addr} {fd : FuncData} (F : Fun K "is_plan" "is_plan" s_is_plan f fd) (T : NmA mg) : FnOk P w K mg base CX0 1 f fd ["thing"] spIsPlan := by
  refine F.ok scIsPlan (fun vs H Q E h => ?_) (fun cdv A' outer s H vs Q E hr h => ?_)
  · obtain ⟨b, rfl, _⟩ := h
    rfl
  · obtain ⟨b, rfl, k⟩ := h
    refine ⟨_, pss_one (ps_ret (pe_and (pe_callB call_isi (by rfl) T.isi (by decide +kernel) (pa_cons (pv 0) (pa_cons (pe_bltn (v := .ty "str") (u := .type "str") (by rfl) T.str (by decide +kernel) rfl) pa_nil))) (pe_one (pe_cmpR op_in_seq (pv 0) (pe_tup (pa_cons pe_str (pa_cons pe_str pa_nil))) (by rfl))))), ?_⟩
    refine ⟨_, rfl, _, _, _, _, _, rfl, .ty "str", .base (.str _), (show PySem.W.kitOne K (.type "str") (.type "str") = some true from kit_ty (by decide +kernel)), _, rfl, iteT ?_⟩
    refine ⟨_, rfl, (by show 2 ≤ sizeLine; decide), fun t ht => ⟨t, _, rfl, .inr (SqT.of upd_same), rfl, rfl, ?_⟩⟩
    show Q (.bl (inV (V.str (plS b)) [V.str ("one" : Str), V.str ("double" : Str)])) _
    rw [pl_in]
    exact k _ (Same.new ht)
def spLooks (K : PySem.W.Frag) : Sp := fun vs H Q _ => ∃ (b : Bool) (n : Nat), vs = [.str (plS b), .int (n : Int)] ∧ n ≤ 400 ∧ ∀ D H' (ks : List Nat), Same H H' → H' D = some (.lst ((ks.map fun i : Nat => (i : Int)).map V.int)) → IsLk b n ks → Q (.ref D) H'
abbrev nLooks : List Str := ["plan", "many", "found", "look"]
theorem scLooks : FnScope nLooks ["plan", "many"] (defScope s_looks) := ⟨rfl, rfl, rfl, by decide +kernel, rfl, by decide +kernel, by decide +kernel⟩
theorem ok_looks {f : Addr} {fd : FuncData} (F : Fun K "looks" "looks" s_looks f fd) (T : NmA mg) : FnOk P w K mg base CX0 1 f fd ["plan", "many"] (spLooks K) := by
  refine F.ok scLooks (fun vs H Q E h => ?_) (fun cdv A' outer s H vs Q E hr h => ?_)
  · obtain ⟨b, n, rfl, _⟩ := h
    rfl
  · obtain ⟨b, n, rfl, n4, k⟩ := h
    refine ⟨_, pss_cons (ps_if (pt_cmpR op_eq (pv 0) pe_str (nomark _))
        (pss_one (ps_ret (pe_listRg (by rfl) (by rfl) T.list (prg_1 (by rfl) T.range (pe_op op_add (pv 1) pe_int))))) pss_nil)
      (pss_cons (ps_set (i := 2) scLooks.nd rfl (Or.inl rfl) (pe_lst (pa_cons pe_int pa_nil)))
      (pss_cons (ps_set (i := 3) scLooks.nd rfl (Or.inl rfl) pe_int)
      (pss_cons (ps_while PassesOwn.never (pt_cmpR op_le (pv 3) (pv 1) (nomark _))
        (pss_cons (ps_expr (pe_bm PySem.F.plainAttrs_list PySem.F.slot_list_append PySem.F.type_list_append mt_append (pv 2) (pa_cons (pv 3) pa_nil)))
        (pss_one (ps_set (i := 3) scLooks.nd rfl (Or.inl rfl) (pe_op op_mul (pv 3) pe_int)))))
      (pss_one (ps_ret (pv 2)))))), ?_⟩
    refine ⟨_, rfl, rfl, _, rfl, ?_⟩
    rw [pl_one]
    cases b with
    | true =>
      refine iteT ⟨_, rfl, _, _, rfl, rfl, ((n : Int) + 1), rfl, RgOk.of_le (by decide) (by omega) (by decide) (by omega), fun q hq => ?_⟩
      refine k q _ (List.range (n + 1)) (Same.new hq) ?_ (lk_one n)
      rw [upd_same]
      have := rg_upto (n + 1)
      rw [Int.natCast_add] at this
      exact congrArg (fun z => some (HO.lst z)) this
    | false =>
      refine iteF ⟨by show 1 ≤ sizeLine; decide, fun D hD => ?_⟩
      refine ⟨fun m σ H' => Same H H' ∧ ∃ j : Nat, H' D = some (.lst (((dblF j).map fun i : Nat => (i : Int)).map V.int)) ∧ (∀ i, i < j → 2 ^ i ≤ n) ∧ σ = [some (.str (plS false)), some (.int (n : Int)), some (.ref D), some (.int ((2 ^ j : Nat) : Int))] ∧ m = n + 1 - 2 ^ j, ⟨_, Same.new hD, 0, upd_same, fun i hi => absurd hi (Nat.not_lt_zero i), rfl, rfl⟩, ?_⟩
      rintro m σ H' ⟨s1, j, h1, h2, rfl, rfl⟩
      refine ⟨_, rfl, _, rfl, _, _, rfl, rfl, _, rfl, ite2 (fun hle => ?_) (fun hle => ?_)⟩
      · have hle : 2 ^ j ≤ n := by
          have := of_decide_eq_true hle
          omega
        have hj : j < 9 := by
          rcases Nat.lt_or_ge j 9 with c | c
          · exact c
          · have : 2 ^ 9 ≤ 2 ^ j := Nat.pow_le_pow_right (by decide) c
            omega
        refine ⟨fun σ' H1 => Same H H1 ∧ ∃ j' : Nat, H1 D = some (.lst (((dblF j').map fun i : Nat => (i : Int)).map V.int)) ∧ (∀ i, i < j' → 2 ^ i ≤ n) ∧ σ' = [some (.str (plS false)), some (.int (n : Int)), some (.ref D), some (.int ((2 ^ j' : Nat) : Int))] ∧ n + 1 - 2 ^ j' < n + 1 - 2 ^ j, ?_, ?_⟩
        · rintro σ' H1 ⟨a1, j', a2, a3, rfl, a4⟩
          exact ⟨_, a4, a1, j', a2, a3, rfl, rfl⟩
        · refine ⟨_, rfl, .inl ⟨rfl, _, SqL.of h1⟩, _, rfl, D, _, _, rfl, rfl, h1, ?_, ?_⟩
          · rw [List.length_map, List.length_map]
            unfold dblF
            rw [List.length_cons, List.length_map, List.length_range]
            exact small1000 (by omega)
          · refine ⟨_, rfl, _, _, rfl, rfl, .inr ⟨by decide, by decide⟩, s1.mut hD, j + 1, ?_, fun i hi => ?_, ?_, ?_⟩
            · rw [upd_same, dbl_snoc, List.map_append, List.map_append] <;> rfl
            · rcases Nat.lt_or_ge i j with c | c
              · exact h2 i c
              · have : i = j := by omega
                subst this
                exact hle
            · rw [Nat.pow_succ, Int.natCast_mul] <;> rfl
            · have := Nat.pow_succ (n := 2) (m := j)
              have := Nat.two_pow_pos j
              omega
      · have hlt : n < 2 ^ j := by
          have z : ¬ ((2 ^ j : Nat) : Int) ≤ (n : Int) := fun q => hle (decide_eq_true q)
          omega
        exact ⟨_, rfl, k D H' (dblF j) s1 h1 (lk_dbl h2 hlt)⟩
def spAhead (K : PySem.W.Frag) (C : Addr) : Sp := fun vs H Q _ => ∃ (sy ea : Addr) (c : Int) (many : Nat) (ms : List Mv) (e : List Int), vs = [.ref sy, .int c, .ref ea] ∧ SysAt K C H sy many ms ∧ LdOk many (ldsOf ms) ∧ 0 ≤ c ∧ c < ((ms.length : Nat) : Int) ∧ SqT K H ea (e.map V.int) ∧ e.length = many ∧
  ∀ l H', Same H H' → H' l = some (.tup ((aheadF ((ldsOf ms).getD c.toNat []) e).map V.int)) → Q (.ref l) H'
theorem ahead_take (mv e : List Int) (i : Nat) (s : Int) (h : mv[i]? = some s) : ((mv.take (i + 1)).map fun s => e.getD s.toNat 0) = ((mv.take i).map fun s => e.getD s.toNat 0) ++ [e.getD s.toNat 0] := by
  rw [List.take_add_one, h, List.map_append] <;> rfl
abbrev nLedAhead : List Str := ["system", "move", "leads", "_", "first", "state"]
theorem scLedAhead : FnScope nLedAhead ["system", "move", "leads"] (defScope s_led_ahead) := ⟨rfl, rfl, rfl, by decide +kernel, rfl, by decide +kernel, by decide +kernel⟩
theorem ok_led_ahead {f : Addr} {fd : FuncData} {C : Addr} (F : Fun K "led_ahead" "led_ahead" s_led_ahead f fd) (T : NmA mg) (S : SysT K mg C) : FnOk P w K mg base CX0 1 f fd ["system", "move", "leads"] (spAhead K C) := by
  refine F.ok scLedAhead (fun vs H Q E h => ?_) (fun cdv A' outer s H vs Q E hr h => ?_)
  · obtain ⟨sy, ea, c, many, ms, e, rfl, _⟩ := h
    rfl
  · obtain ⟨sy, ea, c, many, ms, e, rfl, hS, ok, c0, c1, hE, he, k⟩ := h
    refine ⟨_, pss_cons (ps_asg (pe_ix ix_tup (pe_fld (pv 0) rfl) (pv 1) (fun _ _ => rfl)) (pg_tup (by rfl) (pgs_cons (pg_name (i := 3) scLedAhead.nd rfl (Or.inl rfl)) (pgs_cons (pg_name (i := 4) scLedAhead.nd rfl (Or.inl rfl)) pgs_nil))))
      (pss_one (ps_ret (pe_callTy call_tuple_of (by rfl) T.tuple (by decide +kernel) (pa_cons (pe_lc (own := [("state", 5)]) (g := (gName 5)) (tt := tYes) rfl scLedAhead.nd  (pi_tup (pv 4)) (blkOk_by (own := [("state", 5)]) (N := nLedAhead) (sc := defScope s_led_ahead) (by decide +kernel)) (fun _ _ _ _ _ => (pg_name (i := 5) scLedAhead.nd rfl (Or.inl rfl))) (fun _ _ _ _ _ => pts_nil) (fun _ _ _ _ _ => (pe_ix (r := rIxT K) (show IxR _ (rIxT K) from ix_tup) (pv 2) (pv 5) (fun _ _ => rfl)))) pa_nil)))), ?_⟩
    obtain ⟨dx, mv, hp, vs, hV, hM⟩ := id hS
    obtain ⟨m, aa, sa, la, h1, h2, h3, h4, h5⟩ := mv_ix hM ⟨c0, c1⟩
    obtain ⟨xs, x1, x2, x3, x4⟩ := ld_at ok (c := c) ⟨c0, by rw [List.length_map]; exact c1⟩
    rw [List.getElem?_map, h2] at x1
    have x1 : m.2 = xs := Option.some.inj x1
    have m12 := ok.m2
    refine ⟨_, rfl, sy, C, dx, _, _, rfl, hp, S.cl, S.nM, sysF_moves _ _, _, rfl, mv, _, _, _, rfl, rfl, hV, h1, aa, _, rfl, h3, rfl, _, _, rfl, _, _, rfl, rfl, ?_⟩
    refine ⟨_, rfl, la, rfl, ⟨_, h5⟩, fun D hD => ?_⟩
    refine lc_tup (K := K) (a := la) (xs := m.2.map V.int) (fun i H' => Same H H' ∧ H' D = some (.lst (((m.2.take i).map fun s => e.getD s.toNat 0).map V.int))) ⟨Same.new hD, upd_same⟩ (fun i H' _ g => g.1.sqT h5) (fun i x H' hi g => ?_) fun H' g => ?_
    · obtain ⟨t1, g1⟩ := g
      rw [List.getElem?_map] at hi
      obtain ⟨z, hz, rfl⟩ := Option.map_eq_some_iff.mp hi
      have hil := (List.getElem?_eq_some_iff.mp hz).1
      have zb := x4 z (by rw [← x1]; exact List.mem_of_getElem? hz)
      refine ⟨rfl, _, rfl, _, rfl, ea, _, _, _, rfl, rfl, t1.sqT hE, ints_at zb.1 (by omega), _, g1, ?_, t1.mut hD, ?_⟩
      · rw [List.length_map, List.length_map, List.length_take]
        have : m.2.length = many := by rw [x1, x3]
        exact small1000 (by omega)
      · rw [upd_same, ahead_take _ _ _ _ hz, List.map_append] <;> rfl
    · obtain ⟨t1, g1⟩ := g
      rw [List.length_map, List.take_length] at g1
      refine ⟨D, _, rfl, .inl ⟨SqL.of g1, fun l hl => k l _ (t1.trans (Same.new hl)) ?_⟩⟩
      rw [upd_same, x2, ← x1] <;> rfl
end
end Law

namespace Law
open PySem L2
section
variable {P : Program} {w : World} {K : PySem.W.Frag} {mg : Str → Option Value} {base : Heap}
def spPlan (K : PySem.W.Frag) (C : Addr) : Sp := fun vs H Q _ => ∃ (sy ca sa : Addr) (b : Bool) (many : Nat) (ms : List Mv) (cs st : List Int), vs = [.ref sy, .ref ca, .str (plS b), .ref sa] ∧ SysAt K C H sy many ms ∧ LdOk many (ldsOf ms) ∧ SqT K H ca (cs.map V.int) ∧ CsOk ms.length cs ∧ cs.length ≤ 400 ∧ SqT K H sa (st.map V.int) ∧ InM many st ∧ st.length ≤ 12 ∧
  ∀ t l H' (k : Nat), Same H H' → SqT K H' t [.ref l, .int (k : Int)] → SqT K H' l ((selF (ldsOf ms) many st cs k).map V.int) → Pick b cs.length (oneF (ldsOf ms) many st cs) k → Q (.ref t) H'
theorem sel_turn {K : PySem.W.Frag} {many : Nat} {e st : List Int} (he : e.length = many) {i : Nat} {s : Int} (hs : InM many st) (h : st[i]? = some s) : atI (e.map V.int) s = some (.int (e.getD s.toNat 0)) := by
  have zb := hs s (List.mem_of_getElem? h)
  exact ints_at zb.1 (by omega)
abbrev nLedByPlan : List Str := ["system", "coins", "plan", "states", "leads", "at", "look", "move", "state"]
theorem scLedByPlan : FnScope nLedByPlan ["system", "coins", "plan", "states"] (defScope s_led_by_plan) := ⟨rfl, rfl, rfl, by decide +kernel, rfl, by decide +kernel, by decide +kernel⟩
theorem ok_led_by_plan {f : Addr} {fd : FuncData} {fcLooks : Addr} {fdcLooks : FuncData} {fcAhead : Addr} {fdcAhead : FuncData} {fcLotOf : Addr} {fdcLotOf : FuncData} {C : Addr} (F : Fun K "led_by_plan" "led_by_plan" s_led_by_plan f fd) (T : NmA mg) (cLooks : Cl P w K mg base CX0 1 "looks" fcLooks fdcLooks ["plan", "many"] (spLooks K)) (cAhead : Cl P w K mg base CX0 1 "led_ahead" fcAhead fdcAhead ["system", "move", "leads"] (spAhead K C)) (cLotOf : Cl P w K mg base CX0 1 "lot_of" fcLotOf fdcLotOf ["things"] (spLotOf K)) (S : SysT K mg C) : FnOk P w K mg base CX0 2 f fd ["system", "coins", "plan", "states"] (spPlan K C) := by
  refine F.ok scLedByPlan (fun vs H Q E h => ?_) (fun cdv A' outer s H vs Q E hr h => ?_)
  · obtain ⟨sy, ca, sa, b, many, ms, cs, st, rfl, _⟩ := h
    rfl
  · obtain ⟨sy, ca, sa, b, many, ms, cs, st, rfl, hS, ok, hC, cok, c400, hT, stok, s12, k⟩ := h
    refine ⟨_, pss_cons (ps_set (i := 4) scLedByPlan.nd rfl (Or.inr rfl) (pe_tupRg (by rfl) (by rfl) T.tuple (prg_1 (by rfl) T.range (pe_fld (pv 0) rfl))))
      (pss_cons (ps_set (i := 5) scLedByPlan.nd rfl (Or.inl rfl) pe_int)
      (Evl.pss_cut (ps_for PassesOwn.never rfl (pi_list (cLooks.call (hr.mono (by decide)) (pa_cons (pv 2) (pa_cons (pe_callB call_len_seq (by rfl) T.len PySem.boot_len (pa_cons (pv 1) pa_nil)) pa_nil)))) (pg_name (i := 6) scLedByPlan.nd rfl (Or.inl rfl))
        (pss_cons (ps_for PassesOwn.never rfl (pi_tup (pe_slice sl_tupA (pv 1) (po_some (pv 5)) (po_some (pv 6)))) (pg_name (i := 7) scLedByPlan.nd rfl (Or.inl rfl))
          (pss_one (ps_set (i := 4) scLedByPlan.nd rfl (Or.inr rfl) (cAhead.call (hr.mono (by decide)) (pa_cons (pv 0) (pa_cons (pv 7) (pa_cons (pv 4) pa_nil)))))))
        (pss_cons (ps_set (i := 5) scLedByPlan.nd rfl (Or.inl rfl) (pv 6))
        (pss_one (ps_if (pt_cmpR op_eq (pe_callB call_len_seq (by rfl) T.len PySem.boot_len (pa_cons (cLotOf.call (hr.mono (by decide)) (pa_cons (pe_lc (own := [("state", 8)]) (g := (gName 8)) (tt := tYes) rfl scLedByPlan.nd  (pi_tup (pv 3)) (blkOk_by (own := [("state", 8)]) (N := nLedByPlan) (sc := defScope s_led_by_plan) (by decide +kernel)) (fun _ _ _ _ _ => (pg_name (i := 8) scLedByPlan.nd rfl (Or.inl rfl))) (fun _ _ _ _ _ => pts_nil) (fun _ _ _ _ _ => (pe_ix (r := rIxT K) (show IxR _ (rIxT K) from ix_tup) (pv 4) (pv 8) (fun _ _ => rfl)))) pa_nil)) pa_nil)) pe_int (nomark _))
          (pss_one ps_break) pss_nil)))))
      (pss_one (ps_ret (pe_tup (pa_cons (pe_callTy call_tuple_of (by rfl) T.tuple (by decide +kernel) (pa_cons (pe_lc (own := [("state", 8)]) (g := (gName 8)) (tt := tYes) rfl scLedByPlan.nd  (pi_tup (pv 3)) (blkOk_by (own := [("state", 8)]) (N := nLedByPlan) (sc := defScope s_led_by_plan) (by decide +kernel)) (fun _ _ _ _ _ => (pg_name (i := 8) scLedByPlan.nd rfl (Or.inl rfl))) (fun _ _ _ _ _ => pts_nil) (fun _ _ _ _ _ => (pe_ix (r := rIxT K) (show IxR _ (rIxT K) from ix_tup) (pv 4) (pv 8) (fun _ _ => rfl)))) pa_nil)) (pa_cons (pv 5) pa_nil))))))), ?_⟩
    obtain ⟨dx, mv, hp, _⟩ := id hS
    have m1 := ok.m1
    have m12 := ok.m2
    have lms : (ldsOf ms).length = ms.length := by rw [List.length_map]
    have cok' : CsOk (ldsOf ms).length cs := by rw [lms]; exact cok
    refine ⟨_, rfl, sy, C, dx, _, _, rfl, hp, S.cl, S.nK, sysF_many _ _, (many : Int), rfl, RgOk.of_le (by decide) (by omega) (by decide) (by omega), fun q hq => ?_⟩
    rw [rg_upto]
    have s1 : Same H (upd H q (.tup ((upto many).map V.int))) := Same.new hq
    have g1 : (upd H q (.tup ((upto many).map V.int))) q = some (.tup ((upto many).map V.int)) := upd_same
    generalize upd H q (.tup ((upto many).map V.int)) = H1 at s1 g1 ⊢
    refine ⟨fun σ' H' => Same H H' ∧ ∃ (k : Nat) (la : Addr) (u v : Option V), σ' = [some (.ref sy), some (.ref ca), some (.str (plS b)), some (.ref sa), some (.ref la), some (.int (k : Int)), u, v, none] ∧ H' la = some (.tup ((endsF (ldsOf ms) many (cs.take k)).map V.int)) ∧ Pick b cs.length (oneF (ldsOf ms) many st cs) k, ?_, ?_⟩
    · refine ⟨_, rfl, _, rfl, ca, _, rfl, .inr (s1.sqT hC), b, (cs.map V.int).length, rfl, by rw [List.length_map]; exact c400, fun D H2 ks s2 h2 isl => ?_⟩
      rw [List.length_map] at isl
      have s12 := s1.trans s2
      have zks : ∀ (j x : Nat), ks[j]? = some x → x ≤ cs.length := fun j x h => ((isl.mem x).mp (List.mem_of_getElem? h)).1
      refine ⟨D, rfl, ⟨_, SqL.of h2⟩, for_list (K := K) (a := D) (xs := (ks.map fun i : Nat => (i : Int)).map V.int) (fun i σ H' => Same H2 H' ∧ ∃ (at_ : Nat) (la : Addr) (u v : Option V), σ = [some (.ref sy), some (.ref ca), some (.str (plS b)), some (.ref sa), some (.ref la), some (.int (at_ : Int)), u, v, none] ∧ H' la = some (.tup ((endsF (ldsOf ms) many (cs.take at_)).map V.int)) ∧
        ((i = 0 ∧ at_ = 0) ∨ ∃ j, i = j + 1 ∧ ks[j]? = some at_) ∧ ∀ j x, j < i → ks[j]? = some x → oneF (ldsOf ms) many st cs x = false) ⟨Same.refl H2, 0, q, none, none, rfl, s2 _ _ g1, .inl ⟨rfl, rfl⟩, fun j x hj => absurd hj (Nat.not_lt_zero j)⟩ (fun i σ H' _ g => SqL.of (g.1 _ _ h2)) ?_ ?_⟩
      · rintro i x σ H' hi ⟨t1, at_, la, u, v, rfl, gl, hat, hno⟩
        rw [List.getElem?_map, List.getElem?_map] at hi
        obtain ⟨xi, hxi, rfl⟩ := Option.map_eq_some_iff.mp hi
        obtain ⟨look, hlk, rfl⟩ := Option.map_eq_some_iff.mp hxi
        have hlc := zks i look hlk
        have hal : at_ ≤ look := by
          rcases hat with ⟨_, h⟩ | ⟨j, rfl, hj⟩
          · omega
          · obtain ⟨a1, a2⟩ := List.getElem?_eq_some_iff.mp hj
            obtain ⟨b1, b2⟩ := List.getElem?_eq_some_iff.mp hlk
            have := List.pairwise_iff_getElem.mp isl.asc j (j + 1) a1 b1 (Nat.lt_succ_self j)
            omega
        have tt := s12.trans t1
        refine ⟨_, rfl, _, rfl, _, rfl, _, rfl, _, rfl, sl_nat (tt.sqT hC) hal (by rw [List.length_map]; exact hlc) fun sl H3 s3 h3 => ?_⟩
        have e3 : (((cs.map V.int).drop at_).take (look - at_)) = ((cs.drop at_).take (look - at_)).map V.int := by rw [List.map_take, List.map_drop]
        rw [e3] at h3
        have lsl : ((cs.drop at_).take (look - at_)).length = look - at_ := by
          rw [List.length_take, List.length_drop]
          omega
        have tH3 := tt.trans s3
        refine ⟨sl, rfl, ⟨_, h3⟩, for_tup (K := K) (a := sl) (xs := ((cs.drop at_).take (look - at_)).map V.int) (fun j σ H' => Same H3 H' ∧ ∃ (lb : Addr) (v : Option V), σ = [some (.ref sy), some (.ref ca), some (.str (plS b)), some (.ref sa), some (.ref lb), some (.int (at_ : Int)), some (.int (look : Int)), v, none] ∧ H' lb = some (.tup ((endsF (ldsOf ms) many (cs.take (at_ + j))).map V.int))) ⟨Same.refl H3, la, v, rfl, s3 _ _ gl⟩ (fun j σ H' _ g => g.1.sqT h3) ?_ ?_⟩
        · rintro j y σ H4 hj ⟨t4, lb, v4, rfl, g4⟩
          rw [List.getElem?_map] at hj
          obtain ⟨c, hc, rfl⟩ := Option.map_eq_some_iff.mp hj
          have hjl := (List.getElem?_eq_some_iff.mp hc).1
          rw [lsl] at hjl
          have hcc : cs[at_ + j]? = some c := by
            rw [List.getElem?_take_of_lt hjl, List.getElem?_drop] at hc
            exact hc
          have cb := cok c (List.mem_of_getElem? hcc)
          obtain ⟨el, _⟩ := ends_ok ok (cok'.take (at_ + j))
          have t14 := tH3.trans t4
          refine ⟨_, rfl, _, rfl, _, rfl, sy, lb, c, many, ms, _, rfl, hS.same t14, ok, cb.1, cb.2, SqT.of g4, el, fun l5 H5 s5 g5 => ⟨t4.trans s5, l5, _, rfl, ?_⟩⟩
          rw [g5, show at_ + (j + 1) = at_ + j + 1 by omega, List.take_add_one, hcc]
          show some (HO.tup _) = some (HO.tup ((endsF (ldsOf ms) many (cs.take (at_ + j) ++ [c])).map V.int))
          rw [ends_snoc]
        · rintro σ H4 ⟨t4, lb, v4, rfl, g4⟩
          rw [List.length_map, lsl, show at_ + (look - at_) = look by omega] at g4
          have t14 := tH3.trans t4
          obtain ⟨el, _⟩ := ends_ok ok (cok'.take look)
          refine ⟨_, rfl, _, rfl, sa, rfl, ⟨_, t14.sqT hT⟩, fun D2 hD2 => ?_⟩
          refine lc_tup (K := K) (a := sa) (xs := st.map V.int) (fun i H' => Same H4 H' ∧ H' D2 = some (.lst (((st.take i).map fun s => (endsF (ldsOf ms) many (cs.take look)).getD s.toNat 0).map V.int))) ⟨Same.new hD2, upd_same⟩ (fun i H' _ g => (t14.trans g.1).sqT hT) (fun i x H' hi g => ?_) fun H5 g => ?_
          · obtain ⟨t5, g5⟩ := g
            rw [List.getElem?_map] at hi
            obtain ⟨z, hz, rfl⟩ := Option.map_eq_some_iff.mp hi
            have hil := (List.getElem?_eq_some_iff.mp hz).1
            refine ⟨rfl, _, rfl, _, rfl, lb, _, _, _, rfl, rfl, t5.sqT (SqT.of g4), sel_turn (K := K) el stok hz, _, g5, ?_, t5.mut hD2, ?_⟩
            · rw [List.length_map, List.length_map, List.length_take]
              exact small1000 (by omega)
            · rw [upd_same, ahead_take _ _ _ _ hz, List.map_append] <;> rfl
          · obtain ⟨t5, g5⟩ := g
            rw [List.length_map, List.take_length] at g5
            obtain ⟨si, sl2⟩ := sel_in ok stok cok' look
            refine ⟨D2, selF (ldsOf ms) many st cs look, rfl, .inl (SqL.of g5), by rw [sl2]; omega, si.in12 m12, fun l6 H6 s6 g6 => ?_⟩
            refine ⟨l6, _, rfl, .inr (SqT.of g6), rfl, _, rfl, ?_⟩
            have t46 := t5.trans s6
            rw [List.length_map, dec_len1]
            refine ite2 (fun h1 => ?_) (fun h1 => ?_)
            · exact ⟨t14.trans t46, look, lb, _, _, rfl, t46 _ _ g4, pick_hit isl hlk (fun j x hj hx => hno j x hj hx) h1⟩
            · refine ⟨((t1.trans s3).trans t4).trans t46, look, lb, _, _, rfl, t46 _ _ g4, .inr ⟨i, rfl, hlk⟩, fun j x hj hx => ?_⟩
              rcases Nat.lt_or_ge j i with c | c
              · exact hno j x c hx
              · have : j = i := by omega
                subst this
                rw [hlk] at hx
                cases hx
                exact Bool.eq_false_iff.mpr h1
      · rintro σ H' ⟨t1, at_, la, u, v, rfl, gl, hat, hno⟩
        rw [List.length_map, List.length_map] at hat hno
        have hlast : ks.getLast? = some at_ := by
          have h0 : 0 < ks.length := by
            obtain ⟨m, hm, _⟩ := List.getElem_of_mem ((isl.mem 0).mpr (zero_look b cs.length))
            omega
          rcases hat with ⟨h, _⟩ | ⟨j, h, hj⟩
          · omega
          · rw [List.getLast?_eq_getElem?, h]
            exact hj
        exact ⟨s12.trans t1, at_, la, _, _, rfl, gl, pick_end isl hlast fun j x hx => hno j x (List.getElem?_eq_some_iff.mp hx).1 hx⟩
    · rintro σ H' ⟨t1, kk, la, u, v, rfl, gl, pk⟩
      obtain ⟨el, _⟩ := ends_ok ok (cok'.take kk)
      refine ⟨_, rfl, sa, rfl, ⟨_, t1.sqT hT⟩, fun D2 hD2 => ?_⟩
      refine lc_tup (K := K) (a := sa) (xs := st.map V.int) (fun i H2 => Same H' H2 ∧ H2 D2 = some (.lst (((st.take i).map fun s => (endsF (ldsOf ms) many (cs.take kk)).getD s.toNat 0).map V.int))) ⟨Same.new hD2, upd_same⟩ (fun i H2 _ g => (t1.trans g.1).sqT hT) (fun i x H2 hi g => ?_) fun H5 g => ?_
      · obtain ⟨t5, g5⟩ := g
        rw [List.getElem?_map] at hi
        obtain ⟨z, hz, rfl⟩ := Option.map_eq_some_iff.mp hi
        have hil := (List.getElem?_eq_some_iff.mp hz).1
        refine ⟨rfl, _, rfl, _, rfl, la, _, _, _, rfl, rfl, t5.sqT (SqT.of gl), sel_turn (K := K) el stok hz, _, g5, ?_, t5.mut hD2, ?_⟩
        · rw [List.length_map, List.length_map, List.length_take]
          exact small1000 (by omega)
        · rw [upd_same, ahead_take _ _ _ _ hz, List.map_append] <;> rfl
      · obtain ⟨t5, g5⟩ := g
        rw [List.length_map, List.take_length] at g5
        refine ⟨D2, _, rfl, .inl ⟨SqL.of g5, fun l6 hl6 => ?_⟩⟩
        refine ⟨_, rfl, by show 2 ≤ sizeLine; decide, fun t7 ht7 => ?_⟩
        have s6 : Same H5 (upd H5 l6 (.tup ((selF (ldsOf ms) many st cs kk).map V.int))) := Same.new hl6
        exact k t7 l6 _ kk (((t1.trans t5).trans s6).trans (Same.new ht7)) (SqT.of upd_same) (SqT.of ((Same.new ht7) _ _ upd_same)) pk
def spDrawn (K : PySem.W.Frag) (C : Addr) : Sp := fun vs H Q _ => ∃ (sy ca : Addr) (b : Bool) (many : Nat) (ms : List Mv) (cs : List Int), vs = [.ref sy, .ref ca, .str (plS b)] ∧ SysAt K C H sy many ms ∧ LdOk many (ldsOf ms) ∧ SqT K H ca (cs.map V.int) ∧ CsOk ms.length cs ∧ cs.length ≤ 400 ∧
  ∀ t H' (k : Nat), Same H H' → ResAt K H' t k (selF (ldsOf ms) many (upto many) cs k) → Pick b cs.length (oneF (ldsOf ms) many (upto many) cs) k → Q (.ref t) H'
abbrev nDrawn : List Str := ["system", "coins", "plan", "found", "many", "lot"]
theorem scDrawn : FnScope nDrawn ["system", "coins", "plan"] (defScope s_drawn) := ⟨rfl, rfl, rfl, by decide +kernel, rfl, by decide +kernel, by decide +kernel⟩
theorem ok_drawn {f : Addr} {fd : FuncData} {fcIsRow : Addr} {fdcIsRow : FuncData} {fcIsPlan : Addr} {fdcIsPlan : FuncData} {fcPlan : Addr} {fdcPlan : FuncData} {fcLotOf : Addr} {fdcLotOf : FuncData} {C : Addr} (F : Fun K "drawn" "drawn" s_drawn f fd) (T : NmA mg) (cIsRow : Cl P w K mg base CX0 4 "is_row" fcIsRow fdcIsRow ["system", "thing"] (spIsRow K C)) (cIsPlan : Cl P w K mg base CX0 1 "is_plan" fcIsPlan fdcIsPlan ["thing"] spIsPlan) (cPlan : Cl P w K mg base CX0 2 "led_by_plan" fcPlan fdcPlan ["system", "coins", "plan", "states"] (spPlan K C)) (cLotOf : Cl P w K mg base CX0 1 "lot_of" fcLotOf fdcLotOf ["things"] (spLotOf K)) (S : SysT K mg C) : FnOk P w K mg base CX0 5 f fd ["system", "coins", "plan"] (spDrawn K C) := by
  refine F.ok scDrawn (fun vs H Q E h => ?_) (fun cdv A' outer s H vs Q E hr h => ?_)
  · obtain ⟨sy, ca, b, many, ms, cs, rfl, _⟩ := h
    rfl
  · obtain ⟨sy, ca, b, many, ms, cs, rfl, hS, ok, hC, cok, c400, k⟩ := h
    refine ⟨_, pss_cons (ps_if (pt_not (pt_val (cIsRow.call (hr.mono (by decide)) (pa_cons (pv 0) (pa_cons (pv 1) pa_nil)))))
        pss_never pss_nil)
      (pss_cons (ps_if (pt_not (pt_val (cIsPlan.call (hr.mono (by decide)) (pa_cons (pv 2) pa_nil))))
        pss_never pss_nil)
      (pss_cons (ps_asg (cPlan.call (hr.mono (by decide)) (pa_cons (pv 0) (pa_cons (pv 1) (pa_cons (pv 2) (pa_cons (pe_tupRg (by rfl) (by rfl) T.tuple (prg_1 (by rfl) T.range (pe_fld (pv 0) rfl))) pa_nil))))) (pg_tup (by rfl) (pgs_cons (pg_name (i := 3) scDrawn.nd rfl (Or.inl rfl)) (pgs_cons (pg_name (i := 4) scDrawn.nd rfl (Or.inl rfl)) pgs_nil))))
      (pss_cons (ps_set (i := 5) scDrawn.nd rfl (Or.inl rfl) (cLotOf.call (hr.mono (by decide)) (pa_cons (pv 3) pa_nil)))
      (pss_one (ps_ret (pe_ifExp (pt_cmpR op_eq (pe_callB call_len_seq (by rfl) T.len PySem.boot_len (pa_cons (pv 5) pa_nil)) pe_int (nomark _)) (pe_tup (pa_cons pe_str (pa_cons (pe_ix ix_tup (pv 5) pe_int (fun _ _ => rfl)) (pa_cons (pv 4) pa_nil)))) (pe_tup (pa_cons pe_str (pa_cons (pv 5) (pa_cons (pv 4) pa_nil)))))))))), ?_⟩
    have m12 := ok.m2
    have lms : (ldsOf ms).length = ms.length := by rw [List.length_map]
    have cok' : CsOk (ldsOf ms).length cs := by rw [lms]; exact cok
    refine ⟨_, rfl, _, rfl, sy, ca, many, ms, cs, rfl, hS, hC, ⟨c400, cok⟩, fun H1 s1 => ⟨_, rfl, iteF ?_⟩⟩
    refine ⟨_, rfl, b, rfl, fun H2 s2 => ⟨_, rfl, iteF ?_⟩⟩
    have t2 := s1.trans s2
    obtain ⟨dx, mv, hp, _⟩ := id (hS.same t2)
    refine ⟨_, rfl, _, rfl, _, rfl, _, rfl, sy, C, dx, _, _, rfl, hp, S.cl, S.nK, sysF_many _ _, (many : Int), rfl, RgOk.of_le (by decide) (by omega) (by decide) (by omega), fun q hq => ?_⟩
    rw [rg_upto]
    have s3 : Same H2 (upd H2 q (.tup ((upto many).map V.int))) := Same.new hq
    have g3 : (upd H2 q (.tup ((upto many).map V.int))) q = some (.tup ((upto many).map V.int)) := upd_same
    generalize upd H2 q (.tup ((upto many).map V.int)) = H3 at s3 g3 ⊢
    have t3 := t2.trans s3
    refine ⟨sy, ca, q, b, many, ms, cs, upto many, rfl, hS.same t3, ok, t3.sqT hC, cok, c400, SqT.of g3, upto_in many, by rw [upto_len]; exact m12, fun t l H4 kk s4 h4 g4 pk => ?_⟩
    obtain ⟨si, sl2⟩ := sel_in ok (upto_in many) cok' kk
    refine ⟨t, _, rfl, h4, rfl, _, _, rfl, _, _, rfl, rfl, ?_⟩
    refine ⟨_, rfl, l, selF (ldsOf ms) many (upto many) cs kk, rfl, .inr g4, by rw [sl2, upto_len]; omega, si.in12 m12, fun l5 H5 s5 g5 => ?_⟩
    have t5 := (t3.trans s4).trans s5
    refine ⟨_, rfl, l5, _, rfl, .inr (SqT.of g5), rfl, _, rfl, ?_⟩
    rw [List.length_map, dec_len1]
    refine ite2 (fun h1 => ?_) (fun h1 => ?_)
    · have h1 := of_decide_eq_true h1
      refine ⟨_, rfl, l5, _, _, _, rfl, rfl, SqT.of g5, at_head h1, _, rfl, by show 3 ≤ sizeLine; decide, fun t6 ht6 => ?_⟩
      exact k t6 _ kk (t5.trans (Same.new ht6)) (.inl ⟨h1, SqT.of upd_same⟩) pk
    · have h1 : (lotF (selF (ldsOf ms) many (upto many) cs kk)).length ≠ 1 := fun e => h1 (decide_eq_true e)
      refine ⟨_, rfl, _, rfl, by show 3 ≤ sizeLine; decide, fun t6 ht6 => ?_⟩
      exact k t6 _ kk (t5.trans (Same.new ht6)) (.inr ⟨h1, l5, SqT.of upd_same, SqT.of ((Same.new ht6) _ _ g5)⟩) pk
end
end Law

namespace L2
open PySem
def rLenK (K : PySem.W.Frag) : List V → Hp → VK → Prop := fun xs H Q => ∃ p ys, xs = [.ref p] ∧ (SqL K H p ys ∨ SqT K H p ys) ∧ Q (.int (ys.length : Nat)) H
end L2
namespace Law
open PySem L2
theorem tups_at {K : PySem.W.Frag} {H : Hp} {vs : List V} {Ls : List (List Int)} {c : Int} (h : TupsIn K H vs Ls) (h0 : 0 ≤ c) (h1 : c < ((Ls.length : Nat) : Int)) : ∃ xs l, atI vs c = some (.ref l) ∧ Ls[c.toNat]? = some xs ∧ SqT K H l (xs.map V.int) := by
  have hv : c.toNat < vs.length := by have := h.1; omega
  obtain ⟨xs, e1, l, e2, e3⟩ := h.2 c.toNat vs[c.toNat] (List.getElem?_eq_getElem hv)
  have z : atI vs ((c.toNat : Nat) : Int) = some vs[c.toNat] := atI_nat (List.getElem?_eq_getElem hv)
  rw [show ((c.toNat : Nat) : Int) = c by omega, e2] at z
  exact ⟨xs, l, z, e1, e3⟩
theorem lds_of {many : Nat} {Ls : List (List Int)} {ws : List Int} (h : WOk many Ls ws) : LdOk many Ls := ⟨h.m1, h.m2, h.ld⟩
theorem lds_moves (Ls : List (List Int)) (ws : List Int) : ldsOf (movesF Ls ws) = Ls := by
  unfold ldsOf movesF
  rw [List.map_map]
  refine ext_at (n := Ls.length) (by rw [List.length_map, List.length_range]) rfl fun i hi => ?_
  rw [List.getElem?_map, List.getElem?_range hi, List.getElem?_eq_getElem hi]
  show some (Ls.getD i []) = _
  rw [getD_of hi]
theorem at_last {α : Type} {xs : List α} {v : α} (h : xs.getLast? = some v) : atI xs (-1) = some v := by
  obtain ⟨ys, rfl⟩ := List.getLast?_eq_some_iff.mp h
  exact atI_last ys v
theorem inV_ints (x : Int) (xs : List Int) : inV (V.int x) (xs.map V.int) = decide (x ∈ xs) := by
  unfold inV
  rw [List.any_map]
  by_cases h : x ∈ xs
  · rw [decide_eq_true h, List.any_eq_true]
    exact ⟨x, h, by show (x == x) = true; exact beq_self_eq_true x⟩
  · rw [decide_eq_false h, List.any_eq_false]
    intro y hy e
    have e : (y == x) = true := e
    rw [beq_iff_eq] at e
    exact h (e ▸ hy)
theorem flat_ints (xs : List Int) : (xs.map V.int).all flatV = true := by
  rw [List.all_map, List.all_eq_true]
  intro x _
  rfl
section
variable {P : Program} {w : World} {K : PySem.W.Frag} {mg : Str → Option Value} {base : Heap}
def spBehind (K : PySem.W.Frag) : Sp := fun vs H Q _ => ∃ (wd ra : Addr) (many : Nat) (Ls : List (List Int)) (ws row : List Int), vs = [.ref wd, .ref ra] ∧ WAt K H wd many Ls ws ∧ LdOk many Ls ∧ SqT K H ra (row.map V.int) ∧ CsOk Ls.length row ∧
  ∀ D H', Same H H' → H' D = some (.lst ((behindF Ls many row).map V.int)) → Q (.ref D) H'
def spDrawnL (K : PySem.W.Frag) : Sp := fun vs H Q _ => ∃ (wd ca : Addr) (b : Bool) (many : Nat) (Ls : List (List Int)) (ws cs : List Int), vs = [.ref wd, .ref ca, .str (plS b)] ∧ WAt K H wd many Ls ws ∧ LdOk many Ls ∧ SqT K H ca (cs.map V.int) ∧ CsOk Ls.length cs ∧ cs.length ≤ 400 ∧
  ∀ t H' (k : Nat), Same H H' → ResAt K H' t k (selF Ls many (upto many) cs k) → Pick b cs.length (oneF Ls many (upto many) cs) k → Q (.ref t) H'
theorem pl_dbl (b : Bool) : decide (V.str (plS b) = V.str ("double" : Str)) = !b := by
  cases b
  · exact decide_eq_true rfl
  · exact decide_eq_false fun e => absurd (V.str.inj e) (by decide +kernel)
def ks0 (b : Bool) (n : Nat) : List Nat := if b = true then List.range (n + 1) else lits
theorem ks0_lk {b : Bool} {n : Nat} (h : n ≤ 400) : IsLk b n ((ks0 b n).filter fun x => decide (x ≤ n)) := by
  cases b
  · exact lk_lits h
  · exact lk_filter
theorem ks0_len {b : Bool} {n : Nat} (h : n ≤ 400) : (ks0 b n).length ≤ 401 := by
  cases b
  · show lits.length ≤ 401
    decide
  · show (List.range (n + 1)).length ≤ 401
    rw [List.length_range]
    omega
abbrev iL (ks : List Nat) : List V := (ks.map fun i : Nat => (i : Int)).map V.int
theorem iL_snoc (a : List Nat) (x : Nat) : iL (a ++ [x]) = iL a ++ [V.int (x : Int)] := by
  show ((a ++ [x]).map fun i : Nat => (i : Int)).map V.int = _
  rw [List.map_append, List.map_append] <;> rfl
theorem filter_snoc {xs : List Nat} {f : Nat → Bool} {i x : Nat} (h : xs[i]? = some x) : (xs.take (i + 1)).filter f = (xs.take i).filter f ++ (if f x = true then [x] else []) := by
  rw [List.take_add_one, h, List.filter_append]
  congr 1
  show [x].filter f = _
  by_cases c : f x = true
  · rw [if_pos c, List.filter_cons_of_pos c] <;> rfl
  · rw [if_neg c, List.filter_cons_of_neg c] <;> rfl
abbrev nLawDrawn : List Str := ["_law_world_here", "_law_coins", "_law_plan", "_law_looks", "_law_ends", "_law_look", "_law_state"]
theorem scLawDrawn : FnScope nLawDrawn ["_law_world_here", "_law_coins", "_law_plan"] (defScope s_law_drawn) := ⟨rfl, rfl, rfl, by decide +kernel, rfl, by decide +kernel, by decide +kernel⟩
theorem ok_drawnL {f : Addr} {fd : FuncData} {fcLawLot : Addr} {fdcLawLot : FuncData} (F : Fun K "_law_drawn" "_law_drawn" s_law_drawn f fd) (T : NmA mg) (cLawLot : Cl P w K mg base CX0 1 "_law_lot" fcLawLot fdcLawLot ["_law_states"] (spLotOf K)) : FnOk P w K mg base CX0 2 f fd ["_law_world_here", "_law_coins", "_law_plan"] (spDrawnL K) := by
  refine F.ok scLawDrawn (fun vs H Q E h => ?_) (fun cdv A' outer s H vs Q E hr h => ?_)
  · obtain ⟨wd, ca, b, many, Ls, ws, cs, rfl, _⟩ := h
    rfl
  · obtain ⟨wd, ca, b, many, Ls, ws, cs, rfl, hW, ok, hC, cok, c400, k⟩ := h
    have hu := hu_of hr
    refine ⟨_, Evl.pss_cut (ps_set (i := 3) scLawDrawn.nd rfl (Or.inl rfl) (pe_ifExp (pt_cmpR op_eq (pv 2) pe_str (nomark _)) (pe_lst (pa_cons pe_int (pa_cons pe_int (pa_cons pe_int (pa_cons pe_int (pa_cons pe_int (pa_cons pe_int (pa_cons pe_int (pa_cons pe_int (pa_cons pe_int (pa_cons pe_int pa_nil))))))))))) (pe_listRg (by rfl) (by rfl) T.list (prg_1 (by rfl) T.range (pe_op op_add (pe_callB call_len_seq (by rfl) T.len PySem.boot_len (pa_cons (pv 1) pa_nil)) pe_int)))))
      (pss_cons (ps_asg (pe_tup (pa_cons (pe_lc (own := [("_law_look", 5)]) (g := (gName 5)) (tt := _) rfl scLawDrawn.nd  (pi_list (pv 3)) (blkOk_by (own := [("_law_look", 5)]) (N := nLawDrawn) (sc := defScope s_law_drawn) (by decide +kernel)) (fun _ _ _ _ _ => (pg_name (i := 5) scLawDrawn.nd rfl (Or.inl rfl))) (fun _ _ _ _ _ => (pts_one (pt_cmpR op_le (pv 5) (pe_callB (r := rLenK K) (show CallR _ (.builtin "len") (rLenK K) from call_len_seq) (by rfl) T.len PySem.boot_len (pa_cons (pv 1) pa_nil)) (nomark _)))) (fun _ _ _ _ _ => (pv 5))) (pa_cons (pe_listRg (by rfl) (by rfl) T.list (prg_1 (by rfl) T.range (pe_dget hu (pv 0) pe_str (fun _ _ => rfl)))) pa_nil))) (pg_tup (by rfl) (pgs_cons (pg_name (i := 3) scLawDrawn.nd rfl (Or.inl rfl)) (pgs_cons (pg_name (i := 4) scLawDrawn.nd rfl (Or.inr rfl)) pgs_nil))))
      (pss_cons (ps_for PassesOwn.never rfl (pi_range1 (by rfl) T.range (pa_cons (pe_op op_add (pe_ix ix_list (pv 3) (pe_un un_neg pe_int) (fun _ _ => rfl)) pe_int) pa_nil)) (pg_name (i := 5) scLawDrawn.nd rfl (Or.inl rfl))
        (Evl.pss_cut (ps_if (pt_cmpR op_gt (pv 5) pe_int (nomark _))
          (pss_one (ps_set (i := 4) scLawDrawn.nd rfl (Or.inr rfl) (pe_lc (own := [("_law_state", 6)]) (g := (gName 6)) (tt := tYes) rfl scLawDrawn.nd  (pi_tup (pe_ix ix_list (pe_dget hu (pv 0) pe_str (fun _ _ => rfl)) (pe_ix ix_tup (pv 1) (pe_op op_sub (pv 5) pe_int) (fun _ _ => rfl)) (fun _ _ => rfl))) (blkOk_by (own := [("_law_state", 6)]) (N := nLawDrawn) (sc := defScope s_law_drawn) (by decide +kernel)) (fun _ _ _ _ _ => (pg_name (i := 6) scLawDrawn.nd rfl (Or.inl rfl))) (fun _ _ _ _ _ => pts_nil) (fun _ _ _ _ _ => (pe_ix (r := rIxL K) (show IxR _ (rIxL K) from ix_list) (pv 4) (pv 6) (fun _ _ => rfl)))))) pss_nil)
        (pss_one (ps_if (PW.pt (pw_and (pt_cmpR op_in_seq (pv 5) (pv 3) (by rfl)) (pw_and1 (pt_cmpR op_eq (pe_callB cr_lenSet (by rfl) T.len PySem.boot_len (pa_cons (pe_callTy (cr_setA (by rfl)) (by rfl) T.set (by decide +kernel) (pa_cons (pv 4) pa_nil)) pa_nil)) pe_int (nomark _)))))
          (pss_one (ps_ret (pe_tup (pa_cons pe_str (pa_cons (pe_ix ix_list (pv 4) pe_int (fun _ _ => rfl)) (pa_cons (pv 5) pa_nil)))))) pss_nil))))
      (pss_one (ps_ret (pe_tup (pa_cons pe_str (pa_cons (cLawLot.call (hr.mono (by decide)) (pa_cons (pv 4) pa_nil)) (pa_cons (pe_ix ix_list (pv 3) (pe_un un_neg pe_int) (fun _ _ => rfl)) pa_nil)))))))), ?_⟩
    obtain ⟨la, wa, vs, h1, h2, h3, h4⟩ := id hW
    have m1 := ok.m1
    have m12 := ok.m2
    have cl : (cs.map V.int).length = cs.length := List.length_map ..
    refine ⟨fun σ' H' => Same H H' ∧ ∃ L0 : Addr, σ' = [some (.ref wd), some (.ref ca), some (.str (plS b)), some (.ref L0), none, none, none] ∧ H' L0 = some (.lst (iL (ks0 b cs.length))), ?_, ?_⟩
    · refine ⟨_, rfl, rfl, _, rfl, ?_⟩
      rw [pl_dbl]
      cases b with
      | false => exact iteT ⟨by show 10 ≤ sizeLine; decide, fun q hq => ⟨Same.new hq, q, rfl, upd_same⟩⟩
      | true =>
        refine iteF ⟨_, rfl, ca, _, rfl, .inr hC, _, _, rfl, rfl, (((cs.map V.int).length : Nat) : Int) + 1, rfl, RgOk.of_le (by decide) (by omega) (by decide) (by omega), fun q hq => ⟨Same.new hq, q, rfl, ?_⟩⟩
        have := rg_upto (cs.length + 1)
        rw [Int.natCast_add] at this
        rw [upd_same, cl]
        exact congrArg (fun z => some (HO.lst z)) this
    · rintro σ' H1 ⟨t1, L0, rfl, g1⟩
      refine ⟨_, rfl, L0, rfl, ⟨_, SqL.of g1⟩, fun D hD => ?_⟩
      refine lc_list (K := K) (a := L0) (xs := iL (ks0 b cs.length)) (fun i H' => Same H1 H' ∧ H' D = some (.lst (iL (((ks0 b cs.length).take i).filter fun x => decide (x ≤ cs.length))))) ⟨Same.new hD, upd_same⟩ (fun i H' _ g => SqL.of (g.1 _ _ g1)) (fun i x H' hi g => ?_) fun H2 g => ?_
      · obtain ⟨t2, g2⟩ := g
        rw [List.getElem?_map, List.getElem?_map] at hi
        obtain ⟨xi, hxi, rfl⟩ := Option.map_eq_some_iff.mp hi
        obtain ⟨j, hj, rfl⟩ := Option.map_eq_some_iff.mp hxi
        have hil := (List.getElem?_eq_some_iff.mp hj).1
        have k4 := ks0_len (b := b) c400
        refine ⟨rfl, _, rfl, _, rfl, ca, _, rfl, .inr ((t1.trans t2).sqT hC), _, _, rfl, rfl, _, rfl, ite2 (fun hle => ?_) (fun hle => ?_)⟩
        · have hle := of_decide_eq_true hle
          refine ⟨_, rfl, _, g2, ?_, t2.mut hD, ?_⟩
          · rw [List.length_map, List.length_map]
            have := List.length_filter_le (fun x => decide (x ≤ cs.length)) ((ks0 b cs.length).take i)
            rw [List.length_take] at this
            exact small1000 (by omega)
          · rw [upd_same, filter_snoc hj, if_pos (show decide (j ≤ cs.length) = true from decide_eq_true (by omega)), iL_snoc]
        · refine ⟨t2, ?_⟩
          have hle : ¬ j ≤ cs.length := fun q => hle (decide_eq_true (by omega))
          rw [filter_snoc hj, if_neg (show ¬ decide (j ≤ cs.length) = true from fun q => hle (of_decide_eq_true q)), List.append_nil]
          exact g2
      obtain ⟨t2, g2⟩ := g
      rw [List.length_map, List.length_map, List.take_length] at g2
      have isl := ks0_lk (b := b) c400
      generalize (ks0 b cs.length).filter (fun x => decide (x ≤ cs.length)) = ks at g2 isl
      have t12 := t1.trans t2
      refine ⟨_, rfl, wd, _, rfl, gw_many (t12 _ _ h1), (many : Int), rfl, RgOk.of_le (by decide) (by omega) (by decide) (by omega), fun q hq => ⟨by show 2 ≤ sizeLine; decide, fun t ht => ?_⟩⟩
      have s3 : Same H2 (upd (upd H2 q (.lst (rgV 0 (many : Int)))) t (.tup [.ref D, .ref q])) := (Same.new hq).trans (Same.new ht)
      have q3 : (upd (upd H2 q (.lst (rgV 0 (many : Int)))) t (.tup [.ref D, .ref q])) q = some (.lst ((upto many).map V.int)) := by
        rw [← rg_upto]
        exact (Same.new ht) _ _ upd_same
      refine ⟨t, _, rfl, SqT.of upd_same, rfl, _, _, rfl, _, _, rfl, rfl, ?_⟩
      generalize upd (upd H2 q (.lst (rgV 0 (many : Int)))) t (.tup [.ref D, .ref q]) = H3 at s3 q3 ⊢
      have t3 := t12.trans s3
      have g3 := s3 _ _ g2
      have h0 : 0 < ks.length := by
        obtain ⟨m, hm, _⟩ := List.getElem_of_mem ((isl.mem 0).mpr (zero_look b cs.length))
        omega
      obtain ⟨last, hlast⟩ : ∃ x, ks.getLast? = some x := ⟨ks[ks.length - 1], by rw [List.getLast?_eq_getElem?]; exact List.getElem?_eq_getElem (by omega)⟩
      have hll : last ≤ cs.length := ((isl.mem last).mp (List.mem_of_getLast? hlast)).1
      have hat : atI (iL ks) (-1) = some (.int (last : Int)) := at_last (by rw [List.getLast?_map, List.getLast?_map, hlast]; rfl)
      refine ⟨_, rfl, 1, rfl, D, _, _, _, rfl, rfl, SqL.of g3, hat, _, _, rfl, rfl, ((last + 1 : Nat) : Int), rfl, by omega, by omega, ?_⟩
      refine for_range (lo := 0) (n := last + 1) (fun i σ H' => Same H3 H' ∧ ∃ (ea : Addr) (u v : Option V), σ = [some (.ref wd), some (.ref ca), some (.str (plS b)), some (.ref D), some (.ref ea), u, v] ∧ H' ea = some (.lst ((endsF Ls many (cs.take (i - 1))).map V.int)) ∧ ∀ j, j < i → lkM b cs.length j → oneF Ls many (upto many) cs j = false)
        ⟨Same.refl H3, q, none, none, rfl, q3, fun j hj => absurd hj (Nat.not_lt_zero j)⟩ ?_ ?_
      · rintro i σ H' hi ⟨t4, ea, u, v, rfl, g4, hno⟩
        rw [Int.zero_add]
        have t14 := t3.trans t4
        refine ⟨fun σ' H'' => Same H' H'' ∧ ∃ (eb : Addr) (v' : Option V), σ' = [some (.ref wd), some (.ref ca), some (.str (plS b)), some (.ref D), some (.ref eb), some (.int (i : Int)), v'] ∧ H'' eb = some (.lst ((endsF Ls many (cs.take i)).map V.int)), ?_, ?_⟩
        · refine ⟨_, rfl, _, _, rfl, rfl, _, rfl, ite2 (fun hp => ?_) (fun hp => ?_)⟩
          · have hp : 0 < i := by
              have := of_decide_eq_true hp
              omega
            have hil : i - 1 < cs.length := by omega
            have cb := cok _ (List.getElem_mem hil)
            have hca : atI (cs.map V.int) ((i : Int) - 1) = some (.int cs[i - 1]) := by
              have := ints_at (xs := cs) (s := (i : Int) - 1) (by omega) (by omega)
              rw [show ((i : Int) - 1).toNat = i - 1 by omega, getD_of hil] at this
              exact this
            obtain ⟨xs, l, z1, z2, z3⟩ := tups_at h3 cb.1 cb.2
            obtain ⟨xs', y1, y2, y3, y4⟩ := ld_at ok cb
            rw [z2] at y1
            cases y1
            obtain ⟨el, _⟩ := ends_ok ok (cok.take (i - 1))
            refine ⟨_, rfl, wd, _, rfl, gw_leads (t14 _ _ h1), _, rfl, _, rfl, _, _, rfl, rfl, ca, _, _, _, rfl, rfl, t14.sqT hC, hca, la, _, _, _, rfl, rfl, SqL.of (t14 _ _ h2), z1, l, rfl, ⟨_, t14.sqT z3⟩, fun D2 hD2 => ?_⟩
            refine lc_tup (K := K) (a := l) (xs := xs.map V.int) (fun m H5 => Same H' H5 ∧ H5 D2 = some (.lst (((xs.take m).map fun s => (endsF Ls many (cs.take (i - 1))).getD s.toNat 0).map V.int))) ⟨Same.new hD2, upd_same⟩ (fun m H5 _ g => (t14.trans g.1).sqT z3) (fun m x H5 hm g => ?_) fun H5 g => ?_
            · obtain ⟨t5, g5⟩ := g
              rw [List.getElem?_map] at hm
              obtain ⟨z, hz, rfl⟩ := Option.map_eq_some_iff.mp hm
              have hml := (List.getElem?_eq_some_iff.mp hz).1
              refine ⟨rfl, _, rfl, _, rfl, ea, _, _, _, rfl, rfl, SqL.of (t5 _ _ g4), sel_turn (K := K) el y4 hz, _, g5, ?_, t5.mut hD2, ?_⟩
              · rw [List.length_map, List.length_map, List.length_take]
                exact small1000 (by omega)
              · rw [upd_same, ahead_take _ _ _ _ hz, List.map_append] <;> rfl
            · obtain ⟨t5, g5⟩ := g
              rw [List.length_map, List.take_length] at g5
              refine ⟨t5, D2, _, rfl, ?_⟩
              rw [g5, show cs.take i = cs.take (i - 1) ++ [cs[i - 1]] by
                have := List.take_append_getElem hil
                rw [this]
                congr 1
                omega, ends_snoc, y2] <;> rfl
          · have hp : i = 0 := by
              have z : ¬ (0 : Int) < (i : Int) := fun q => hp (decide_eq_true q)
              omega
            subst hp
            exact ⟨Same.refl H', ea, _, rfl, g4⟩
        · rintro σ' H5 ⟨t5, eb, v', rfl, g5⟩
          have t45 := t4.trans t5
          have t15 := t14.trans t5
          obtain ⟨el, ei⟩ := ends_ok ok (cok.take i)
          have e12 := ei.in12 m12
          have ese := sel_all ok cok i
          have nxt : ∀ H6, Same H5 H6 → (lkM b cs.length i → oneF Ls many (upto many) cs i = false) → Same H3 H6 ∧ ∃ (ea : Addr) (u v : Option V), [some (V.ref wd), some (.ref ca), some (.str (plS b)), some (.ref D), some (.ref eb), some (.int (i : Int)), v'] = [some (.ref wd), some (.ref ca), some (.str (plS b)), some (.ref D), some (.ref ea), u, v] ∧ H6 ea = some (.lst ((endsF Ls many (cs.take (i + 1 - 1))).map V.int)) ∧ ∀ j, j < i + 1 → lkM b cs.length j → oneF Ls many (upto many) cs j = false := by
            intro H6 t6 hz
            refine ⟨t45.trans t6, eb, _, _, rfl, by rw [Nat.add_sub_cancel]; exact t6 _ _ g5, fun j hj hl => ?_⟩
            rcases Nat.lt_or_ge j i with c | c
            · exact hno j c hl
            · have : j = i := by omega
              subst this
              exact hz hl
          refine ⟨_, rfl, _, rfl, D, _, rfl, .inl (SqL.of (t45 _ _ g3)), rfl, flat_ints _, _, rfl, ?_⟩
          show (if (inV (V.int (i : Int)) (iL ks)) = true then _ else _)
          rw [inV_ints]
          refine ite2 (fun hin => ?_) (fun hin => ?_)
          · have hin : i ∈ ks := by
              obtain ⟨j, hj, e⟩ := List.mem_map.mp (of_decide_eq_true hin)
              have : j = i := by omega
              exact this ▸ hj
            have hlk := (isl.mem i).mp hin
            refine ⟨_, rfl, eb, _, rfl, .inl (SqL.of g5), by omega, fun q2 c hq2 hc2 => ⟨q2, _, c, rfl, upd_same, ?_⟩⟩
            rintro ⟨ms, nd, hl, hm⟩
            have e1 : c = (lotF (endsF Ls many (cs.take i))).length := by
              rw [← hl]
              exact lot_len e12 nd fun z => by rw [← hm z, decide_eq_true_iff]
            refine ⟨rfl, _, rfl, ?_⟩
            rw [dec_len1]
            refine ite2 (fun h1c => ?_) (fun h1c => ?_)
            · have h1c := of_decide_eq_true h1c
              have l1 : (lotF (endsF Ls many (cs.take i))).length = 1 := by omega
              obtain ⟨z, y1, y2, y3⟩ := lot_one e12 l1
              have hz0 := ints_at (xs := endsF Ls many (cs.take i)) (s := 0) (by decide) (by omega)
              have l0 : 0 < (endsF Ls many (cs.take i)).length := by omega
              rw [show (0 : Int).toNat = 0 from rfl, getD_of l0, y2 _ (List.getElem_mem l0)] at hz0
              refine ⟨_, rfl, eb, _, _, _, rfl, rfl, SqL.of ((Same.new hq2) _ _ g5), hz0, _, rfl, by show 3 ≤ sizeLine; decide, fun t6 ht6 => ?_⟩
              refine k t6 _ i ((t15.trans (Same.new hq2)).trans (Same.new ht6)) (.inl ⟨?_, ?_⟩) ⟨hlk, fun j hj hji => hno j hji hj, .inl ?_⟩
              · rw [ese]
                exact l1
              · rw [ese, y1]
                exact SqT.of upd_same
              · unfold oneF
                rw [ese]
                exact decide_eq_true l1
            · refine nxt _ (Same.new hq2) fun _ => ?_
              unfold oneF
              rw [ese, ← e1]
              exact Bool.eq_false_iff.mpr h1c
          · refine nxt H5 (Same.refl H5) fun hl => ?_
            exact absurd (decide_eq_true (List.mem_map.mpr ⟨i, (isl.mem i).mpr hl, rfl⟩)) hin
      · rintro σ H5 ⟨t4, ea, u, v, rfl, g4, hno⟩
        rw [Nat.add_sub_cancel] at g4
        have t14 := t3.trans t4
        obtain ⟨el, ei⟩ := ends_ok ok (cok.take last)
        have ese := sel_all ok cok last
        have pk : Pick b cs.length (oneF Ls many (upto many) cs) last := pick_end isl hlast fun j x hx => by
          have hx' := List.mem_of_getElem? hx
          have hxl := (isl.mem x).mp hx'
          refine hno x ?_ hxl
          obtain ⟨a1, a2⟩ := List.getElem?_eq_some_iff.mp hx
          rw [List.getLast?_eq_getElem?] at hlast
          obtain ⟨b1, b2⟩ := List.getElem?_eq_some_iff.mp hlast
          rcases Nat.lt_or_ge j (ks.length - 1) with c | c
          · have := List.pairwise_iff_getElem.mp isl.asc j (ks.length - 1) a1 b1 c
            omega
          · have : j = ks.length - 1 := by omega
            subst this
            omega
        have p0 := hno last (Nat.lt_succ_self _) pk.at_
        have n1 : (lotF (endsF Ls many (cs.take last))).length ≠ 1 := fun e => by
          unfold oneF at p0
          rw [ese, decide_eq_true e] at p0
          cases p0
        refine ⟨_, rfl, ea, _, rfl, .inl (SqL.of g4), by omega, ei.in12 m12, fun l6 H6 s6 g6 => ?_⟩
        refine ⟨_, rfl, 1, rfl, D, _, _, _, rfl, rfl, SqL.of (s6 _ _ (t4 _ _ g3)), hat, by show 3 ≤ sizeLine; decide, fun t7 ht7 => ?_⟩
        refine k t7 _ last ((t14.trans s6).trans (Same.new ht7)) (.inr ⟨?_, l6, SqT.of upd_same, ?_⟩) pk
        · rw [ese]
          exact n1
        · rw [ese]
          exact SqT.of ((Same.new ht7) _ _ g6)
end
end Law

namespace Law
open PySem L2
/-- the same as data -/
def resD (k : Nat) (e : List Int) : PyData := if (lotF e).length = 1 then .tuple [.str "told", .int ((lotF e).headD 0), .int (k : Int)] else .tuple [.str "undecided", tupD (lotF e), .int (k : Int)]
theorem dp_res {K : PySem.W.Frag} {H : Hp} {t : Addr} {k : Nat} {e : List Int} (h : ResAt K H t k e) : Dp K H (.ref t) (resD k e) := by
  unfold resD
  rcases h with ⟨a, b⟩ | ⟨a, l, b, c⟩
  · rw [if_pos a]
    exact .tup b (.cons (.str _) (.cons (.int _) (.cons (.int _) .nil)))
  · rw [if_neg a]
    exact .tup b (.cons (.str _) (.cons (.tup c (dp_ints _)) (.cons (.int _) .nil)))
theorem ok_tld : PyData.strOk (Str.ofString "told") = true := by decide +kernel
theorem ok_und : PyData.strOk (Str.ofString "undecided") = true := by decide +kernel
theorem lay_res (k : Nat) (e : List Int) : (resD k e).canLay0 = true ∧ (resD k e).depth ≤ 2 := by
  have h := lay_tupD (lotF e)
  unfold resD
  split
  · refine ⟨?_, ?_⟩
    · simp only [PyData.canLay0, PyData.canLayAll0, ok_tld, Bool.and_self]
    · simp only [PyData.depth, PyData.depthAll]
      omega
  · refine ⟨?_, ?_⟩
    · simp only [PyData.canLay0, PyData.canLayAll0, h.1, ok_und, Bool.and_self]
    · simp only [PyData.depth, PyData.depthAll]
      omega
theorem sh_res (k : Nat) (e : List Int) : SeqAt.shaped (resD k e) = true := shaped_of (lay_res k e) (by decide)
theorem eq_res (k : Nat) (e : List Int) : PyData.eqv (resD k e) (resD k e) = true := SeqAt.eqv_refl _ (lay_res k e).1
theorem lot_two {many : Nat} {Ls : List (List Int)} (ok : LdOk many Ls) {cs : List Int} (hc : CsOk Ls.length cs) (k : Nat) (h : (lotF (selF Ls many (upto many) cs k)).length ≠ 1) : 2 ≤ (lotF (selF Ls many (upto many) cs k)).length := by
  obtain ⟨si, sl⟩ := sel_in ok (upto_in many) hc k
  rw [upto_len] at sl
  have m1 := ok.m1
  have l0 : 0 < (selF Ls many (upto many) cs k).length := by omega
  have hm := (lot_mem (si.in12 ok.m2) _).mpr (List.getElem_mem l0)
  have := List.length_pos_of_mem hm
  omega
section
variable {P : Program} {w : World} {K : PySem.W.Frag} {mg : Str → Option Value} {base : Heap}
def spRight (K : PySem.W.Frag) (C : Addr) : Sp := fun vs H Q _ => ∃ (wd sy ca : Addr) (many : Nat) (Ls : List (List Int)) (ws cs : List Int), vs = [.ref wd, .ref sy, .ref ca] ∧ WAt K H wd many Ls ws ∧ WOk many Ls ws ∧ SysAt K C H sy many (movesF Ls ws) ∧ SqT K H ca (cs.map V.int) ∧ CsOk Ls.length cs ∧ cs.length ≤ 400 ∧ ∀ H', Same H H' → Q (.bl true) H'
theorem str_tu : decide (V.str ("told" : Str) = V.str ("undecided" : Str)) = false := decide_eq_false fun e => absurd (V.str.inj e) (by decide +kernel)
theorem str_ut : decide (V.str ("undecided" : Str) = V.str ("told" : Str)) = false := decide_eq_false fun e => absurd (V.str.inj e) (by decide +kernel)
abbrev plV : List V := [.str "one", .str "double"]
end
end Law

namespace Law
open PySem L2
/-! ### stretches of weights, and what bits tell -/
def pre (ws : List Int) (k : Nat) : Int := (ws.take k).sum
theorem pre_succ {ws : List Int} {k : Nat} (h : k < ws.length) : pre ws (k + 1) = pre ws k + ws.getD k 0 := by
  unfold pre
  rw [List.take_add_one, List.getElem?_eq_getElem h, getD_of h, List.sum_append]
  show _ + [ws[k]].sum = _
  rw [List.sum_cons, List.sum_nil, Int.add_zero]
theorem pre_all (ws : List Int) : pre ws ws.length = ws.sum := by unfold pre; rw [List.take_length]
theorem pre_zero (ws : List Int) : pre ws 0 = 0 := rfl
theorem getD_mem {α : Type} {xs : List α} {i : Nat} {d : α} (h : i < xs.length) : xs.getD i d ∈ xs := by rw [getD_of h]; exact List.getElem_mem h
theorem pre_mono {ws : List Int} (h : ∀ x ∈ ws, 0 < x) {j k : Nat} (hjk : j ≤ k) (hk : k ≤ ws.length) : pre ws j ≤ pre ws k := by
  induction k with
  | zero =>
    have : j = 0 := by omega
    subst this
    exact Int.le_refl _
  | succ k ih =>
    rcases Nat.lt_or_ge j (k + 1) with c | c
    · have h1 := ih (by omega) (by omega)
      have h2 := h _ (getD_mem (d := 0) (show k < ws.length by omega))
      rw [pre_succ (by omega)]
      omega
    · have : j = k + 1 := by omega
      subst this
      exact Int.le_refl _
def inW (ws : List Int) (num sc : Int) (k : Nat) : Bool := decide (pre ws k * sc ≤ num * ws.sum) && decide ((num + 1) * ws.sum ≤ pre ws (k + 1) * sc)
theorem inW_iff {ws : List Int} {num sc : Int} {k : Nat} : inW ws num sc k = true ↔ pre ws k * sc ≤ num * ws.sum ∧ (num + 1) * ws.sum ≤ pre ws (k + 1) * sc := by
  unfold inW
  rw [Bool.and_eq_true, decide_eq_true_iff, decide_eq_true_iff]
theorem inW_half {ws : List Int} {num sc b : Int} {k : Nat} (hS : 0 < ws.sum) (hb : b = 0 ∨ b = 1) (h : inW ws num sc k = true) : inW ws (2 * num + b) (2 * sc) k = true := by
  rw [inW_iff] at h ⊢
  obtain ⟨h1, h2⟩ := h
  have e1 : pre ws k * (2 * sc) = 2 * (pre ws k * sc) := by rw [Int.mul_left_comm]
  have e2 : pre ws (k + 1) * (2 * sc) = 2 * (pre ws (k + 1) * sc) := by rw [Int.mul_left_comm]
  have e3 : (2 * num + b) * ws.sum = 2 * (num * ws.sum) + b * ws.sum := by rw [Int.add_mul, Int.mul_assoc]
  have e4 : (2 * num + b + 1) * ws.sum = 2 * (num * ws.sum) + b * ws.sum + ws.sum := by rw [Int.add_mul, e3, Int.one_mul]
  have e5 : (num + 1) * ws.sum = num * ws.sum + ws.sum := by rw [Int.add_mul, Int.one_mul]
  rw [e1, e2, e3, e4]
  rw [e5] at h2
  rcases hb with rfl | rfl
  · omega
  · omega
theorem inW_uniq {ws : List Int} {num sc : Int} {j k : Nat} (hp : ∀ x ∈ ws, 0 < x) (hS : 0 < ws.sum) (h0 : 0 ≤ sc) (hj : j < ws.length) (hk : k < ws.length) (a : inW ws num sc j = true) (b : inW ws num sc k = true) : j = k := by
  rw [inW_iff] at a b
  have e5 : (num + 1) * ws.sum = num * ws.sum + ws.sum := by rw [Int.add_mul, Int.one_mul]
  rw [e5] at a b
  rcases Nat.lt_trichotomy j k with c | c | c
  · have := Int.mul_le_mul_of_nonneg_right (pre_mono hp (show j + 1 ≤ k by omega) (by omega)) h0
    omega
  · exact c
  · have := Int.mul_le_mul_of_nonneg_right (pre_mono hp (show k + 1 ≤ j by omega) (by omega)) h0
    omega
def mvF (ws : List Int) (num sc : Int) : Option Nat := (List.range ws.length).find? (inW ws num sc)
theorem mv_hit {ws : List Int} {num sc : Int} {k : Nat} (hk : k < ws.length) (h : inW ws num sc k = true) (hn : ∀ j, j < k → inW ws num sc j = false) : mvF ws num sc = some k := by
  unfold mvF
  rw [List.find?_eq_some_iff_getElem]
  refine ⟨h, k, by rw [List.length_range]; exact hk, List.getElem_range .., fun j hj => ?_⟩
  rw [List.getElem_range, hn j hj] <;> rfl
theorem mv_none {ws : List Int} {num sc : Int} (hn : ∀ j, j < ws.length → inW ws num sc j = false) : mvF ws num sc = none := by
  unfold mvF
  rw [List.find?_eq_none]
  intro j hj
  rw [hn j (List.mem_range.mp hj)]
  exact Bool.false_ne_true
theorem mv_of {ws : List Int} {num sc : Int} {k : Nat} (h : mvF ws num sc = some k) : k < ws.length ∧ inW ws num sc k = true := ⟨List.mem_range.mp (List.mem_of_find?_eq_some h), List.find?_some h⟩
theorem mv_un {ws : List Int} {num sc : Int} (h : mvF ws num sc = none) {k : Nat} (hk : k < ws.length) : inW ws num sc k = false := by
  unfold mvF at h
  rw [List.find?_eq_none] at h
  exact Bool.eq_false_iff.mpr (h k (List.mem_range.mpr hk))
/-- the move that bits tell, and by how many -/
def mbG (ws : List Int) : List Int → Int → Int → Nat → Option (Nat × Nat)
  | [], _, _, _ => none
  | b :: bs, num, sc, at_ => match mvF ws (2 * num + b) (2 * sc) with
    | some k => some (k, at_ + 1)
    | none => mbG ws bs (2 * num + b) (2 * sc) (at_ + 1)
def mbF (ws : List Int) (bits : List Int) : Option (Nat × Nat) := mbG ws bits 0 1 0
def foldN (num : Int) (bs : List Int) : Int := bs.foldl (fun a b => 2 * a + b) num
def IsB (bs : List Int) : Prop := ∀ b ∈ bs, b = 0 ∨ b = 1
theorem two_pow_succ' (sc : Int) (n : Nat) : 2 * sc * 2 ^ n = sc * 2 ^ (n + 1) := by
  rw [Int.pow_succ, Int.mul_comm 2 sc, Int.mul_assoc, Int.mul_comm 2 (2 ^ n)]
theorem inW_ext {ws : List Int} (hS : 0 < ws.sum) : ∀ (bs : List Int) (num sc : Int) (k : Nat), IsB bs → inW ws num sc k = true → inW ws (foldN num bs) (sc * 2 ^ bs.length) k = true
  | [], num, sc, k, _, h => by
    rw [List.length_nil, Int.pow_zero, Int.mul_one]
    exact h
  | b :: bs, num, sc, k, hb, h => by
    have z := inW_ext hS bs (2 * num + b) (2 * sc) k (fun x hx => hb x (List.mem_cons_of_mem _ hx)) (inW_half hS (hb b List.mem_cons_self) h)
    rw [two_pow_succ'] at z
    exact z
theorem mb_sound {ws : List Int} (hS : 0 < ws.sum) : ∀ (bs : List Int) (num sc : Int) (at_ k u : Nat), IsB bs → mbG ws bs num sc at_ = some (k, u) → k < ws.length ∧ inW ws (foldN num bs) (sc * 2 ^ bs.length) k = true ∧ at_ + 1 ≤ u ∧ u ≤ at_ + bs.length
  | [], _, _, _, _, _, _, h => nomatch h
  | b :: bs, num, sc, at_, k, u, hb, h => by
    have hbs : IsB bs := fun x hx => hb x (List.mem_cons_of_mem _ hx)
    unfold mbG at h
    rw [List.length_cons]
    cases e : mvF ws (2 * num + b) (2 * sc) with
    | some j =>
      rw [e] at h
      cases h
      obtain ⟨h1, h2⟩ := mv_of e
      have z := inW_ext hS bs _ _ k hbs h2
      rw [two_pow_succ'] at z
      exact ⟨h1, z, by omega, by omega⟩
    | none =>
      rw [e] at h
      obtain ⟨h1, h2, h3, h4⟩ := mb_sound hS bs _ _ _ _ _ hbs h
      rw [two_pow_succ'] at h2
      exact ⟨h1, h2, by omega, by omega⟩
theorem mb_full {ws : List Int} (hp : ∀ x ∈ ws, 0 < x) (hS : 0 < ws.sum) : ∀ (bs : List Int) (num sc : Int) (at_ k : Nat), IsB bs → bs ≠ [] → 0 ≤ sc → k < ws.length → inW ws (foldN num bs) (sc * 2 ^ bs.length) k = true → ∃ u, mbG ws bs num sc at_ = some (k, u)
  | [], _, _, _, _, _, h, _, _, _ => absurd rfl h
  | b :: bs, num, sc, at_, k, hb, _, h0, hk, h => by
    have hbs : IsB bs := fun x hx => hb x (List.mem_cons_of_mem _ hx)
    rw [List.length_cons, ← two_pow_succ'] at h
    have h : inW ws (foldN (2 * num + b) bs) (2 * sc * 2 ^ bs.length) k = true := h
    unfold mbG
    cases e : mvF ws (2 * num + b) (2 * sc) with
    | some j =>
      obtain ⟨h1, h2⟩ := mv_of e
      have z := inW_ext hS bs _ _ j hbs h2
      have pz : (0 : Int) ≤ 2 * sc * 2 ^ bs.length := Int.mul_nonneg (by omega) (Int.le_of_lt (Int.pow_pos (by decide)))
      have : j = k := inW_uniq hp hS pz h1 hk z h
      subst this
      exact ⟨_, rfl⟩
    | none =>
      cases bs with
      | nil =>
        rw [List.length_nil, Int.pow_zero, Int.mul_one] at h
        have := mv_un e hk
        have h : inW ws (2 * num + b) (2 * sc) k = true := h
        rw [this] at h
        cases h
      | cons c cs => exact mb_full hp hS (c :: cs) _ _ _ _ hbs (by simp) (by omega) hk h
/-! ### counting -/
def flW (ws : List Int) (sc : Int) (k : Nat) : Int := pre ws k * sc / ws.sum
def ceW (ws : List Int) (sc : Int) (k : Nat) : Int := (pre ws k * sc + ws.sum - 1) / ws.sum
def cntF (ws : List Int) (m k : Nat) : Int := if m = 0 then 0 else (if flW ws (2 ^ m) (k + 1) - ceW ws (2 ^ m) k > 0 then flW ws (2 ^ m) (k + 1) - ceW ws (2 ^ m) k else 0)
theorem ce_le {ws : List Int} {sc x : Int} {k : Nat} (hS : 0 < ws.sum) : ceW ws sc k ≤ x ↔ pre ws k * sc ≤ x * ws.sum := by
  unfold ceW
  have h := Int.ediv_lt_iff_lt_mul (a := pre ws k * sc + ws.sum - 1) (b := x + 1) hS
  rw [Int.add_mul, Int.one_mul] at h
  omega
theorem le_fl {ws : List Int} {sc x : Int} {k : Nat} (hS : 0 < ws.sum) : x ≤ flW ws sc k ↔ x * ws.sum ≤ pre ws k * sc := Int.le_ediv_iff_mul_le hS
theorem inW_cf {ws : List Int} {num sc : Int} {k : Nat} (hS : 0 < ws.sum) : inW ws num sc k = (decide (ceW ws sc k ≤ num) && decide (num + 1 ≤ flW ws sc (k + 1))) := by
  rw [Bool.eq_iff_iff, inW_iff, Bool.and_eq_true, decide_eq_true_iff, decide_eq_true_iff, ce_le hS, le_fl hS]
theorem count_upto (lo hi : Int) (h0 : 0 ≤ lo) : ∀ n : Nat, (((upto n).countP fun x => decide (lo ≤ x) && decide (x + 1 ≤ hi) : Nat) : Int) = (if min hi (n : Int) - lo > 0 then min hi (n : Int) - lo else 0)
  | 0 => by
    have e : min hi ((0 : Nat) : Int) ≤ 0 := Int.min_le_right ..
    rw [if_neg (show ¬ (min hi ((0 : Nat) : Int) - lo > 0) by omega)]
    rfl
  | n + 1 => by
    rw [upto_snoc, List.countP_append, Int.natCast_add, count_upto lo hi h0 n]
    have e : (([((n : Nat) : Int)].countP fun x => decide (lo ≤ x) && decide (x + 1 ≤ hi) : Nat) : Int) = if lo ≤ (n : Int) ∧ (n : Int) + 1 ≤ hi then 1 else 0 := by
      by_cases c : lo ≤ (n : Int) ∧ (n : Int) + 1 ≤ hi
      · rw [if_pos c, List.countP_cons_of_pos (by rw [decide_eq_true c.1, decide_eq_true c.2]; rfl)]
        rfl
      · rw [if_neg c, List.countP_cons_of_neg]
        · rfl
        · intro z
          rw [Bool.and_eq_true, decide_eq_true_iff, decide_eq_true_iff] at z
          exact c z
    rw [e]
    simp only [Int.min_def]
    repeat' split
    all_goals omega
theorem fl_bound {ws : List Int} (hp : ∀ x ∈ ws, 0 < x) (hS : 0 < ws.sum) {sc : Int} (h0 : 0 ≤ sc) {k : Nat} (hk : k ≤ ws.length) : flW ws sc k ≤ sc := by
  have h1 : pre ws k * sc ≤ sc * ws.sum := by
    have := Int.mul_le_mul_of_nonneg_right (pre_mono hp hk (Nat.le_refl _)) h0
    rw [pre_all, Int.mul_comm ws.sum] at this
    exact this
  rcases Int.lt_or_le sc (flW ws sc k) with c | c
  · have := (le_fl (sc := sc) (k := k) (x := sc + 1) hS).mp (by omega)
    rw [Int.add_mul, Int.one_mul] at this
    omega
  · exact c
theorem pre_nn {ws : List Int} (hp : ∀ x ∈ ws, 0 < x) {k : Nat} (hk : k ≤ ws.length) : 0 ≤ pre ws k := pre_mono hp (Nat.zero_le k) hk
theorem ce_nn {ws : List Int} (hp : ∀ x ∈ ws, 0 < x) (hS : 0 < ws.sum) {sc : Int} (h0 : 0 ≤ sc) {k : Nat} (hk : k ≤ ws.length) : 0 ≤ ceW ws sc k := by
  have := Int.mul_nonneg (pre_nn hp hk) h0
  exact Int.ediv_nonneg (by omega) (by omega)
/-- all rows of so many bits -/
def allR : Nat → List (List Int)
  | 0 => [[]]
  | m + 1 => (allR m).flatMap fun r => [r ++ [0], r ++ [1]]
theorem allR_len (m : Nat) : ∀ r ∈ allR m, r.length = m ∧ IsB r := by
  induction m with
  | zero =>
    intro r hr
    rw [List.mem_singleton.mp hr]
    exact ⟨rfl, fun b hb => absurd hb List.not_mem_nil⟩
  | succ m ih =>
    intro r hr
    obtain ⟨q, hq, h⟩ := List.mem_flatMap.mp hr
    obtain ⟨h1, h2⟩ := ih q hq
    have key : ∀ c : Int, (c = 0 ∨ c = 1) → (q ++ [c]).length = m + 1 ∧ IsB (q ++ [c]) := fun c hc => ⟨by rw [List.length_append, h1] <;> rfl, fun b hb => by
      rcases List.mem_append.mp hb with z | z
      · exact h2 b z
      · rw [List.mem_singleton.mp z]
        exact hc⟩
    simp only [List.mem_cons, List.not_mem_nil, or_false] at h
    rcases h with rfl | rfl
    · exact key 0 (.inl rfl)
    · exact key 1 (.inr rfl)
theorem upto_double : ∀ n : Nat, (upto n).flatMap (fun x => [2 * x + 0, 2 * x + 1]) = upto (2 * n)
  | 0 => rfl
  | n + 1 => by
    rw [upto_snoc, List.flatMap_append, upto_double n, show 2 * (n + 1) = 2 * n + 1 + 1 by omega, upto_snoc, upto_snoc, List.append_assoc]
    show upto (2 * n) ++ [2 * (n : Int) + 0, 2 * (n : Int) + 1] = upto (2 * n) ++ [((2 * n : Nat) : Int), ((2 * n + 1 : Nat) : Int)]
    rw [Int.natCast_add, Int.natCast_mul, Int.add_zero] <;> rfl
theorem allR_num (m : Nat) : (allR m).map (foldN 0) = upto (2 ^ m) := by
  induction m with
  | zero => rfl
  | succ m ih =>
    show ((allR m).flatMap fun r => [r ++ [0], r ++ [1]]).map (foldN 0) = _
    rw [List.map_flatMap]
    have e : (fun r : List Int => [r ++ [0], r ++ [1]].map (foldN 0)) = fun r => (fun x => [2 * x + 0, 2 * x + 1]) (foldN 0 r) := by
      funext r
      show [foldN 0 (r ++ [0]), foldN 0 (r ++ [1])] = _
      unfold foldN
      rw [List.foldl_append, List.foldl_append] <;> rfl
    rw [e]
    refine (List.flatMap_map (foldN 0) (fun x => [2 * x + 0, 2 * x + 1]) (allR m)).symm.trans ?_
    rw [ih, upto_double, Nat.pow_succ, Nat.mul_comm]
/-- how many of some rows tell a move -/
def tellsB (ws : List Int) (k : Nat) (r : List Int) : Bool := match mbF ws r with
  | some (j, _) => decide (j = k)
  | none => false
theorem tells_iff {ws : List Int} (hp : ∀ x ∈ ws, 0 < x) (hS : 0 < ws.sum) {m k : Nat} (hm : m ≠ 0) (hk : k < ws.length) {r : List Int} (hr : r.length = m) (hb : IsB r) : tellsB ws k r = inW ws (foldN 0 r) (2 ^ m) k := by
  have hne : r ≠ [] := fun z => by
    rw [z] at hr
    exact hm hr.symm
  rw [Bool.eq_iff_iff]
  unfold tellsB
  constructor
  · intro h
    cases e : mbF ws r with
    | none =>
      rw [e] at h
      cases h
    | some q =>
      obtain ⟨j, u⟩ := q
      rw [e] at h
      have h : j = k := of_decide_eq_true h
      subst h
      have z := (mb_sound hS r 0 1 0 j u hb e).2.1
      rw [Int.one_mul, hr] at z
      exact z
  · intro h
    have h' : inW ws (foldN 0 r) (1 * 2 ^ r.length) k = true := by rw [Int.one_mul, hr]; exact h
    obtain ⟨u, e⟩ := mb_full hp hS r 0 1 0 k hb hne (by decide) hk h'
    have e : mbF ws r = some (k, u) := e
    rw [e]
    exact decide_eq_true rfl
theorem pow_cast (m : Nat) : ((2 ^ m : Nat) : Int) = 2 ^ m := by
  induction m with
  | zero => rfl
  | succ m ih => rw [Nat.pow_succ, Int.pow_succ, Int.natCast_mul, ih] <;> rfl
theorem count_all {ws : List Int} (hp : ∀ x ∈ ws, 0 < x) (hS : 0 < ws.sum) {m k : Nat} (hk : k < ws.length) : (((allR m).countP (tellsB ws k) : Nat) : Int) = cntF ws m k := by
  unfold cntF
  by_cases hm : m = 0
  · subst hm
    rw [if_pos rfl]
    rfl
  · rw [if_neg hm]
    have p2 : (0 : Int) ≤ 2 ^ m := Int.le_of_lt (Int.pow_pos (by decide))
    have e1 : (allR m).countP (tellsB ws k) = ((allR m).map (foldN 0)).countP fun x => decide (ceW ws (2 ^ m) k ≤ x) && decide (x + 1 ≤ flW ws (2 ^ m) (k + 1)) := by
      rw [List.countP_map]
      refine List.countP_congr fun r hr => ?_
      obtain ⟨h1, h2⟩ := allR_len m r hr
      show tellsB ws k r = true ↔ (decide (ceW ws (2 ^ m) k ≤ foldN 0 r) && decide (foldN 0 r + 1 ≤ flW ws (2 ^ m) (k + 1))) = true
      rw [tells_iff hp hS hm hk h1 h2, inW_cf hS]
    rw [e1, allR_num, count_upto _ _ (ce_nn hp hS p2 (by omega)), pow_cast]
    have := fl_bound hp hS p2 (k := k + 1) (by omega)
    rw [Int.min_eq_left this]
theorem cnt_nn (ws : List Int) (m k : Nat) : 0 ≤ cntF ws m k := by
  unfold cntF
  split
  · exact Int.le_refl _
  · split <;> omega
def cntL (ws : List Int) (m : Nat) : List Int := (List.range ws.length).map (cntF ws m)
theorem cntL_len (ws : List Int) (m : Nat) : (cntL ws m).length = ws.length := by unfold cntL; rw [List.length_map, List.length_range]
theorem cnt_le {ws : List Int} (hp : ∀ x ∈ ws, 0 < x) (hS : 0 < ws.sum) {m k : Nat} (hk : k < ws.length) : cntF ws m k * ws.sum ≤ ws.getD k 0 * 2 ^ m := by
  have p2 : (0 : Int) < 2 ^ m := Int.pow_pos (by decide)
  have hw := hp _ (getD_mem (d := 0) hk)
  have pw := Int.mul_pos hw p2
  unfold cntF
  split
  · omega
  · split
    · have h1 := (le_fl (sc := 2 ^ m) (x := flW ws (2 ^ m) (k + 1)) (k := k + 1) hS).mp (Int.le_refl _)
      have h2 := (ce_le (sc := 2 ^ m) (x := ceW ws (2 ^ m) k) (k := k) hS).mp (Int.le_refl _)
      rw [pre_succ hk, Int.add_mul] at h1
      rw [Int.sub_mul]
      omega
    · omega
theorem cnt_double {ws : List Int} (hS : 0 < ws.sum) {m k : Nat} : 2 * cntF ws m k ≤ cntF ws (m + 1) k := by
  have nn := cnt_nn ws (m + 1) k
  by_cases hm : m = 0
  · unfold cntF at nn ⊢
    rw [if_pos hm]
    omega
  · have h1 := (le_fl (sc := 2 ^ m) (x := flW ws (2 ^ m) (k + 1)) (k := k + 1) hS).mp (Int.le_refl _)
    have h2 := (ce_le (sc := 2 ^ m) (x := ceW ws (2 ^ m) k) (k := k) hS).mp (Int.le_refl _)
    have e : (2 : Int) ^ (m + 1) = 2 * 2 ^ m := by rw [Int.pow_succ, Int.mul_comm]
    have h3 : 2 * flW ws (2 ^ m) (k + 1) ≤ flW ws (2 ^ (m + 1)) (k + 1) := (le_fl hS).mpr (by
      rw [e, Int.mul_assoc, Int.mul_left_comm (pre ws (k + 1))]
      omega)
    have h4 : ceW ws (2 ^ (m + 1)) k ≤ 2 * ceW ws (2 ^ m) k := (ce_le hS).mpr (by
      rw [e, Int.mul_assoc, Int.mul_left_comm (pre ws k)]
      omega)
    unfold cntF at nn ⊢
    rw [if_neg hm]
    rw [if_neg (show ¬ m + 1 = 0 by omega)] at nn ⊢
    split at nn <;> split <;> first | omega | (rw [if_pos (by assumption)] <;> omega) | (rw [if_neg (by assumption)] <;> omega)
theorem ce_fl {ws : List Int} (hS : 0 < ws.sum) {sc : Int} {k : Nat} : ceW ws sc k ≤ flW ws sc k + 1 := (ce_le hS).mpr (by
  have h : ¬ (flW ws sc k + 1 ≤ flW ws sc k) := by omega
  rw [le_fl hS] at h
  omega)
theorem cnt_sum {ws : List Int} (hp : ∀ x ∈ ws, 0 < x) (hS : 0 < ws.sum) (m : Nat) : 2 ^ m - (cntL ws m).sum ≤ ((ws.length : Nat) : Int) ∧ 0 ≤ (cntL ws m).sum ∧ (cntL ws m).sum ≤ 2 ^ m := by
  have p2 : (0 : Int) < 2 ^ m := Int.pow_pos (by decide)
  have l1 : 0 < ws.length := by
    rcases Nat.eq_zero_or_pos ws.length with c | c
    · rw [List.eq_nil_of_length_eq_zero c] at hS
      exact absurd hS (by decide)
    · exact c
  have key : ∀ n, n ≤ ws.length → 0 ≤ (((List.range n).map (cntF ws m)).sum) ∧ (((List.range n).map (cntF ws m)).sum) ≤ (if m = 0 then 0 else flW ws (2 ^ m) n) ∧ (m ≠ 0 → flW ws (2 ^ m) n - (n : Int) ≤ ((List.range n).map (cntF ws m)).sum) := by
    intro n hn
    induction n with
    | zero =>
      have z : flW ws (2 ^ m) 0 = 0 := by
        unfold flW
        rw [pre_zero, Int.zero_mul, Int.zero_ediv]
      rw [z]
      refine ⟨Int.le_refl _, ?_, fun _ => ?_⟩
      · split <;> exact Int.le_refl _
      · show (0 : Int) - ((0 : Nat) : Int) ≤ 0
        decide
    | succ n ih =>
      obtain ⟨a, b, c⟩ := ih (by omega)
      have nn := cnt_nn ws m n
      rw [List.range_succ, List.map_append, List.sum_append]
      show 0 ≤ _ + [cntF ws m n].sum ∧ _ + [cntF ws m n].sum ≤ _ ∧ (_ → _ ≤ _ + [cntF ws m n].sum)
      rw [List.sum_cons, List.sum_nil, Int.add_zero]
      by_cases hm : m = 0
      · rw [if_pos hm] at b ⊢
        have z : cntF ws m n = 0 := by unfold cntF; rw [if_pos hm]
        exact ⟨by omega, by omega, fun h => absurd hm h⟩
      · rw [if_neg hm] at b ⊢
        have c := c hm
        have cf := ce_fl (sc := 2 ^ m) (k := n) hS
        have fc : flW ws (2 ^ m) n ≤ ceW ws (2 ^ m) n := by
          have h1 := (le_fl (sc := 2 ^ m) (x := flW ws (2 ^ m) n) (k := n) hS).mp (Int.le_refl _)
          have h2 := (ce_le (sc := 2 ^ m) (x := ceW ws (2 ^ m) n) (k := n) hS).mp (Int.le_refl _)
          exact Int.le_of_mul_le_mul_right (Int.le_trans h1 h2) hS
        have fm : flW ws (2 ^ m) n ≤ flW ws (2 ^ m) (n + 1) := (le_fl hS).mpr (by
          have h1 := (le_fl (sc := 2 ^ m) (x := flW ws (2 ^ m) n) (k := n) hS).mp (Int.le_refl _)
          have := Int.mul_le_mul_of_nonneg_right (pre_mono hp (show n ≤ n + 1 by omega) (by omega)) (Int.le_of_lt p2)
          omega)
        have ee : cntF ws m n = (if flW ws (2 ^ m) (n + 1) - ceW ws (2 ^ m) n > 0 then flW ws (2 ^ m) (n + 1) - ceW ws (2 ^ m) n else 0) := by
          unfold cntF
          rw [if_neg hm]
        rw [ee]
        refine ⟨?_, ?_, fun _ => ?_⟩
        · split <;> omega
        · split <;> omega
        · rw [Int.natCast_add]
          split <;> omega
  obtain ⟨a, b, c⟩ := key ws.length (Nat.le_refl _)
  unfold cntL
  by_cases hm : m = 0
  · subst hm
    rw [if_pos rfl] at b
    refine ⟨?_, a, ?_⟩
    · rw [Int.pow_zero]
      omega
    · rw [Int.pow_zero]
      omega
  · rw [if_neg hm] at b
    have fl1 : flW ws (2 ^ m) ws.length = 2 ^ m := by
      unfold flW
      rw [pre_all]
      exact Int.mul_ediv_cancel_left _ (by omega)
    have c := c hm
    rw [fl1] at b c
    exact ⟨by omega, a, b⟩
end Law
namespace Law
open PySem L2
/-- the ends of the moves' stretches over one bottom -/
structure EnOk (ws E : List Int) (L : Int) : Prop where
  wn : ws ≠ []
  wp : ∀ x ∈ ws, 0 < x
  ws0 : 0 < ws.sum
  w24 : ws.length ≤ 24
  s40 : ws.sum < 2 ^ 40
  lp : 0 < L
  lb : L.natAbs < 2 ^ 1489
  el : E.length = ws.length + 1
  eq : ∀ k, k ≤ ws.length → ws.sum * E.getD k 0 = pre ws k * L
theorem EnOk.nn {ws E : List Int} {L : Int} (h : EnOk ws E L) {k : Nat} (hk : k ≤ ws.length) : 0 ≤ E.getD k 0 ∧ E.getD k 0 ≤ L := by
  have e := h.eq k hk
  have p0 := pre_nn h.wp hk
  have p1 := pre_mono h.wp hk (Nat.le_refl _)
  rw [pre_all] at p1
  have a := Int.mul_nonneg p0 (Int.le_of_lt h.lp)
  have b := Int.mul_le_mul_of_nonneg_right p1 (Int.le_of_lt h.lp)
  refine ⟨?_, ?_⟩
  · rw [← e] at a
    refine Int.le_of_mul_le_mul_left (a := ws.sum) ?_ h.ws0
    rw [Int.mul_zero]
    exact a
  · rw [← e] at b
    exact Int.le_of_mul_le_mul_left b h.ws0
theorem EnOk.inW {ws E : List Int} {L : Int} (h : EnOk ws E L) {num sc : Int} {k : Nat} (hk : k < ws.length) : inW ws num sc k = (decide (E.getD k 0 * sc ≤ num * L) && decide ((num + 1) * L ≤ E.getD (k + 1) 0 * sc)) := by
  have key : ∀ (j : Nat) (x : Int), j ≤ ws.length → ws.sum * (E.getD j 0 * sc) = L * (pre ws j * sc) := fun j x hj => by
    rw [← Int.mul_assoc, h.eq j hj, Int.mul_comm (pre ws j) L, Int.mul_assoc]
  have e1 := key k 0 (by omega)
  have e2 := key (k + 1) 0 (by omega)
  rw [Bool.eq_iff_iff, inW_iff, Bool.and_eq_true, decide_eq_true_iff, decide_eq_true_iff]
  have a : pre ws k * sc ≤ num * ws.sum ↔ E.getD k 0 * sc ≤ num * L := by
    rw [← Int.mul_le_mul_left h.lp, ← e1, show L * (num * ws.sum) = ws.sum * (num * L) by rw [Int.mul_comm L, Int.mul_comm num, Int.mul_assoc]]
    exact Int.mul_le_mul_left h.ws0
  have b : (num + 1) * ws.sum ≤ pre ws (k + 1) * sc ↔ (num + 1) * L ≤ E.getD (k + 1) 0 * sc := by
    rw [← Int.mul_le_mul_left h.lp, ← e2, show L * ((num + 1) * ws.sum) = ws.sum * ((num + 1) * L) by rw [Int.mul_comm L, Int.mul_comm (num + 1), Int.mul_assoc]]
    exact Int.mul_le_mul_left h.ws0
  rw [a, b]
theorem div_same {a b c d : Int} (hb : 0 < b) (hd : 0 < d) (h : a * d = c * b) : a / b = c / d := by
  have e1 : a * d / (b * d) = a / b := Int.mul_ediv_mul_of_pos_left a b hd
  have e2 : c * b / (d * b) = c / d := Int.mul_ediv_mul_of_pos_left c d hb
  rw [← e1, ← e2, h, Int.mul_comm b d]
theorem neg_div {a b : Int} (hb : 0 < b) : -((-a) / b) = (a + b - 1) / b := by
  refine Int.le_antisymm ?_ ?_
  · refine (Int.le_ediv_iff_mul_le hb).mpr ?_
    have h := Int.emod_add_mul_ediv (-a) b
    have h2 := Int.emod_nonneg (-a) (show b ≠ 0 by omega)
    have h3 := Int.emod_lt_of_pos (-a) hb
    rw [Int.neg_mul, Int.mul_comm]
    omega
  · have h := Int.ediv_lt_iff_lt_mul (a := a + b - 1) (b := -((-a) / b) + 1) hb
    have h1 := Int.emod_add_mul_ediv (-a) b
    have h2 := Int.emod_nonneg (-a) (show b ≠ 0 by omega)
    have h3 : a + b - 1 < (-((-a) / b) + 1) * b := by
      rw [Int.add_mul, Int.neg_mul, Int.mul_comm _ b, Int.one_mul]
      omega
    have := h.mpr h3
    omega
theorem EnOk.cnt {ws E : List Int} {L : Int} (h : EnOk ws E L) {m k : Nat} (hm : m ≠ 0) (hk : k < ws.length) :
    (if E.getD (k + 1) 0 * 2 ^ m / L - -(-E.getD k 0 * 2 ^ m / L) > 0 then E.getD (k + 1) 0 * 2 ^ m / L - -(-E.getD k 0 * 2 ^ m / L) else 0) = cntF ws m k := by
  have e1 : E.getD (k + 1) 0 * 2 ^ m / L = flW ws (2 ^ m) (k + 1) := div_same h.lp h.ws0 (by
    rw [Int.mul_right_comm, Int.mul_comm (E.getD (k + 1) 0), h.eq (k + 1) (by omega), Int.mul_right_comm])
  have e2 : -E.getD k 0 * 2 ^ m / L = -(pre ws k * 2 ^ m) / ws.sum := div_same h.lp h.ws0 (by
    rw [Int.neg_mul, Int.neg_mul, Int.neg_mul, Int.mul_right_comm, Int.mul_comm (E.getD k 0), h.eq k (by omega), Int.mul_right_comm])
  unfold cntF
  rw [if_neg hm, e1, e2, neg_div h.ws0] <;> rfl
theorem fold_bound : ∀ (bs : List Int) (num : Int), IsB bs → 0 ≤ num → 0 ≤ foldN num bs ∧ foldN num bs < (num + 1) * 2 ^ bs.length
  | [], num, _, h => by
    rw [List.length_nil, Int.pow_zero, Int.mul_one]
    exact ⟨h, by show num < num + 1; omega⟩
  | b :: bs, num, hb, h => by
    have hb0 := hb b List.mem_cons_self
    obtain ⟨h1, h2⟩ := fold_bound bs (2 * num + b) (fun x hx => hb x (List.mem_cons_of_mem _ hx)) (by omega)
    refine ⟨h1, Int.lt_of_lt_of_le h2 ?_⟩
    rw [List.length_cons, Int.pow_succ, Int.mul_comm (2 ^ bs.length), ← Int.mul_assoc]
    exact Int.mul_le_mul_of_nonneg_right (by omega) (Int.le_of_lt (Int.pow_pos (by decide)))
theorem fold_snoc (bs : List Int) (b : Int) : foldN 0 (bs ++ [b]) = 2 * foldN 0 bs + b := by
  unfold foldN
  rw [List.foldl_append] <;> rfl
def MbAt (K : PySem.W.Frag) (H : Hp) (v : V) (r : Option (Nat × Nat)) : Prop := match r with
  | none => v = .non
  | some (k, u) => ∃ t, v = .ref t ∧ SqT K H t [.int (k : Int), .int (u : Int)]
theorem MbAt.same {K : PySem.W.Frag} {H H' : Hp} {v : V} {r : Option (Nat × Nat)} (s : Same H H') (h : MbAt K H v r) : MbAt K H' v r := by
  cases r with
  | none => exact h
  | some q =>
    obtain ⟨t, h1, h2⟩ := h
    exact ⟨t, h1, s.sqT h2⟩
def optV : Option Nat → V
  | none => .non
  | some k => .int (k : Int)
theorem cut_to {xs : List V} {i : Nat} : cutV xs none (some (i : Int)) = xs.take i := by
  unfold cutV
  have e0 : HT.sIx xs.length 0 none = 0 := rfl
  rw [HT.sIx_nat, e0, List.drop_zero, Nat.sub_zero]
  rcases Nat.le_total i xs.length with c | c
  · rw [Nat.min_eq_left c]
  · rw [Nat.min_eq_right c, List.take_length, List.take_of_length_le c]
theorem nat_pow_int (m : Nat) : ((2 : Int) ^ m).natAbs = 2 ^ m := by
  rw [← pow_cast, Int.natAbs_natCast]
def spFr (ws : List Int) : List Fr := ws.map fun x => lowP x ws.sum
theorem fr_moves {many : Nat} {Ls : List (List Int)} {ws : List Int} (ok : WOk many Ls ws) : (movesF Ls ws).map (·.1) = spFr ws := by
  unfold movesF spFr
  rw [List.map_map, ← ok.wl]
  show (List.range ws.length).map (fun j => lowP (ws.getD j 0) ws.sum) = _
  have := congrArg (List.map fun x => lowP x ws.sum) (range_getD ws)
  rw [List.map_map] at this
  exact this
theorem en_of {many : Nat} {Ls : List (List Int)} {ws : List Int} (ok : WOk many Ls ws) :
    EnOk ws ((List.range ((topsOf (spFr ws) (lcmAll (spFr ws) : Nat)).length + 1)).map fun k => ((topsOf (spFr ws) (lcmAll (spFr ws) : Nat)).take k).sum) (lcmAll (spFr ws) : Nat) := by
  have wn : ws ≠ [] := fun z => by
    have := ok.wl
    have := ok.l1
    rw [z] at *
    simp at *
    omega
  have wp : ∀ x ∈ ws, 0 < x := fun x hx => (ok.wt x hx).1
  obtain ⟨s0, s1⟩ := sum_pos ws wn wp
  have sB := sum_le (2 ^ 34) ws fun x hx => Int.le_of_lt (ok.wt x hx).2
  have l24 := ok.l2
  have s2 : ws.sum < 2 ^ 40 := by
    rw [ok.wl] at sB
    omega
  have fo : ∀ f ∈ spFr ws, FrOk f := fun f hf => by
    obtain ⟨x, hx, rfl⟩ := List.mem_map.mp hf
    exact (share_ok (wp x hx) (s1 x hx) s2).1
  have fl : (spFr ws).length ≤ 24 := by
    unfold spFr
    rw [List.length_map, ok.wl]
    exact l24
  have lp := lcmAll_pos fo
  have lt := lcmAll_lt fo fl
  have tl : (topsOf (spFr ws) (lcmAll (spFr ws) : Nat)).length = ws.length := by
    unfold topsOf spFr
    rw [List.length_map, List.length_map]
  refine ⟨wn, wp, s0, by rw [ok.wl]; exact l24, s2, by omega, by rw [Int.natAbs_natCast]; exact lt, by rw [List.length_map, List.length_range, tl], fun k hk => ?_⟩
  have e : ((List.range ((topsOf (spFr ws) (lcmAll (spFr ws) : Nat)).length + 1)).map fun k => ((topsOf (spFr ws) (lcmAll (spFr ws) : Nat)).take k).sum).getD k 0 = ((topsOf (spFr ws) (lcmAll (spFr ws) : Nat)).take k).sum := by
    rw [List.getD_eq_getElem?_getD, List.getElem?_map, List.getElem?_range (by rw [tl]; omega)] <;> rfl
  rw [e]
  have e2 : (topsOf (spFr ws) (lcmAll (spFr ws) : Nat)).take k = (ws.take k).map fun x => (lowP x ws.sum).1 * (((lcmAll (spFr ws) : Nat) : Int) / (lowP x ws.sum).2) := by
    unfold topsOf spFr
    rw [List.map_map, ← List.map_take] <;> rfl
  rw [e2]
  refine sum_scale ws.sum _ _ (ws.take k) fun x hx => ?_
  have hx := List.mem_of_mem_take hx
  have d : (lowP x ws.sum).2 ∣ ((lcmAll (spFr ws) : Nat) : Int) := by
    have d0 := dvd_lcmAll (List.mem_map.mpr ⟨x, hx, rfl⟩ : lowP x ws.sum ∈ spFr ws)
    exact Int.ofNat_dvd_right.mpr d0
  show ws.sum * ((lowP x ws.sum).1 * (_ / (lowP x ws.sum).2)) = _
  rw [← Int.mul_assoc, lowP_cross s0, Int.mul_assoc, Int.mul_ediv_cancel' d]
section
variable {P : Program} {w : World} {K : PySem.W.Frag} {mg : Str → Option Value} {base : Heap}
abbrev nFraction : List Str := ["top", "bottom", "part"]
theorem scFraction : FnScope nFraction ["top", "bottom"] (defScope s_fraction) := ⟨rfl, rfl, rfl, by decide +kernel, rfl, by decide +kernel, by decide +kernel⟩
theorem ok_fraction {f : Addr} {fd : FuncData} (F : Fun K "fraction" "fraction" s_fraction f fd) (T : NmA mg) : FnOk P w K mg base CX0 1 f fd ["top", "bottom"] spLowS := by
  refine F.ok scFraction (fun vs H Q E h => ?_) (fun cdv A' outer s H vs Q E hr h => ?_)
  · obtain ⟨t, b, rfl, _⟩ := h
    rfl
  · obtain ⟨t, b, rfl, ht, hb, hb2, k⟩ := h
    have hu := hu_of hr
    refine ⟨_, pss_cons (ps_set (i := 2) scFraction.nd rfl (Or.inl rfl) (pe_callBfun cr_gcd (by rfl) T.gcd (pa_cons (pv 0) (pa_cons (pv 1) pa_nil))))
      (pss_cons (ps_if (pt_cmpR op_lt (pv 1) pe_int (nomark _))
        (pss_one (ps_set (i := 2) scFraction.nd rfl (Or.inl rfl) (pe_un un_neg (pv 2)))) pss_nil)
      (pss_one (ps_ret (pe_tup (pa_cons (pe_op op_fdivW (pv 0) (pv 2)) (pa_cons (pe_op op_fdivW (pv 1) (pv 2)) pa_nil)))))), ?_⟩
    have gp : (0 : Int) < gI t b := gI_pos hb
    have gl : gI t b ≤ b := gI_le hb
    refine ⟨_, rfl, _, rfl, t, b, rfl, ?_⟩
    refine ⟨_, rfl, _, _, rfl, rfl, _, rfl, ?_⟩
    rw [decide_eq_false (show ¬ b < 0 by omega)]
    have d1 : CDivW t (gI t b) := wide_div (b := 41) gp (by omega) (by decide) (by decide)
    have d2 : CDivW b (gI t b) := wide_div (b := 41) gp (by omega) (by decide) (by decide)
    refine iteF ⟨_, rfl, _, rfl, _, _, rfl, rfl, d1, _, rfl, _, rfl, _, _, rfl, rfl, d2, ?_⟩
    exact ⟨(by show 2 ≤ sizeLine; decide), fun p hp => k p hp⟩
def spFactors (K : PySem.W.Frag) (C : Addr) : Sp := fun vs H Q _ => ∃ (sy : Addr) (many : Nat) (ms : List Mv), vs = [.ref sy] ∧ SysAt K C H sy many ms ∧ SysOk many ms ∧ ∀ t la H', Same H H' → SqT K H' t [.int (lcmAll (ms.map (·.1)) : Nat), .ref la] → H' la = some (.lst ((topsOf (ms.map (·.1)) (lcmAll (ms.map (·.1)) : Nat)).map V.int)) → Q (.ref t) H'
abbrev nFactorsOf : List Str := ["system", "shares", "bottom", "share", "_"]
theorem scFactorsOf : FnScope nFactorsOf ["system"] (defScope s_factors_of) := ⟨rfl, rfl, rfl, by decide +kernel, rfl, by decide +kernel, by decide +kernel⟩
theorem ok_factors_of {f : Addr} {fd : FuncData} {fcComB : Addr} {fdcComB : FuncData} {fcTops : Addr} {fdcTops : FuncData} {C : Addr} (F : Fun K "factors_of" "factors_of" s_factors_of f fd) (T : NmA mg) (cComB : Cl P w K mg base CX0 1 "common_bottom" fcComB fdcComB ["fractions"] (spComB K)) (cTops : Cl P w K mg base CX0 1 "tops_over" fcTops fdcTops ["fractions", "bottom"] (spTops K)) (S : SysT K mg C) : FnOk P w K mg base CX0 2 f fd ["system"] (spFactors K C) := by
  refine F.ok scFactorsOf (fun vs H Q E h => ?_) (fun cdv A' outer s H vs Q E hr h => ?_)
  · obtain ⟨sy, many, ms, rfl, _⟩ := h
    rfl
  · obtain ⟨sy, many, ms, rfl, hS, ok, k⟩ := h
    refine ⟨_, pss_cons (ps_setLc (i := 1) (own := [("share", 3), ("_", 4)]) (g := (gTup K 2 (gCons (gName 3) (gCons (gName 4) gNil)))) (tt := tYes) (by rfl) scFactorsOf.nd rfl rfl (sw_true rfl rfl rfl (by decide +kernel)) (pi_tup (pe_fld (pv 0) rfl)) (blkOk_by (own := [("share", 3), ("_", 4)]) (N := nFactorsOf) (sc := defScope s_factors_of) (by decide +kernel)) (fun _ _ _ _ _ => (pg_tup (by rfl) (pgs_cons (pg_name (i := 3) scFactorsOf.nd rfl (Or.inl rfl)) (pgs_cons (pg_name (i := 4) scFactorsOf.nd rfl (Or.inl rfl)) pgs_nil)))) (fun _ _ _ _ _ => pts_nil) (fun _ _ _ _ _ => (pv 3)))
      (pss_cons (ps_set (i := 2) scFactorsOf.nd rfl (Or.inl rfl) (cComB.call (hr.mono (by decide)) (pa_cons (pv 1) pa_nil)))
      (pss_one (ps_ret (pe_tup (pa_cons (pv 2) (pa_cons (cTops.call (hr.mono (by decide)) (pa_cons (pv 1) (pa_cons (pv 2) pa_nil))) pa_nil)))))), ?_⟩
    obtain ⟨dx, mv, hp, vs, hV, hM⟩ := id hS
    have l24 := ok.l2
    refine ⟨_, rfl, sy, C, dx, _, _, rfl, hp, S.cl, S.nM, sysF_moves _ _, mv, rfl, ⟨_, hV⟩, fun D hD => ?_⟩
    refine lc_tup (K := K) (a := mv) (xs := vs) (fun i H' => Same H H' ∧ ∃ acc, H' D = some (.lst acc) ∧ FrsIn K H' acc ((ms.take i).map (·.1))) ⟨Same.new hD, [], upd_same, rfl, fun i v hv => by simp at hv⟩ (fun i H' _ h => h.1.sqT hV) (fun i x H2 hi g => ?_) fun H2 g => ?_
    · obtain ⟨s2, acc, h1, h2⟩ := g
      obtain ⟨m, hm, a, t, l, rfl, hA, hT, hL⟩ := hM.2 i x hi
      have hil : i < ms.length := (List.getElem?_eq_some_iff.mp hm).1
      have hz : acc.length = i := by
        have z := h2.1
        rw [List.length_map, List.length_take] at z
        omega
      refine ⟨a, _, rfl, s2.sqT hA, rfl, _, _, rfl, _, _, rfl, rfl, ?_⟩
      refine ⟨rfl, _, rfl, acc, h1, small1000 (by omega), s2.mut hD, _, upd_same, ?_⟩
      rw [List.take_add_one, hm, List.map_append]
      exact h2.snoc h1 ⟨t, rfl, s2.sqT hT⟩
    · obtain ⟨s2, acc, h1, h2⟩ := g
      rw [hM.1, List.take_length] at h2
      have fo : ∀ f ∈ ms.map (·.1), FrOk f := fun f hf => by
        obtain ⟨m, hm, rfl⟩ := List.mem_map.mp hf
        exact (ok.mv m hm).1
      have fl : (ms.map (·.1)).length ≤ 24 := by
        rw [List.length_map]
        exact l24
      refine ⟨_, rfl, D, _, rfl, ⟨acc, SqL.of h1, h2⟩, fl, fo, ?_⟩
      refine ⟨_, rfl, _, rfl, _, rfl, D, _, _, rfl, ⟨acc, SqL.of h1, h2⟩, fl, fo, fun p H' hp' s h => ⟨by show 2 ≤ sizeLine; decide, fun t ht => ?_⟩⟩
      exact k t p _ ((s2.trans s).trans (Same.new ht)) (SqT.of upd_same) ((Same.new ht) _ _ h)
def spEnds (K : PySem.W.Frag) (C : Addr) : Sp := fun vs H Q _ => ∃ (sy : Addr) (many : Nat) (Ls : List (List Int)) (ws : List Int), vs = [.ref sy] ∧ SysAt K C H sy many (movesF Ls ws) ∧ WOk many Ls ws ∧ ∀ t ea H' (E : List Int) (L : Int), Same H H' → SqT K H' t [.int L, .ref ea] → H' ea = some (.lst (E.map V.int)) → EnOk ws E L → Q (.ref t) H'
abbrev nEndsOfMoves : List Str := ["system", "bottom", "tops", "many"]
theorem scEndsOfMoves : FnScope nEndsOfMoves ["system"] (defScope s_ends_of_moves) := ⟨rfl, rfl, rfl, by decide +kernel, rfl, by decide +kernel, by decide +kernel⟩
theorem ok_ends_of_moves {f : Addr} {fd : FuncData} {fcFactors : Addr} {fdcFactors : FuncData} {C : Addr} (F : Fun K "ends_of_moves" "ends_of_moves" s_ends_of_moves f fd) (T : NmA mg) (cFactors : Cl P w K mg base CX0 2 "factors_of" fcFactors fdcFactors ["system"] (spFactors K C)) : FnOk P w K mg base CX0 3 f fd ["system"] (spEnds K C) := by
  refine F.ok scEndsOfMoves (fun vs H Q E h => ?_) (fun cdv A' outer s H vs Q E hr h => ?_)
  · obtain ⟨sy, many, Ls, ws, rfl, _⟩ := h
    rfl
  · obtain ⟨sy, many, Ls, ws, rfl, hS, ok, k⟩ := h
    refine ⟨_, pss_cons (ps_asg (cFactors.call (hr.mono (by decide)) (pa_cons (pv 0) pa_nil)) (pg_tup (by rfl) (pgs_cons (pg_name (i := 1) scEndsOfMoves.nd rfl (Or.inl rfl)) (pgs_cons (pg_name (i := 2) scEndsOfMoves.nd rfl (Or.inr rfl)) pgs_nil))))
      (pss_one (ps_ret (pe_tup (pa_cons (pv 1) (pa_cons (pe_lc (own := [("many", 3)]) (g := (gName 3)) (tt := tYes) rfl scEndsOfMoves.nd  (pi_range1 (by rfl) T.range (pa_cons (pe_op op_add (pe_callB call_len_seq (by rfl) T.len PySem.boot_len (pa_cons (pv 2) pa_nil)) pe_int) pa_nil)) (blkOk_by (own := [("many", 3)]) (N := nEndsOfMoves) (sc := defScope s_ends_of_moves) (by decide +kernel)) (fun _ _ _ _ _ => (pg_name (i := 3) scEndsOfMoves.nd rfl (Or.inl rfl))) (fun _ _ _ _ _ => pts_nil) (fun _ _ _ _ _ => (pe_callB (r := rSum K) (show CallR _ (.builtin "sum") (rSum K) from cr_sum rfl) (by rfl) T.sum (by decide +kernel) (pa_cons (pe_slice (r := rSlL K) (show SlR _ (rSlL K) from sl_list) (pv 2) po_none (po_some (pv 3))) pa_nil)))) pa_nil))))), ?_⟩
    have en := en_of ok
    have tl : (topsOf (spFr ws) (lcmAll (spFr ws) : Nat)).length = ws.length := by
      unfold topsOf spFr
      rw [List.length_map, List.length_map]
    have w24 := en.w24
    refine ⟨_, rfl, sy, many, _, rfl, hS, sys_of ok, fun t la H1 s1 h1 h2 => ?_⟩
    rw [fr_moves ok] at h1 h2
    generalize topsOf (spFr ws) (lcmAll (spFr ws) : Nat) = T at h2 en tl
    generalize ((lcmAll (spFr ws) : Nat) : Int) = L at h1 en
    refine ⟨t, _, rfl, h1, rfl, _, _, rfl, _, _, rfl, rfl, ?_⟩
    refine ⟨_, rfl, _, rfl, la, _, rfl, .inl (SqL.of h2), _, _, rfl, rfl, ((T.length + 1 : Nat) : Int), (by rw [List.length_map]; rfl), by omega, by omega, fun D hD => ?_⟩
    refine lc_range (lo := 0) (n := T.length + 1) (fun i H' => Same H1 H' ∧ H' D = some (.lst (((List.range i).map fun k => (T.take k).sum).map V.int))) ⟨Same.new hD, upd_same⟩ (fun i H' hi g => ?_) fun H' g => ?_
    · obtain ⟨t1, g1⟩ := g
      rw [Int.zero_add]
      refine ⟨rfl, _, rfl, _, rfl, _, rfl, la, _, rfl, SqL.of (t1 _ _ h2), fun p hp => ?_⟩
      rw [cut_to, ← List.map_take]
      have t2 : Same H' (upd H' p (.lst ((T.take i).map V.int))) := Same.new hp
      refine ⟨p, _, rfl, SqL.of upd_same, _, t2 _ _ g1, ?_, (t1.trans t2).mut hD, ?_⟩
      · rw [List.length_map, List.length_map, List.length_range]
        exact small1000 (by omega)
      · rw [upd_same, List.range_succ, List.map_append, List.map_append] <;> rfl
    · obtain ⟨t1, g1⟩ := g
      refine ⟨by show 2 ≤ sizeLine; decide, fun t2 ht2 => ?_⟩
      exact k t2 D _ _ L ((s1.trans t1).trans (Same.new ht2)) (SqT.of upd_same) ((Same.new ht2) _ _ g1) en
def spMvIn : Sp := fun vs H Q _ => ∃ (ea : Addr) (L num sc : Int) (ws E : List Int), vs = [.ref ea, .int L, .int num, .int sc] ∧ H ea = some (.lst (E.map V.int)) ∧ EnOk ws E L ∧ 0 ≤ num ∧ num.natAbs < 2 ^ 201 ∧ 0 ≤ sc ∧ sc.natAbs < 2 ^ 201 ∧ Q (optV (mvF ws num sc)) H
abbrev nMoveWithin : List Str := ["ends", "bottom", "number", "parts", "move"]
theorem scMoveWithin : FnScope nMoveWithin ["ends", "bottom", "number", "parts"] (defScope s_move_within) := ⟨rfl, rfl, rfl, by decide +kernel, rfl, by decide +kernel, by decide +kernel⟩
theorem ok_move_within {f : Addr} {fd : FuncData} (F : Fun K "move_within" "move_within" s_move_within f fd) (T : NmA mg) : FnOk P w K mg base CX0 1 f fd ["ends", "bottom", "number", "parts"] spMvIn := by
  refine F.ok scMoveWithin (fun vs H Q E h => ?_) (fun cdv A' outer s H vs Q E hr h => ?_)
  · obtain ⟨ea, L, num, sc, ws, E, rfl, _⟩ := h
    rfl
  · obtain ⟨ea, L, num, sc, ws, E, rfl, hE, en, n0, n2, c0, c2, k⟩ := h
    refine ⟨_, pss_cons (ps_for PassesOwn.never rfl (pi_range1 (by rfl) T.range (pa_cons (pe_op op_sub (pe_callB call_len_seq (by rfl) T.len PySem.boot_len (pa_cons (pv 0) pa_nil)) pe_int) pa_nil)) (pg_name (i := 4) scMoveWithin.nd rfl (Or.inl rfl))
        (pss_one (ps_if (PW.pt (pw_and (pt_cmpR op_le (pe_op op_mulW (pe_ix ix_list (pv 0) (pv 4) (fun _ _ => rfl)) (pv 3)) (pe_op op_mulW (pv 2) (pv 1)) (nomark _)) (pw_and1 (pt_cmpR op_le (pe_op op_mulW (pe_op op_add (pv 2) pe_int) (pv 1)) (pe_op op_mulW (pe_ix ix_list (pv 0) (pe_op op_add (pv 4) pe_int) (fun _ _ => rfl)) (pv 3)) (nomark _)))))
          (pss_one (ps_ret (pv 4))) pss_nil)))
      (pss_one (ps_ret pe_non)), ?_⟩
    have el := en.el
    have w24 := en.w24
    refine ⟨_, rfl, ea, _, rfl, .inl (SqL.of hE), _, _, rfl, rfl, ((ws.length : Nat) : Int), ?_, by omega, by omega, ?_⟩
    · show [V.int ((((E.map V.int).length : Nat) : Int) - 1)] = [V.int _]
      rw [List.length_map, el, show (((ws.length + 1 : Nat) : Int) - 1) = ((ws.length : Nat) : Int) by omega]
    refine for_range (lo := 0) (n := ws.length) (fun i σ H' => H' = H ∧ ∃ u : Option V, σ = [some (.ref ea), some (.int L), some (.int num), some (.int sc), u] ∧ ∀ j, j < i → inW ws num sc j = false) ⟨rfl, none, rfl, fun j hj => absurd hj (Nat.not_lt_zero j)⟩ ?_ ?_
    · rintro i σ H' hi ⟨rfl, u, rfl, hno⟩
      rw [Int.zero_add]
      have a1 := ints_at (xs := E) (s := (i : Int)) (by omega) (by omega)
      have a2 := ints_at (xs := E) (s := (i : Int) + 1) (by omega) (by omega)
      rw [Int.toNat_natCast] at a1
      rw [show ((i : Int) + 1).toNat = i + 1 by omega] at a2
      have b1 := en.nn (k := i) (by omega)
      have b2 := en.nn (k := i + 1) (by omega)
      have lb := en.lb
      have lp := en.lp
      have q1 : (E.getD i 0).natAbs < 2 ^ 1489 := Nat.lt_of_le_of_lt (by omega) lb
      have q2 : (E.getD (i + 1) 0).natAbs < 2 ^ 1489 := Nat.lt_of_le_of_lt (by omega) lb
      have q3 : (num + 1).natAbs < 2 ^ 202 := Nat.lt_of_le_of_lt (show (num + 1).natAbs ≤ num.natAbs + 1 by omega) (by omega)
      have miss : inW ws num sc i = false → ∀ j, j < i + 1 → inW ws num sc j = false := fun h j hj => by
        rcases Nat.lt_or_ge j i with c | c
        · exact hno j c
        · have : j = i := by omega
          subst this
          exact h
      have ei := en.inW (num := num) (sc := sc) hi
      refine ⟨_, rfl, _, rfl, ea, _, _, _, rfl, rfl, SqL.of hE, a1, _, rfl, _, _, rfl, rfl, wide_mul q1 c2 (by decide) (by decide) (by decide), _, rfl, _, rfl, _, _, rfl, rfl, wide_mul n2 lb (by decide) (by decide) (by decide), _, _, rfl, rfl, _, rfl, ite2 (fun h1 => ?_) (fun h1 => ?_)⟩
      · refine ⟨_, rfl, _, _, rfl, rfl, _, rfl, _, _, rfl, rfl, wide_mul q3 lb (by decide) (by decide) (by decide), _, rfl, _, rfl, _, _, rfl, rfl, ea, _, _, _, rfl, rfl, SqL.of hE, a2, _, rfl, _, _, rfl, rfl, wide_mul q2 c2 (by decide) (by decide) (by decide), _, _, rfl, rfl, _, rfl, ite2 (fun h2 => ?_) (fun h2 => ?_)⟩
        · refine ⟨_, rfl, ?_⟩
          rw [mv_hit hi (by rw [ei, h1, h2]; rfl) hno] at k
          exact k
        · rw [Bool.not_eq_true] at h2
          exact ⟨rfl, _, rfl, miss (by rw [ei, h1, h2]; rfl)⟩
      · rw [Bool.not_eq_true] at h1
        exact ⟨rfl, _, rfl, miss (by rw [ei, h1]; rfl)⟩
    · rintro σ H' ⟨rfl, u, rfl, hno⟩
      rw [mv_none hno] at k
      exact k
def spIsBits (K : PySem.W.Frag) : Sp := fun vs H Q _ => ∃ (ba : Addr) (bits : List Int), vs = [.ref ba] ∧ SqT K H ba (bits.map V.int) ∧ IsB bits ∧ bits.length ≤ 200 ∧ ∀ H', Same H H' → Q (.bl true) H'
abbrev nIsBits : List Str := ["thing"]
theorem scIsBits : FnScope nIsBits ["thing"] (defScope s_is_bits) := ⟨rfl, rfl, rfl, by decide +kernel, rfl, by decide +kernel, by decide +kernel⟩
theorem ok_is_bits {f : Addr} {fd : FuncData} {fcRowB : Addr} {fdcRowB : FuncData} (F : Fun K "is_bits" "is_bits" s_is_bits f fd) (T : NmA mg) (cRowB : Cl P w K mg base CX0 3 "is_row_below" fcRowB fdcRowB ["bound", "thing"] (spRowB K)) : FnOk P w K mg base CX0 4 f fd ["thing"] (spIsBits K) := by
  refine F.ok scIsBits (fun vs H Q E h => ?_) (fun cdv A' outer s H vs Q E hr h => ?_)
  · obtain ⟨ba, bits, rfl, _⟩ := h
    rfl
  · obtain ⟨ba, bits, rfl, hB, hb, h2, k⟩ := h
    refine ⟨_, pss_one (ps_ret (pe_and (cRowB.call (hr.mono (by decide)) (pa_cons pe_int (pa_cons (pv 0) pa_nil))) (pe_one (pe_cmpR op_le (pe_callB call_len_seq (by rfl) T.len PySem.boot_len (pa_cons (pv 0) pa_nil)) pe_int (nomark _))))), ?_⟩
    refine ⟨_, rfl, 2, ba, _, rfl, hB, by rw [List.length_map]; omega, fun x hx => ?_, fun H1 s1 => ?_⟩
    · obtain ⟨i, _, rfl⟩ := List.mem_map.mp hx
      exact ⟨i, rfl⟩
    · have hall : (bits.map V.int).all (isW 0 (2 - 1)) = true := by
        rw [List.all_eq_true]
        intro x hx
        obtain ⟨i, hi, rfl⟩ := List.mem_map.mp hx
        rcases hb i hi with rfl | rfl <;> rfl
      rw [hall]
      refine ⟨_, rfl, iteT ⟨_, rfl, ba, _, rfl, .inr (s1.sqT hB), _, _, rfl, rfl, ?_⟩⟩
      rw [List.length_map]
      show Q (.bl (decide (((bits.length : Nat) : Int) ≤ 200))) H1
      rw [decide_eq_true (show ((bits.length : Nat) : Int) ≤ 200 by omega)]
      exact k H1 s1
def spMvBits (K : PySem.W.Frag) (C : Addr) : Sp := fun vs H Q _ => ∃ (sy ba : Addr) (many : Nat) (Ls : List (List Int)) (ws bits : List Int), vs = [.ref sy, .ref ba] ∧ SysAt K C H sy many (movesF Ls ws) ∧ WOk many Ls ws ∧ SqT K H ba (bits.map V.int) ∧ IsB bits ∧ bits.length ≤ 200 ∧ ∀ v H', Same H H' → MbAt K H' v (mbF ws bits) → Q v H'
theorem sc_lt {i : Nat} (h : i ≤ 200) : ((2 : Int) ^ i).natAbs < 2 ^ 201 := by
  rw [nat_pow_int]
  exact Nat.pow_lt_pow_right (by decide) (by omega)
theorem num_lt {bs : List Int} {i : Nat} (hb : IsB bs) (hl : bs.length = i) (h : i ≤ 200) : 0 ≤ foldN 0 bs ∧ (foldN 0 bs).natAbs < 2 ^ 201 := by
  obtain ⟨a, b⟩ := fold_bound bs 0 hb (by decide)
  rw [hl, Int.zero_add, Int.one_mul] at b
  refine ⟨a, ?_⟩
  have := sc_lt h
  omega
abbrev nMoveByBits : List Str := ["system", "bits", "bottom", "ends", "number", "parts", "at", "bit", "move"]
theorem scMoveByBits : FnScope nMoveByBits ["system", "bits"] (defScope s_move_by_bits) := ⟨rfl, rfl, rfl, by decide +kernel, rfl, by decide +kernel, by decide +kernel⟩
theorem ok_move_by_bits {f : Addr} {fd : FuncData} {fcIsBits : Addr} {fdcIsBits : FuncData} {fcEnds : Addr} {fdcEnds : FuncData} {fcMvIn : Addr} {fdcMvIn : FuncData} {C : Addr} (F : Fun K "move_by_bits" "move_by_bits" s_move_by_bits f fd) (T : NmA mg) (cIsBits : Cl P w K mg base CX0 4 "is_bits" fcIsBits fdcIsBits ["thing"] (spIsBits K)) (cEnds : Cl P w K mg base CX0 3 "ends_of_moves" fcEnds fdcEnds ["system"] (spEnds K C)) (cMvIn : Cl P w K mg base CX0 1 "move_within" fcMvIn fdcMvIn ["ends", "bottom", "number", "parts"] spMvIn) : FnOk P w K mg base CX0 5 f fd ["system", "bits"] (spMvBits K C) := by
  refine F.ok scMoveByBits (fun vs H Q E h => ?_) (fun cdv A' outer s H vs Q E hr h => ?_)
  · obtain ⟨sy, ba, many, Ls, ws, bits, rfl, _⟩ := h
    rfl
  · obtain ⟨sy, ba, many, Ls, ws, bits, rfl, hS, ok, hB, hb, h200, k⟩ := h
    refine ⟨_, pss_cons (ps_if (pt_not (pt_val (cIsBits.call (hr.mono (by decide)) (pa_cons (pv 1) pa_nil))))
        pss_never pss_nil)
      (pss_cons (ps_asg (cEnds.call (hr.mono (by decide)) (pa_cons (pv 0) pa_nil)) (pg_tup (by rfl) (pgs_cons (pg_name (i := 2) scMoveByBits.nd rfl (Or.inl rfl)) (pgs_cons (pg_name (i := 3) scMoveByBits.nd rfl (Or.inl rfl)) pgs_nil))))
      (pss_cons (ps_set (i := 4) scMoveByBits.nd rfl (Or.inl rfl) pe_int)
      (pss_cons (ps_set (i := 5) scMoveByBits.nd rfl (Or.inl rfl) pe_int)
      (pss_cons (ps_for PassesOwn.never rfl (pi_enumT (by rfl) T.enum (pa_cons (pv 1) pa_nil)) (pg_tup (by rfl) (pgs_cons (pg_name (i := 6) scMoveByBits.nd rfl (Or.inl rfl)) (pgs_cons (pg_name (i := 7) scMoveByBits.nd rfl (Or.inl rfl)) pgs_nil)))
        (pss_cons (ps_set (i := 4) scMoveByBits.nd rfl (Or.inl rfl) (pe_op op_add (pe_op op_mulW pe_int (pv 4)) (pv 7)))
        (pss_cons (ps_set (i := 5) scMoveByBits.nd rfl (Or.inl rfl) (pe_op op_mulW pe_int (pv 5)))
        (pss_cons (ps_set (i := 8) scMoveByBits.nd rfl (Or.inl rfl) (cMvIn.call (hr.mono (by decide)) (pa_cons (pv 3) (pa_cons (pv 2) (pa_cons (pv 4) (pa_cons (pv 5) pa_nil))))))
        (pss_one (ps_if (pt_cmpR op_notN (pv 8) pe_non (nomark _))
          (pss_one (ps_ret (pe_tup (pa_cons (pv 8) (pa_cons (pe_op op_add (pv 6) pe_int) pa_nil))))) pss_nil))))))
      (pss_one (ps_ret pe_non)))))), ?_⟩
    refine ⟨_, rfl, ba, bits, rfl, hB, hb, h200, fun H1 s1 => ⟨_, rfl, iteF ?_⟩⟩
    refine ⟨_, rfl, sy, many, Ls, ws, rfl, hS.same s1, ok, fun t ea H2 E L s2 h2 hE en => ⟨t, _, rfl, h2, rfl, _, _, rfl, _, _, rfl, rfl, ?_⟩⟩
    have t2 := s1.trans s2
    refine ⟨_, rfl, ba, _, rfl, t2.sqT hB, for_it walk_enumT (fun i σ H' => Same H2 H' ∧ ∃ u v x : Option V, σ = [some (.ref sy), some (.ref ba), some (.int L), some (.ref ea), some (.int (foldN 0 (bits.take i))), some (.int (2 ^ i)), u, v, x] ∧ mbF ws bits = mbG ws (bits.drop i) (foldN 0 (bits.take i)) (2 ^ i) i) ⟨Same.refl H2, none, none, none, rfl, rfl⟩ (fun i σ H' _ g => (t2.trans g.1).sqT hB) ?_ ?_⟩
    · rintro i x σ H3 H4 hi ⟨t3, u, v, x', rfl, hg⟩ ⟨t', y, rfl, ht, rfl, hy⟩
      rw [List.length_map] at hi
      rw [List.getElem?_map] at hy
      obtain ⟨b, hbi, rfl⟩ := Option.map_eq_some_iff.mp hy
      have t4 : Same H2 (upd H3 t' (.tup [.int (i : Nat), .int b])) := t3.trans (Same.new ht)
      refine ⟨t', _, rfl, SqT.of upd_same, rfl, _, _, rfl, _, _, rfl, rfl, ?_⟩
      generalize upd H3 t' (.tup [.int (i : Nat), .int b]) = H4 at t4 ⊢
      have hb0 := hb b (List.mem_of_getElem? hbi)
      have tk : bits.take (i + 1) = bits.take i ++ [b] := by rw [List.take_add_one, hbi] <;> rfl
      obtain ⟨n0, n1⟩ := num_lt (bs := bits.take i) (i := i) (fun x hx => hb x (List.mem_of_mem_take hx)) (by rw [List.length_take]; omega) (by omega)
      obtain ⟨m0, m1⟩ := num_lt (bs := bits.take (i + 1)) (i := i + 1) (fun x hx => hb x (List.mem_of_mem_take hx)) (by rw [List.length_take]; omega) (by omega)
      have es : foldN 0 (bits.take (i + 1)) = 2 * foldN 0 (bits.take i) + b := by rw [tk, fold_snoc]
      have ep : (2 : Int) ^ (i + 1) = 2 * 2 ^ i := by rw [Int.pow_succ, Int.mul_comm]
      have c1 := sc_lt (i := i + 1) (by omega)
      refine ⟨_, rfl, _, _, rfl, rfl, wide_mul (a := 2) (b := 201) (by decide) n1 (by decide) (by decide) (by decide), _, rfl, _, _, rfl, rfl, ?_⟩
      refine ⟨_, rfl, _, _, rfl, rfl, wide_mul (a := 2) (b := 201) (by decide) (sc_lt (i := i) (by omega)) (by decide) (by decide) (by decide), ?_⟩
      refine ⟨_, rfl, _, rfl, _, rfl, _, rfl, ea, L, 2 * foldN 0 (bits.take i) + b, 2 * 2 ^ i, ws, E, rfl, t4 _ _ hE, en, by rw [← es]; exact m0, by rw [← es]; exact m1, by rw [← ep]; exact Int.le_of_lt (Int.pow_pos (by decide)), by rw [← ep]; exact c1, ?_⟩
      have dr : bits.drop i = b :: bits.drop (i + 1) := by
        obtain ⟨q1, q2⟩ := List.getElem?_eq_some_iff.mp hbi
        rw [List.drop_eq_getElem_cons q1, q2]
      rw [dr] at hg
      unfold mbG at hg
      cases e : mvF ws (2 * foldN 0 (bits.take i) + b) (2 * 2 ^ i) with
      | some j =>
        rw [e] at hg
        refine ⟨_, rfl, rfl, _, rfl, iteT ⟨_, rfl, _, rfl, _, _, rfl, rfl, by show 2 ≤ sizeLine; decide, fun t5 ht5 => ?_⟩⟩
        refine k _ _ (((t2.trans t4)).trans (Same.new ht5)) ?_
        rw [hg]
        exact ⟨t5, rfl, SqT.of upd_same⟩
      | none =>
        rw [e] at hg
        refine ⟨_, rfl, rfl, _, rfl, iteF ⟨t4, some (.int (i : Int)), some (.int b), some .non, ?_, ?_⟩⟩
        · rw [es, ep]
          exact rfl
        · rw [es, ep]
          exact hg
    · rintro σ H3 ⟨t3, u, v, x', rfl, hg⟩
      rw [List.length_map, List.drop_length] at hg
      refine k _ _ (t2.trans t3) ?_
      rw [hg]
      exact rfl
end
end Law

namespace Law
open PySem L2
/-! ### coins that bits tell -/
def ctG (ws bits : List Int) : Nat → List Int → Nat → List Int × Nat
  | 0, cs, t => (cs, t)
  | f + 1, cs, t => match mbF ws (bits.drop t) with
    | none => (cs, t)
    | some (k, u) => ctG ws bits f (cs ++ [(k : Int)]) (t + u)
def ctF (ws bits : List Int) : List Int × Nat := ctG ws bits bits.length [] 0
theorem ct_none {ws bits : List Int} {f t : Nat} {cs : List Int} (h : mbF ws (bits.drop t) = none) : ctG ws bits f cs t = (cs, t) := by
  cases f with
  | zero => rfl
  | succ f =>
    unfold ctG
    rw [h]
theorem ct_some {ws bits : List Int} {f t k u : Nat} {cs : List Int} (h : mbF ws (bits.drop t) = some (k, u)) : ctG ws bits (f + 1) cs t = ctG ws bits f (cs ++ [(k : Int)]) (t + u) := by
  rw [ctG, h]
theorem mb_ok {ws bits : List Int} (hS : 0 < ws.sum) (hb : IsB bits) {k u : Nat} (h : mbF ws bits = some (k, u)) : k < ws.length ∧ 1 ≤ u ∧ u ≤ bits.length := by
  obtain ⟨a, _, b, c⟩ := mb_sound hS bits 0 1 0 k u hb h
  exact ⟨a, by omega, by omega⟩
theorem cut_from {xs : List V} {i : Nat} (h : i ≤ xs.length) : cutV xs (some (i : Int)) none = xs.drop i := by
  unfold cutV
  have e0 : HT.sIx xs.length xs.length none = xs.length := rfl
  rw [HT.sIx_nat, e0, Nat.min_eq_left h, List.take_of_length_le (by rw [List.length_drop]; exact Nat.le_refl _)]
theorem sl_from {K : PySem.W.Frag} {H : Hp} {p : Addr} {xs : List V} {a : Nat} {Q : VK} (hS : SqT K H p xs) (h1 : a ≤ xs.length) (k : ∀ l H', Same H H' → SqT K H' l (xs.drop a) → Q (.ref l) H') : rSlA K (.ref p) (some ((a : Nat) : Int)) none H Q := by
  have e0 : HT.sIx xs.length xs.length none = xs.length := rfl
  refine ⟨p, xs, rfl, hS, fun h => ?_, fun _ q hq => ?_⟩
  · rw [HT.sIx_nat, Nat.min_eq_left h1] at h
    refine k p H (Same.refl H) ?_
    rw [h.1, List.drop_zero]
    exact hS
  · rw [cut_from h1]
    exact k q _ (Same.new hq) (SqT.of upd_same)
def frsD (fs : List Fr) : PyData := .tuple (fs.map frD)
theorem eqv_frsD (a b : List Fr) : PyData.eqv (frsD a) (frsD b) = decide (a = b) := by
  unfold frsD
  rw [PyData.eqv]
  exact eqvAll_map frD eqv_frD a b
theorem lay_frsD (a : List Fr) : (frsD a).canLay0 = true ∧ (frsD a).depth ≤ 2 := by
  have h := lay_all frD 1 lay_frD a
  unfold frsD
  rw [PyData.canLay0, PyData.depth]
  exact ⟨h.1, by omega⟩
theorem sh_frs (a : List Fr) : SeqAt.shaped (frsD a) = true := shaped_of (lay_frsD a) (by decide)
theorem dp_frI {K : PySem.W.Frag} {H : Hp} {v : V} {f : Fr} (h : FrAt K H v f) : Dp K H v (frD f) := by
  obtain ⟨s, rfl, h⟩ := h
  exact .tup h (.cons (.int _) (.cons (.int _) .nil))
theorem dp_frsA {K : PySem.W.Frag} {H : Hp} : ∀ {vs : List V} {fs : List Fr}, FrsIn K H vs fs → DpAll K H vs (fs.map frD)
  | [], [], _ => .nil
  | [], _ :: _, h => absurd h.1 (by simp)
  | _ :: _, [], h => absurd h.1 (by simp)
  | v :: vs, m :: ms, h => by
    obtain ⟨m', e, hm⟩ := h.2 0 v rfl
    cases e
    exact .cons (dp_frI hm) (dp_frsA ⟨by simpa using h.1, fun i x hx => h.2 (i + 1) x (by simpa using hx)⟩)
theorem dp_frs {K : PySem.W.Frag} {H : Hp} {a : Addr} {vs : List V} {fs : List Fr} (h : SqT K H a vs) (hf : FrsIn K H vs fs) : Dp K H (.ref a) (frsD fs) := .tup h (dp_frsA hf)
theorem dp_fr {K : PySem.W.Frag} {H : Hp} {a : Addr} {f : Fr} (h : SqT K H a [.int f.1, .int f.2]) : Dp K H (.ref a) (frD f) := .tup h (.cons (.int _) (.cons (.int _) .nil))
theorem sh_fr (f : Fr) : SeqAt.shaped (frD f) = true := shaped_of (lay_frD f) (by decide)
theorem pow_m {m : Nat} (h : m ≤ 40) : (1 : Int) ≤ 2 ^ m ∧ (2 : Int) ^ m < 2 ^ 41 := by
  rw [← pow_cast, ← pow_cast]
  have a := Nat.two_pow_pos m
  have b : 2 ^ m ≤ 2 ^ 40 := Nat.pow_le_pow_right (by decide) h
  omega
theorem cntL_zero (ws : List Int) : cntL ws 0 = List.replicate ws.length 0 := by
  unfold cntL
  refine List.ext_getElem? fun i => ?_
  rw [List.getElem?_map, List.getElem?_replicate]
  by_cases h : i < ws.length
  · rw [List.getElem?_range h, if_pos h] <;> rfl
  · rw [List.getElem?_eq_none (by rw [List.length_range]; omega), if_neg h] <;> rfl
theorem cnt_snoc (ws : List Int) (m i : Nat) : (List.range (i + 1)).map (cntF ws m) = (List.range i).map (cntF ws m) ++ [cntF ws m i] := by
  rw [List.range_succ, List.map_append] <;> rfl
theorem dec_zero (m : Nat) : decide (V.int (m : Int) = V.int 0) = decide (m = 0) := by
  by_cases h : m = 0
  · subst h
    rfl
  · rw [decide_eq_false h]
    exact decide_eq_false fun e => h (by injection e; omega)
section
variable {P : Program} {w : World} {K : PySem.W.Frag} {mg : Str → Option Value} {base : Heap}
def spTopsBy (K : PySem.W.Frag) (C : Addr) : Sp := fun vs H Q _ => ∃ (sy : Addr) (m many : Nat) (Ls : List (List Int)) (ws : List Int), vs = [.ref sy, .int (m : Int)] ∧ SysAt K C H sy many (movesF Ls ws) ∧ WOk many Ls ws ∧ m ≤ 40 ∧
  ∀ t ta H', Same H H' → SqT K H' t [.int (2 ^ m), .ref ta] → H' ta = some (.lst ((cntL ws m).map V.int)) → Q (.ref t) H'
abbrev nTopsByBits : List Str := ["system", "many", "bottom", "ends", "parts", "_", "tops", "low", "high", "first", "last"]
theorem scTopsByBits : FnScope nTopsByBits ["system", "many"] (defScope s_tops_by_bits) := ⟨rfl, rfl, rfl, by decide +kernel, rfl, by decide +kernel, by decide +kernel⟩
theorem ok_tops_by_bits {f : Addr} {fd : FuncData} {fcEnds : Addr} {fdcEnds : FuncData} {C : Addr} (F : Fun K "tops_by_bits" "tops_by_bits" s_tops_by_bits f fd) (T : NmA mg) (cEnds : Cl P w K mg base CX0 3 "ends_of_moves" fcEnds fdcEnds ["system"] (spEnds K C)) : FnOk P w K mg base CX0 4 f fd ["system", "many"] (spTopsBy K C) := by
  refine F.ok scTopsByBits (fun vs H Q E h => ?_) (fun cdv A' outer s H vs Q E hr h => ?_)
  · obtain ⟨sy, m, many, Ls, ws, rfl, _⟩ := h
    rfl
  · obtain ⟨sy, m, many, Ls, ws, rfl, hS, ok, m40, k⟩ := h
    refine ⟨_, pss_cons (ps_asg (cEnds.call (hr.mono (by decide)) (pa_cons (pv 0) pa_nil)) (pg_tup (by rfl) (pgs_cons (pg_name (i := 2) scTopsByBits.nd rfl (Or.inl rfl)) (pgs_cons (pg_name (i := 3) scTopsByBits.nd rfl (Or.inl rfl)) pgs_nil))))
      (pss_cons (ps_set (i := 4) scTopsByBits.nd rfl (Or.inl rfl) pe_int)
      (pss_cons (ps_for PassesOwn.never rfl (pi_range1 (by rfl) T.range (pa_cons (pv 1) pa_nil)) (pg_name (i := 5) scTopsByBits.nd rfl (Or.inl rfl))
        (pss_one (ps_set (i := 4) scTopsByBits.nd rfl (Or.inl rfl) (pe_op op_mulW pe_int (pv 4)))))
      (pss_cons (ps_if (pt_cmpR op_eq (pv 1) pe_int (nomark _))
        (pss_one (ps_ret (pe_tup (pa_cons (pv 4) (pa_cons (pe_op op_rep (pe_lst (pa_cons pe_int pa_nil)) (pe_op op_sub (pe_callB call_len_seq (by rfl) T.len PySem.boot_len (pa_cons (pv 3) pa_nil)) pe_int)) pa_nil))))) pss_nil)
      (pss_cons (ps_set (i := 6) scTopsByBits.nd rfl (Or.inl rfl) (pe_lst pa_nil))
      (pss_cons (ps_for PassesOwn.never rfl (pi_zip (by rfl) T.zip (pa_cons (pv 3) (pa_cons (pe_slice sl_list (pv 3) (po_some pe_int) po_none) pa_nil))) (pg_tup (by rfl) (pgs_cons (pg_name (i := 7) scTopsByBits.nd rfl (Or.inl rfl)) (pgs_cons (pg_name (i := 8) scTopsByBits.nd rfl (Or.inl rfl)) pgs_nil)))
        (pss_cons (ps_set (i := 9) scTopsByBits.nd rfl (Or.inl rfl) (pe_un un_neg (pe_op op_fdivW (pe_op op_mulW (pe_un un_neg (pv 7)) (pv 4)) (pv 2))))
        (pss_cons (ps_set (i := 10) scTopsByBits.nd rfl (Or.inl rfl) (pe_op op_fdivW (pe_op op_mulW (pv 8) (pv 4)) (pv 2)))
        (pss_one (ps_expr (pe_bm PySem.F.plainAttrs_list PySem.F.slot_list_append PySem.F.type_list_append mt_append (pv 6) (pa_cons (pe_callB (call_max2 rfl) (by rfl) T.max (by decide +kernel) (pa_cons pe_int (pa_cons (pe_op op_sub (pv 10) (pv 9)) pa_nil))) pa_nil)))))))
      (pss_one (ps_ret (pe_tup (pa_cons (pv 4) (pa_cons (pv 6) pa_nil)))))))))), ?_⟩
    refine ⟨_, rfl, sy, many, Ls, ws, rfl, hS, ok, fun t ea H1 E L s1 h1 hE en => ⟨t, _, rfl, h1, rfl, _, _, rfl, _, _, rfl, rfl, ?_⟩⟩
    have el := en.el
    have w24 := en.w24
    refine ⟨_, rfl, (m : Int), rfl, by omega, by omega, ?_⟩
    refine for_range (lo := 0) (n := m) (fun i σ H' => H' = H1 ∧ ∃ u : Option V, σ = [some (.ref sy), some (.int (m : Int)), some (.int L), some (.ref ea), some (.int (2 ^ i)), u, none, none, none, none, none]) ⟨rfl, none, rfl⟩ ?_ ?_
    · rintro i σ H' hi ⟨rfl, u, rfl⟩
      refine ⟨_, rfl, _, _, rfl, rfl, wide_mul (a := 2) (b := 201) (by decide) (sc_lt (i := i) (by omega)) (by decide) (by decide) (by decide), rfl, some (.int (0 + (i : Int))), ?_⟩
      rw [Int.pow_succ, Int.mul_comm]
      rfl
    · rintro σ H' ⟨rfl, u, rfl⟩
      obtain ⟨p1, p2⟩ := pow_m m40
      refine ⟨_, rfl, rfl, _, rfl, ?_⟩
      rw [dec_zero]
      refine ite2 (fun h0 => ?_) (fun h0 => ?_)
      · have h0 := of_decide_eq_true h0
        subst h0
        refine ⟨_, rfl, by show 1 ≤ sizeLine; decide, fun z hz => ?_⟩
        have s2 : Same H' (upd H' z (.lst [.int 0])) := Same.new hz
        refine ⟨_, rfl, ea, _, rfl, .inl (SqL.of (s2 _ _ hE)), _, _, rfl, rfl, z, ((ws.length : Nat) : Int), _, rfl, ?_, upd_same, by omega, by omega, ?_, fun q hq => ⟨by show 2 ≤ sizeLine; decide, fun t2 ht2 => ?_⟩⟩
        · show V.int ((((E.map V.int).length : Nat) : Int) - 1) = V.int _
          rw [List.length_map, el, show (((ws.length + 1 : Nat) : Int) - 1) = ((ws.length : Nat) : Int) by omega]
        · show 1 * _ ≤ sizeLine
          exact Nat.le_of_lt (small1000 (by omega))
        · refine k t2 q _ (((s1.trans s2).trans (Same.new hq)).trans (Same.new ht2)) (SqT.of upd_same) ?_
          rw [(Same.new ht2) _ _ upd_same, cntL_zero, Int.toNat_natCast, rep_one, List.map_replicate]
      · have h0 : m ≠ 0 := fun e => h0 (decide_eq_true e)
        refine ⟨by show 0 ≤ sizeLine; decide, fun D hD => ?_⟩
        have s2 : Same H' (upd H' D (.lst [])) := Same.new hD
        have t12 := s1.trans s2
        refine ⟨_, rfl, _, rfl, 1, rfl, ea, _, rfl, SqL.of (s2 _ _ hE), fun p hp => ?_⟩
        have nDp : D ≠ p := ne_of_none upd_same hp
        rw [show (1 : Int) = ((1 : Nat) : Int) from rfl, cut_from (by rw [List.length_map]; omega)]
        have s3 : Same (upd H' D (.lst [])) (upd (upd H' D (.lst [])) p (.lst ((E.map V.int).drop 1))) := Same.new hp
        refine ⟨ea, p, _, _, rfl, SqL.of (s3 _ _ (s2 _ _ hE)), SqL.of upd_same, for_it (walk_zip (n := ws.length) (by rw [List.length_drop, List.length_map, el]; omega)) (fun i σ H2 => Same H' H2 ∧ H2 p = some (.lst ((E.map V.int).drop 1)) ∧ H2 D = some (.lst (((List.range i).map (cntF ws m)).map V.int)) ∧ ∃ a b c d : Option V, σ = [some (.ref sy), some (.int (m : Int)), some (.int L), some (.ref ea), some (.int (2 ^ m)), u, some (.ref D), a, b, c, d]) ⟨s2.trans s3, upd_same, by rw [upd_ne nDp, upd_same]; rfl, none, none, none, none, rfl⟩ (fun i σ H2 _ g => ⟨SqL.of (g.1 _ _ hE), SqL.of g.2.1⟩) ?_ ?_⟩
        · rintro i x σ H2 H3 hi ⟨t2, gp, gD, a, b, c, d, rfl⟩ ⟨T', x1, x2, rfl, hT', rfl, hx1, hx2⟩
          have hx1 : (E.map V.int)[i]? = some x1 := hx1
          have hx2 : ((E.map V.int).drop 1)[i]? = some x2 := hx2
          have i1 : i < E.length := by omega
          have i2 : i + 1 < E.length := by omega
          rw [List.getElem?_map, List.getElem?_eq_getElem i1] at hx1
          rw [List.getElem?_drop, Nat.add_comm 1 i, List.getElem?_map, List.getElem?_eq_getElem i2] at hx2
          have hx1 : V.int E[i] = x1 := Option.some.inj hx1
          have hx2 : V.int E[i + 1] = x2 := Option.some.inj hx2
          subst hx1
          subst hx2
          have b1 := en.nn (k := i) (by omega)
          have b2 := en.nn (k := i + 1) (by omega)
          have lb := en.lb
          have lp := en.lp
          have ec := en.cnt h0 hi
          rw [getD_of i1] at b1 ec
          rw [getD_of i2] at b2 ec
          have q1 : (-E[i]).natAbs < 2 ^ 1489 := Nat.lt_of_le_of_lt (by omega) lb
          have q2 : (E[i + 1]).natAbs < 2 ^ 1489 := Nat.lt_of_le_of_lt (by omega) lb
          have c2 := sc_lt (i := m) (by omega)
          have s4 : Same H2 (upd H2 T' (.tup [.int E[i], .int E[i + 1]])) := Same.new hT'
          refine ⟨T', _, rfl, SqT.of upd_same, rfl, _, _, rfl, _, _, rfl, rfl, ?_⟩
          refine ⟨_, rfl, _, rfl, _, rfl, _, _, rfl, rfl, wide_mul q1 c2 (by decide) (by decide) (by decide), _, rfl, _, _, rfl, rfl, wide_div (b := 1489) lp lb (by decide) (by decide), _, rfl, ?_⟩
          refine ⟨_, rfl, _, rfl, _, _, rfl, rfl, wide_mul q2 c2 (by decide) (by decide) (by decide), _, rfl, _, _, rfl, rfl, wide_div (b := 1489) lp lb (by decide) (by decide), ?_⟩
          have gD' := s4 _ _ gD
          refine ⟨_, rfl, .inl ⟨rfl, _, SqL.of gD'⟩, _, rfl, _, rfl, _, _, rfl, rfl, _, _, rfl, D, _, _, rfl, rfl, gD', ?_, (t2.trans s4).mut (by
            cases e : H' D with
            | none => rfl
            | some o => rw [e] at hD; cases hD), ?_, ?_, some (.int E[i]), some (.int E[i + 1]), some (.int (-(-E[i] * 2 ^ m / L))), some (.int (E[i + 1] * 2 ^ m / L)), rfl⟩
          · rw [List.length_map, List.length_map, List.length_range]
            exact small1000 (by omega)
          · rw [upd_ne (ne_of (s4 _ _ gp) gD' (fun e => by
              have e := congrArg (fun o => match o with | HO.lst xs => xs.length | _ => 0) e
              have e : ((E.map V.int).drop 1).length = (((List.range i).map (cntF ws m)).map V.int).length := e
              rw [List.length_drop, List.length_map, List.length_map, List.length_map, List.length_range] at e
              omega))]
            exact s4 _ _ gp
          · rw [upd_same, cnt_snoc, List.map_append, ← ec] <;> rfl
        · rintro σ H2 ⟨t2, gp, gD, a, b, c, d, rfl⟩
          refine ⟨_, rfl, _, rfl, by show 2 ≤ sizeLine; decide, fun t3 ht3 => ?_⟩
          exact k t3 D _ ((s1.trans t2).trans (Same.new ht3)) (SqT.of upd_same) ((Same.new ht3) _ _ gD)
def spTold (K : PySem.W.Frag) (C : Addr) : Sp := fun vs H Q _ => ∃ (sy : Addr) (m many : Nat) (Ls : List (List Int)) (ws : List Int), vs = [.ref sy, .int (m : Int)] ∧ SysAt K C H sy many (movesF Ls ws) ∧ WOk many Ls ws ∧ m ≤ 40 ∧
  ∀ t us H', Same H H' → SqT K H' t us → FrsIn K H' us ((cntL ws m).map fun x => lowP x (2 ^ m)) → Q (.ref t) H'
theorem cnt_mem {many : Nat} {Ls : List (List Int)} {ws : List Int} (ok : WOk many Ls ws) {m : Nat} : ∀ x ∈ cntL ws m, 0 ≤ x := fun x hx => by
  obtain ⟨j, _, rfl⟩ := List.mem_map.mp hx
  exact cnt_nn ws m j
abbrev nToldByBits : List Str := ["system", "many", "parts", "tops", "top"]
theorem scToldByBits : FnScope nToldByBits ["system", "many"] (defScope s_told_by_bits) := ⟨rfl, rfl, rfl, by decide +kernel, rfl, by decide +kernel, by decide +kernel⟩
theorem ok_told_by_bits {f : Addr} {fd : FuncData} {fcWithin : Addr} {fdcWithin : FuncData} {fcTopsBy : Addr} {fdcTopsBy : FuncData} {fcFrac : Addr} {fdcFrac : FuncData} {C : Addr} (F : Fun K "told_by_bits" "told_by_bits" s_told_by_bits f fd) (T : NmA mg) (cWithin : Cl P w K mg base CX0 2 "is_within" fcWithin fdcWithin ["low", "high", "thing"] (spWithin K)) (cTopsBy : Cl P w K mg base CX0 4 "tops_by_bits" fcTopsBy fdcTopsBy ["system", "many"] (spTopsBy K C)) (cFrac : Cl P w K mg base CX0 1 "fraction" fcFrac fdcFrac ["top", "bottom"] spLowS) : FnOk P w K mg base CX0 5 f fd ["system", "many"] (spTold K C) := by
  refine F.ok scToldByBits (fun vs H Q E h => ?_) (fun cdv A' outer s H vs Q E hr h => ?_)
  · obtain ⟨sy, m, many, Ls, ws, rfl, _⟩ := h
    rfl
  · obtain ⟨sy, m, many, Ls, ws, rfl, hS, ok, m40, k⟩ := h
    refine ⟨_, pss_cons (ps_if (pt_not (pt_val (cWithin.call (hr.mono (by decide)) (pa_cons pe_int (pa_cons pe_int (pa_cons (pv 1) pa_nil))))))
        pss_never pss_nil)
      (pss_cons (ps_asg (cTopsBy.call (hr.mono (by decide)) (pa_cons (pv 0) (pa_cons (pv 1) pa_nil))) (pg_tup (by rfl) (pgs_cons (pg_name (i := 2) scToldByBits.nd rfl (Or.inr rfl)) (pgs_cons (pg_name (i := 3) scToldByBits.nd rfl (Or.inl rfl)) pgs_nil))))
      (pss_one (ps_ret (pe_callTy call_tuple_of (by rfl) T.tuple (by decide +kernel) (pa_cons (pe_lc (own := [("top", 4)]) (g := (gName 4)) (tt := tYes) rfl scToldByBits.nd  (pi_list (pv 3)) (blkOk_by (own := [("top", 4)]) (N := nToldByBits) (sc := defScope s_told_by_bits) (by decide +kernel)) (fun _ _ _ _ _ => (pg_name (i := 4) scToldByBits.nd rfl (Or.inl rfl))) (fun _ _ _ _ _ => pts_nil) (fun _ _ _ _ _ => (cFrac.call (hr.mono (by decide)) (pa_cons (pv 4) (pa_cons (pv 2) pa_nil))))) pa_nil))))), ?_⟩
    have l24 := ok.l2
    have wl := ok.wl
    obtain ⟨p1, p2⟩ := pow_m m40
    refine ⟨_, rfl, 0, 40, _, rfl, .inl ⟨(m : Int), rfl, _, rfl, ?_⟩⟩
    rw [decide_eq_true (show (0 : Int) ≤ (m : Int) by omega), decide_eq_true (show (m : Int) ≤ 40 by omega)]
    refine iteF ⟨_, rfl, _, rfl, sy, m, many, Ls, ws, rfl, hS, ok, m40, fun t ta H1 s1 h1 hT => ⟨t, _, rfl, h1, rfl, _, _, rfl, _, _, rfl, rfl, ?_⟩⟩
    refine ⟨_, rfl, ta, rfl, ⟨_, SqL.of hT⟩, fun D hD => ?_⟩
    refine lc_list (K := K) (a := ta) (xs := (cntL ws m).map V.int) (fun i H2 => Same H1 H2 ∧ ∃ acc, H2 D = some (.lst acc) ∧ FrsIn K H2 acc (((cntL ws m).take i).map fun x => lowP x (2 ^ m))) ⟨Same.new hD, [], upd_same, rfl, fun i v hv => by simp at hv⟩ (fun i H2 _ h => SqL.of (h.1 _ _ hT)) (fun i x H2 hi g => ?_) fun H2 g => ?_
    · obtain ⟨t1, acc, g1, g2⟩ := g
      rw [List.getElem?_map] at hi
      obtain ⟨z, hz, rfl⟩ := Option.map_eq_some_iff.mp hi
      have hil := (List.getElem?_eq_some_iff.mp hz).1
      rw [cntL_len] at hil
      have hla : acc.length = i := by
        have y := g2.1
        rw [List.length_map, List.length_take, cntL_len] at y
        omega
      refine ⟨rfl, _, rfl, _, rfl, z, 2 ^ m, rfl, cnt_mem ok z (List.mem_of_getElem? hz), by omega, p2, fun q hq => ?_⟩
      have t2 : Same H2 (upd H2 q (.tup [.int (lowP z (2 ^ m)).1, .int (lowP z (2 ^ m)).2])) := Same.new hq
      have h3 := t2 _ _ g1
      refine ⟨acc, h3, small1000 (by omega), (t1.trans t2).mut hD, _, upd_same, ?_⟩
      rw [List.take_add_one, hz, List.map_append]
      exact FrsIn.snoc (g2.same t2) h3 ⟨q, rfl, SqT.of upd_same⟩
    · obtain ⟨t1, acc, g1, g2⟩ := g
      rw [List.length_map, List.take_length] at g2
      refine ⟨D, _, rfl, .inl ⟨SqL.of g1, fun l hl => ?_⟩⟩
      exact k l acc _ ((s1.trans t1).trans (Same.new hl)) (SqT.of upd_same) (g2.same (Same.new hl))
def spOpen (K : PySem.W.Frag) (C : Addr) : Sp := fun vs H Q _ => ∃ (sy : Addr) (m many : Nat) (Ls : List (List Int)) (ws : List Int), vs = [.ref sy, .int (m : Int)] ∧ SysAt K C H sy many (movesF Ls ws) ∧ WOk many Ls ws ∧ m ≤ 40 ∧
  ∀ t H', Same H H' → SqT K H' t [.int (lowP (2 ^ m - (cntL ws m).sum) (2 ^ m)).1, .int (lowP (2 ^ m - (cntL ws m).sum) (2 ^ m)).2] → Q (.ref t) H'
theorem w_pos {many : Nat} {Ls : List (List Int)} {ws : List Int} (ok : WOk many Ls ws) : (∀ x ∈ ws, 0 < x) ∧ 0 < ws.sum ∧ ws.sum < 2 ^ 40 := by
  have en := en_of ok
  exact ⟨en.wp, en.ws0, en.s40⟩
abbrev nOpenByBits : List Str := ["system", "many", "parts", "tops"]
theorem scOpenByBits : FnScope nOpenByBits ["system", "many"] (defScope s_open_by_bits) := ⟨rfl, rfl, rfl, by decide +kernel, rfl, by decide +kernel, by decide +kernel⟩
theorem ok_open_by_bits {f : Addr} {fd : FuncData} {fcWithin : Addr} {fdcWithin : FuncData} {fcTopsBy : Addr} {fdcTopsBy : FuncData} {fcFrac : Addr} {fdcFrac : FuncData} {C : Addr} (F : Fun K "open_by_bits" "open_by_bits" s_open_by_bits f fd) (T : NmA mg) (cWithin : Cl P w K mg base CX0 2 "is_within" fcWithin fdcWithin ["low", "high", "thing"] (spWithin K)) (cTopsBy : Cl P w K mg base CX0 4 "tops_by_bits" fcTopsBy fdcTopsBy ["system", "many"] (spTopsBy K C)) (cFrac : Cl P w K mg base CX0 1 "fraction" fcFrac fdcFrac ["top", "bottom"] spLowS) : FnOk P w K mg base CX0 5 f fd ["system", "many"] (spOpen K C) := by
  refine F.ok scOpenByBits (fun vs H Q E h => ?_) (fun cdv A' outer s H vs Q E hr h => ?_)
  · obtain ⟨sy, m, many, Ls, ws, rfl, _⟩ := h
    rfl
  · obtain ⟨sy, m, many, Ls, ws, rfl, hS, ok, m40, k⟩ := h
    refine ⟨_, pss_cons (ps_if (pt_not (pt_val (cWithin.call (hr.mono (by decide)) (pa_cons pe_int (pa_cons pe_int (pa_cons (pv 1) pa_nil))))))
        pss_never pss_nil)
      (pss_cons (ps_asg (cTopsBy.call (hr.mono (by decide)) (pa_cons (pv 0) (pa_cons (pv 1) pa_nil))) (pg_tup (by rfl) (pgs_cons (pg_name (i := 2) scOpenByBits.nd rfl (Or.inl rfl)) (pgs_cons (pg_name (i := 3) scOpenByBits.nd rfl (Or.inl rfl)) pgs_nil))))
      (pss_one (ps_ret (cFrac.call (hr.mono (by decide)) (pa_cons (pe_op op_sub (pv 2) (pe_callB (cr_sum rfl) (by rfl) T.sum (by decide +kernel) (pa_cons (pv 3) pa_nil))) (pa_cons (pv 2) pa_nil)))))), ?_⟩
    obtain ⟨p1, p2⟩ := pow_m m40
    obtain ⟨wp, w0, _⟩ := w_pos ok
    obtain ⟨c1, c2, c3⟩ := cnt_sum wp w0 m
    refine ⟨_, rfl, 0, 40, _, rfl, .inl ⟨(m : Int), rfl, _, rfl, ?_⟩⟩
    rw [decide_eq_true (show (0 : Int) ≤ (m : Int) by omega), decide_eq_true (show (m : Int) ≤ 40 by omega)]
    refine iteF ⟨_, rfl, _, rfl, sy, m, many, Ls, ws, rfl, hS, ok, m40, fun t ta H1 s1 h1 hT => ⟨t, _, rfl, h1, rfl, _, _, rfl, _, _, rfl, rfl, ?_⟩⟩
    refine ⟨_, rfl, _, rfl, ta, _, rfl, SqL.of hT, _, _, rfl, rfl, _, rfl, 2 ^ m - (cntL ws m).sum, 2 ^ m, rfl, by omega, by omega, p2, fun q hq => ?_⟩
    exact k q _ (s1.trans (Same.new hq)) (SqT.of upd_same)
def spCoinsOf (K : PySem.W.Frag) (C : Addr) : Sp := fun vs H Q _ => ∃ (sy ba : Addr) (many : Nat) (Ls : List (List Int)) (ws bits : List Int), vs = [.ref sy, .ref ba] ∧ SysAt K C H sy many (movesF Ls ws) ∧ WOk many Ls ws ∧ SqT K H ba (bits.map V.int) ∧ IsB bits ∧ bits.length ≤ 200 ∧
  ∀ t ca H' (cs : List Int) (n : Nat), Same H H' → SqT K H' t [.ref ca, .int (n : Int)] → SqT K H' ca (cs.map V.int) → (cs, n) = ctF ws bits → CsOk ws.length cs → cs.length ≤ 200 → Q (.ref t) H'
theorem isb_drop {bits : List Int} (h : IsB bits) (t : Nat) : IsB (bits.drop t) := fun b hb => h b (List.mem_of_mem_drop hb)
abbrev nCoinsOfBits : List Str := ["system", "bits", "coins", "at", "found", "move", "many"]
theorem scCoinsOfBits : FnScope nCoinsOfBits ["system", "bits"] (defScope s_coins_of_bits) := ⟨rfl, rfl, rfl, by decide +kernel, rfl, by decide +kernel, by decide +kernel⟩
theorem ok_coins_of_bits {f : Addr} {fd : FuncData} {fcMvBits : Addr} {fdcMvBits : FuncData} {C : Addr} (F : Fun K "coins_of_bits" "coins_of_bits" s_coins_of_bits f fd) (T : NmA mg) (cMvBits : Cl P w K mg base CX0 5 "move_by_bits" fcMvBits fdcMvBits ["system", "bits"] (spMvBits K C)) : FnOk P w K mg base CX0 6 f fd ["system", "bits"] (spCoinsOf K C) := by
  refine F.ok scCoinsOfBits (fun vs H Q E h => ?_) (fun cdv A' outer s H vs Q E hr h => ?_)
  · obtain ⟨sy, ba, many, Ls, ws, bits, rfl, _⟩ := h
    rfl
  · obtain ⟨sy, ba, many, Ls, ws, bits, rfl, hS, ok, hB, hb, h200, k⟩ := h
    refine ⟨_, pss_cons (ps_set (i := 2) scCoinsOfBits.nd rfl (Or.inl rfl) (pe_lst pa_nil))
      (pss_cons (ps_set (i := 3) scCoinsOfBits.nd rfl (Or.inl rfl) pe_int)
      (pss_cons (ps_set (i := 4) scCoinsOfBits.nd rfl (Or.inl rfl) (cMvBits.call (hr.mono (by decide)) (pa_cons (pv 0) (pa_cons (pv 1) pa_nil))))
      (pss_cons (ps_while PassesOwn.never (pt_cmpR op_notN (pv 4) pe_non (nomark _))
        (pss_cons (ps_asg (pv 4) (pg_tup (by rfl) (pgs_cons (pg_name (i := 5) scCoinsOfBits.nd rfl (Or.inl rfl)) (pgs_cons (pg_name (i := 6) scCoinsOfBits.nd rfl (Or.inl rfl)) pgs_nil))))
        (pss_cons (ps_expr (pe_bm PySem.F.plainAttrs_list PySem.F.slot_list_append PySem.F.type_list_append mt_append (pv 2) (pa_cons (pv 5) pa_nil)))
        (pss_cons (ps_aug (i := 3) scCoinsOfBits.nd rfl (Or.inl rfl) (pv 6) ip_add)
        (pss_one (ps_set (i := 4) scCoinsOfBits.nd rfl (Or.inl rfl) (cMvBits.call (hr.mono (by decide)) (pa_cons (pv 0) (pa_cons (pe_slice sl_tupA (pv 1) (po_some (pv 3)) po_none) pa_nil)))))))))
      (pss_one (ps_ret (pe_tup (pa_cons (pe_callTy call_tuple_of (by rfl) T.tuple (by decide +kernel) (pa_cons (pv 2) pa_nil)) (pa_cons (pv 3) pa_nil)))))))), ?_⟩
    obtain ⟨wp, w0, _⟩ := w_pos ok
    refine ⟨by show 0 ≤ sizeLine; decide, fun D hD => ?_⟩
    have s1 : Same H (upd H D (.lst [])) := Same.new hD
    have g1 : (upd H D (.lst [])) D = some (.lst (([] : List Int).map V.int)) := upd_same
    generalize upd H D (.lst []) = H1 at s1 g1 ⊢
    refine ⟨_, rfl, _, rfl, sy, ba, many, Ls, ws, bits, rfl, hS.same s1, ok, s1.sqT hB, hb, h200, fun v H2 s2 hm => ?_⟩
    refine ⟨fun m σ H' => Same H H' ∧ ∃ (cs : List Int) (t f : Nat) (v : V) (a b : Option V), H' D = some (.lst (cs.map V.int)) ∧ MbAt K H' v (mbF ws (bits.drop t)) ∧ t ≤ bits.length ∧ ctF ws bits = ctG ws bits f cs t ∧ bits.length ≤ f + t ∧ CsOk ws.length cs ∧ cs.length ≤ t ∧ σ = [some (.ref sy), some (.ref ba), some (.ref D), some (.int (t : Int)), some v, a, b] ∧ m = bits.length - t,
      ⟨_, s1.trans s2, [], 0, bits.length, v, none, none, s2 _ _ g1, hm, Nat.zero_le _, rfl, by omega, fun c hc => absurd hc List.not_mem_nil, Nat.zero_le _, rfl, rfl⟩, ?_⟩
    rintro m σ H3 ⟨t3, cs, t, f, v, a, b, gD, gm, tl, gc, gf, cok, cl, rfl, rfl⟩
    cases e : mbF ws (bits.drop t) with
    | none =>
      rw [e] at gm
      have gm : v = .non := gm
      subst gm
      refine ⟨_, rfl, rfl, _, rfl, iteF ?_⟩
      refine ⟨_, rfl, D, _, rfl, .inl ⟨SqL.of gD, fun ca hca => ?_⟩⟩
      refine ⟨_, rfl, by show 2 ≤ sizeLine; decide, fun t2 ht2 => ?_⟩
      rw [ct_none e] at gc
      exact k t2 ca _ cs t ((t3.trans (Same.new hca)).trans (Same.new ht2)) (SqT.of upd_same) (SqT.of ((Same.new ht2) _ _ upd_same)) gc.symm cok (by omega)
    | some q =>
      obtain ⟨kk, u⟩ := q
      rw [e] at gm
      obtain ⟨tt, rfl, ht⟩ := gm
      obtain ⟨b1, b2, b3⟩ := mb_ok w0 (isb_drop hb t) e
      rw [List.length_drop] at b3
      refine ⟨_, rfl, rfl, _, rfl, iteT ?_⟩
      refine ⟨fun σ' H4 => Same H H4 ∧ ∃ (cs' : List Int) (t' f' : Nat) (v' : V) (a' b' : Option V), H4 D = some (.lst (cs'.map V.int)) ∧ MbAt K H4 v' (mbF ws (bits.drop t')) ∧ t' ≤ bits.length ∧ ctF ws bits = ctG ws bits f' cs' t' ∧ bits.length ≤ f' + t' ∧ CsOk ws.length cs' ∧ cs'.length ≤ t' ∧ σ' = [some (.ref sy), some (.ref ba), some (.ref D), some (.int (t' : Int)), some v', a', b'] ∧ bits.length - t' < bits.length - t, ?_, ?_⟩
      · rintro σ' H4 ⟨c1, cs', t', f', v', a', b', c2, c3, c4, c5, c6, c7, c8, rfl, c9⟩
        exact ⟨_, c9, c1, cs', t', f', v', a', b', c2, c3, c4, c5, c6, c7, c8, rfl, rfl⟩
      · refine ⟨_, rfl, tt, _, rfl, ht, rfl, _, _, rfl, _, _, rfl, rfl, ?_⟩
        refine ⟨_, rfl, .inl ⟨rfl, _, SqL.of gD⟩, _, rfl, D, _, _, rfl, rfl, gD, ?_, ?_⟩
        · rw [List.length_map]
          exact small1000 (by omega)
        have hD' : H D = none := hD
        have t4 : Same H (upd H3 D (.lst (cs.map V.int ++ [.int (kk : Int)]))) := t3.mut hD'
        have g4 : (upd H3 D (.lst (cs.map V.int ++ [.int (kk : Int)]))) D = some (.lst ((cs ++ [(kk : Int)]).map V.int)) := by rw [upd_same, List.map_append] <;> rfl
        generalize upd H3 D (.lst (cs.map V.int ++ [.int (kk : Int)])) = H4 at t4 g4 ⊢
        refine ⟨_, rfl, _, rfl, _, _, rfl, rfl, ?_⟩
        refine ⟨_, rfl, _, rfl, _, rfl, ((t + u : Nat) : Int), (by rw [Int.natCast_add] <;> rfl), ?_⟩
        unfold tNoPart
        refine sl_from (a := t + u) (t4.sqT hB) (by rw [List.length_map]; omega) fun l H5 s5 h5 => ?_
        rw [← List.map_drop] at h5
        refine ⟨sy, l, many, Ls, ws, bits.drop (t + u), rfl, hS.same (t4.trans s5), ok, h5, isb_drop hb _, by rw [List.length_drop]; omega, fun v' H6 s6 hm6 => ?_⟩
        have ff : ∃ f', f = f' + 1 := ⟨f - 1, by omega⟩
        obtain ⟨f', rfl⟩ := ff
        rw [ct_some e] at gc
        refine ⟨(t4.trans s5).trans s6, cs ++ [(kk : Int)], t + u, f', v', some (.int (kk : Int)), some (.int (u : Int)), s6 _ _ (s5 _ _ g4), hm6, by omega, gc, by omega, fun c hc => ?_, ?_, ?_, by omega⟩
        · rcases List.mem_append.mp hc with h | h
          · exact cok c h
          · rw [List.mem_singleton.mp h]
            omega
        · rw [List.length_append]
          show cs.length + 1 ≤ t + u
          omega
        · rw [Int.natCast_add] <;> rfl
def spDrawnBits (K : PySem.W.Frag) (C : Addr) : Sp := fun vs H Q _ => ∃ (sy ba : Addr) (b : Bool) (many : Nat) (Ls : List (List Int)) (ws bits : List Int), vs = [.ref sy, .ref ba, .str (plS b)] ∧ SysAt K C H sy many (movesF Ls ws) ∧ WOk many Ls ws ∧ SqT K H ba (bits.map V.int) ∧ IsB bits ∧ bits.length ≤ 200 ∧
  ∀ t r H' (cs : List Int) (n kk : Nat), Same H H' → SqT K H' t [.ref r, .int (n : Int)] → ResAt K H' r kk (selF Ls many (upto many) cs kk) → (cs, n) = ctF ws bits → Pick b cs.length (oneF Ls many (upto many) cs) kk → Q (.ref t) H'
abbrev nDrawnByBits : List Str := ["system", "bits", "plan", "coins", "taken"]
theorem scDrawnByBits : FnScope nDrawnByBits ["system", "bits", "plan"] (defScope s_drawn_by_bits) := ⟨rfl, rfl, rfl, by decide +kernel, rfl, by decide +kernel, by decide +kernel⟩
theorem ok_drawn_by_bits {f : Addr} {fd : FuncData} {fcIsBits : Addr} {fdcIsBits : FuncData} {fcCoinsOf : Addr} {fdcCoinsOf : FuncData} {fcDrawn : Addr} {fdcDrawn : FuncData} {C : Addr} (F : Fun K "drawn_by_bits" "drawn_by_bits" s_drawn_by_bits f fd) (T : NmA mg) (cIsBits : Cl P w K mg base CX0 4 "is_bits" fcIsBits fdcIsBits ["thing"] (spIsBits K)) (cCoinsOf : Cl P w K mg base CX0 6 "coins_of_bits" fcCoinsOf fdcCoinsOf ["system", "bits"] (spCoinsOf K C)) (cDrawn : Cl P w K mg base CX0 5 "drawn" fcDrawn fdcDrawn ["system", "coins", "plan"] (spDrawn K C)) : FnOk P w K mg base CX0 7 f fd ["system", "bits", "plan"] (spDrawnBits K C) := by
  refine F.ok scDrawnByBits (fun vs H Q E h => ?_) (fun cdv A' outer s H vs Q E hr h => ?_)
  · obtain ⟨sy, ba, b, many, Ls, ws, bits, rfl, _⟩ := h
    rfl
  · obtain ⟨sy, ba, b, many, Ls, ws, bits, rfl, hS, ok, hB, hb, h200, k⟩ := h
    refine ⟨_, pss_cons (ps_if (pt_not (pt_val (cIsBits.call (hr.mono (by decide)) (pa_cons (pv 1) pa_nil))))
        pss_never pss_nil)
      (pss_cons (ps_asg (cCoinsOf.call (hr.mono (by decide)) (pa_cons (pv 0) (pa_cons (pv 1) pa_nil))) (pg_tup (by rfl) (pgs_cons (pg_name (i := 3) scDrawnByBits.nd rfl (Or.inl rfl)) (pgs_cons (pg_name (i := 4) scDrawnByBits.nd rfl (Or.inl rfl)) pgs_nil))))
      (pss_one (ps_ret (pe_tup (pa_cons (cDrawn.call (hr.mono (by decide)) (pa_cons (pv 0) (pa_cons (pv 3) (pa_cons (pv 2) pa_nil)))) (pa_cons (pv 4) pa_nil)))))), ?_⟩
    have e1 := lds_moves Ls ws
    refine ⟨_, rfl, ba, bits, rfl, hB, hb, h200, fun H1 s1 => ⟨_, rfl, iteF ?_⟩⟩
    refine ⟨_, rfl, _, rfl, sy, ba, many, Ls, ws, bits, rfl, hS.same s1, ok, s1.sqT hB, hb, h200, fun t ca H2 cs n s2 h2 hc ec cok cl => ⟨t, _, rfl, h2, rfl, _, _, rfl, _, _, rfl, rfl, ?_⟩⟩
    have t2 := s1.trans s2
    refine ⟨_, rfl, _, rfl, _, rfl, sy, ca, b, many, movesF Ls ws, cs, rfl, hS.same t2, by rw [e1]; exact lds_of ok, hc, by rw [show (movesF Ls ws).length = ws.length by unfold movesF; rw [List.length_map, List.length_range, ok.wl]]; exact cok, by omega, fun r H3 kk s3 r3 pk => ?_⟩
    rw [e1] at r3 pk
    refine ⟨_, rfl, by show 2 ≤ sizeLine; decide, fun t4 ht4 => ?_⟩
    exact k t4 r _ cs n kk ((t2.trans s3).trans (Same.new ht4)) (SqT.of upd_same) (r3.same (Same.new ht4)) ec pk
end
end Law

namespace Law
open PySem L2
def mbD : Option (Nat × Nat) → PyData
  | none => .none
  | some (k, u) => .tuple [.int (k : Int), .int (u : Int)]
theorem dp_mb {K : PySem.W.Frag} {H : Hp} {v : V} {r : Option (Nat × Nat)} (h : MbAt K H v r) : Dp K H v (mbD r) := by
  cases r with
  | none =>
    have h : v = .non := h
    subst h
    exact .non
  | some q =>
    obtain ⟨t, rfl, h⟩ := h
    exact .tup h (.cons (.int _) (.cons (.int _) .nil))
theorem lay_mb (r : Option (Nat × Nat)) : (mbD r).canLay0 = true ∧ (mbD r).depth ≤ 1 := by
  cases r <;> simp [mbD, PyData.canLay0, PyData.canLayAll0, PyData.depth, PyData.depthAll]
theorem sh_mb (r : Option (Nat × Nat)) : SeqAt.shaped (mbD r) = true := shaped_of (lay_mb r) (by decide)
theorem eq_mb (r : Option (Nat × Nat)) : PyData.eqv (mbD r) (mbD r) = true := SeqAt.eqv_refl _ (lay_mb r).1
theorem cat_any {K : PySem.W.Frag} {H : Hp} {a b : Addr} {xs ys : List Int} {Q : VK} (ha : SqT K H a (xs.map V.int)) (hb : SqT K H b (ys.map V.int)) (hl : xs.length + ys.length ≤ 1000) (kk : ∀ p H', Same H H' → SqT K H' p ((xs ++ ys).map V.int) → Q (.ref p) H') : rCatA K (.ref a) (.ref b) H Q := by
  refine ⟨a, b, _, _, rfl, rfl, ha, hb, ?_, fun e => ?_, fun _ e => ?_, fun _ _ c hc => ?_⟩
  · rw [List.length_map, List.length_map]
    exact Nat.le_of_lt (small1000 (by omega))
  · refine kk b H (Same.refl H) ?_
    rw [List.map_append, e, List.nil_append]
    exact hb
  · refine kk a H (Same.refl H) ?_
    rw [List.map_append, e, List.append_nil]
    exact ha
  · refine kk c _ (Same.new hc) ?_
    rw [List.map_append]
    exact SqT.of upd_same
theorem rep_all {K : PySem.W.Frag} {H : Hp} {l : Addr} {z k : Int} {Q : VK} (hS : SqT K H l [.int z]) (k0 : 0 ≤ k) (k3 : k ≤ 1000) (kk : ∀ p H', Same H H' → SqT K H' p ((List.replicate k.toNat z).map V.int) → Q (.ref p) H') : rRepI K (.ref l) (.int k) H Q := by
  refine ⟨l, k, _, rfl, rfl, hS, by simp, k0, k3, by show 1 ≤ 1000; decide, fun e p hp => ?_, fun e => ?_, fun _ p hp => ?_⟩
  · refine kk p _ (Same.new hp) ?_
    rw [e]
    exact SqT.of upd_same
  · refine kk l H (Same.refl H) ?_
    rw [e]
    exact hS
  · refine kk p _ (Same.new hp) ?_
    rw [rep_one, List.map_replicate]
    exact SqT.of upd_same
theorem TupsIn.upd {K : PySem.W.Frag} {H : Hp} {D : Addr} {xs vs : List V} {o : HO} {Ls : List (List Int)} (h : TupsIn K H vs Ls) (hD : H D = some (.lst xs)) : TupsIn K (upd H D o) vs Ls := ⟨h.1, fun i v hv => by
  obtain ⟨q, h1, l, h2, h3⟩ := h.2 i v hv
  exact ⟨q, h1, l, h2, sqT_upd hD h3⟩⟩
theorem TupsIn.app {K : PySem.W.Frag} {H : Hp} {as bs : List V} {Ls Ms : List (List Int)} (h : TupsIn K H as Ls) (g : TupsIn K H bs Ms) : TupsIn K H (as ++ bs) (Ls ++ Ms) := by
  refine ⟨by rw [List.length_append, List.length_append, h.1, g.1], fun i v hv => ?_⟩
  rcases Nat.lt_or_ge i as.length with c | c
  · rw [List.getElem?_append_left c] at hv
    obtain ⟨q, h1, h2⟩ := h.2 i v hv
    exact ⟨q, by rw [List.getElem?_append_left (by rw [← h.1]; exact c)]; exact h1, h2⟩
  · rw [List.getElem?_append_right c] at hv
    obtain ⟨q, h1, h2⟩ := g.2 _ v hv
    exact ⟨q, by rw [List.getElem?_append_right (by rw [← h.1]; exact c), ← h.1]; exact h1, h2⟩
theorem allR_length (m : Nat) : (allR m).length = 2 ^ m := by
  have := congrArg List.length (allR_num m)
  rw [List.length_map, upto_len] at this
  exact this
theorem allR_take {i j : Nat} {r : List Int} (h : (allR i)[j]? = some r) : ((allR i).take (j + 1)).flatMap (fun r => [r ++ [0], r ++ [1]]) = ((allR i).take j).flatMap (fun r => [r ++ [0], r ++ [1]]) ++ [r ++ [0], r ++ [1]] := by
  rw [List.take_add_one, h, List.flatMap_append] <;> rfl
theorem pow64 {m : Nat} (h : m ≤ 40) : -(2 ^ 64) < (2 : Int) ^ m ∧ (2 : Int) ^ m < 2 ^ 64 := by
  obtain ⟨a, b⟩ := pow_m h
  omega
theorem zeros_map (n : Nat) : (List.replicate n [V.int 0]).flatten = (List.replicate n (0 : Int)).map V.int := by rw [rep_one, List.map_replicate]
theorem ixn {α : Type} {xs : List α} {i : Nat} (h : i < xs.length) : ixN xs.length (i : Int) = some i := Evl.ixN_nat h
/-- one row more is counted -/
def ctL (ws : List Int) (m j : Nat) : List Int := (List.range ws.length).map fun k => (((allR m).take j).countP (tellsB ws k) : Nat)
theorem ctL_len (ws : List Int) (m j : Nat) : (ctL ws m j).length = ws.length := by unfold ctL; rw [List.length_map, List.length_range]
theorem ctL_at {ws : List Int} {m j k : Nat} (h : k < ws.length) : (ctL ws m j)[k]? = some ((((allR m).take j).countP (tellsB ws k) : Nat) : Int) := by
  unfold ctL
  rw [List.getElem?_map, List.getElem?_range h] <;> rfl
theorem ctL_none {ws : List Int} {m j : Nat} {r : List Int} (hr : (allR m)[j]? = some r) (h : mbF ws r = none) : ctL ws m (j + 1) = ctL ws m j := by
  refine ext_at (ctL_len ws m _) (ctL_len ws m _) fun k hk => ?_
  rw [ctL_at hk, ctL_at hk, List.take_add_one, hr, List.countP_append]
  have : List.countP (tellsB ws k) (some r).toList = 0 := by
    show List.countP (tellsB ws k) [r] = 0
    rw [List.countP_cons_of_neg (by unfold tellsB; rw [h]; exact Bool.false_ne_true)] <;> rfl
  rw [this, Nat.add_zero]
theorem ctL_some {ws : List Int} {m j k u : Nat} {r : List Int} (hr : (allR m)[j]? = some r) (h : mbF ws r = some (k, u)) (hk : k < ws.length) : ctL ws m (j + 1) = (ctL ws m j).set k ((((allR m).take j).countP (tellsB ws k) : Nat) + 1) := by
  refine ext_at (n := ws.length) (ctL_len ws m _) (by rw [List.length_set, ctL_len]) fun i hi => ?_
  rw [ctL_at hi, List.getElem?_set, List.take_add_one, hr, List.countP_append]
  by_cases e : k = i
  · subst e
    have : List.countP (tellsB ws k) (some r).toList = 1 := by
      show List.countP (tellsB ws k) [r] = 1
      rw [List.countP_cons_of_pos (by unfold tellsB; rw [h]; exact decide_eq_true rfl)] <;> rfl
    rw [if_pos rfl, if_pos (by rw [ctL_len]; exact hi), this, Int.natCast_add] <;> rfl
  · have : List.countP (tellsB ws i) (some r).toList = 0 := by
      show List.countP (tellsB ws i) [r] = 0
      rw [List.countP_cons_of_neg (by unfold tellsB; rw [h]; exact fun z => e (of_decide_eq_true z))] <;> rfl
    rw [if_neg e, this, Nat.add_zero, ctL_at hi]
theorem ctL_all {ws : List Int} (hp : ∀ x ∈ ws, 0 < x) (hS : 0 < ws.sum) (m : Nat) : ctL ws m (allR m).length = cntL ws m := by
  refine ext_at (ctL_len ws m _) (cntL_len ws m) fun k hk => ?_
  rw [ctL_at hk, List.take_length, count_all hp hS hk]
  unfold cntL
  rw [List.getElem?_map, List.getElem?_range hk] <;> rfl
theorem ctL_zero (ws : List Int) (m : Nat) : ctL ws m 0 = List.replicate ws.length 0 := by
  refine ext_at (ctL_len ws m _) List.length_replicate fun k hk => ?_
  rw [ctL_at hk, List.getElem?_replicate, if_pos hk] <;> rfl
theorem cntL_get {ws : List Int} {m k : Nat} (hk : k < ws.length) : (cntL ws m)[k]? = some (cntF ws m k) := by
  unfold cntL
  rw [List.getElem?_map, List.getElem?_range hk] <;> rfl
theorem at_of {xs : List Int} {i : Nat} {z : Int} (h : xs[i]? = some z) : atI (xs.map V.int) (i : Int) = some (.int z) := atI_nat (by rw [List.getElem?_map, h]; rfl)
theorem cnt_small {ws : List Int} (hp : ∀ x ∈ ws, 0 < x) (hS : 0 < ws.sum) {m k : Nat} (hm : m ≤ 40) (hk : k < ws.length) : 0 ≤ cntF ws m k ∧ cntF ws m k < 2 ^ 41 := by
  refine ⟨cnt_nn ws m k, ?_⟩
  obtain ⟨a, b⟩ := pow_m hm
  have c := fl_bound hp hS (show (0 : Int) ≤ 2 ^ m by omega) (k := k + 1) (by omega)
  have d := ce_nn hp hS (show (0 : Int) ≤ 2 ^ m by omega) (k := k) (by omega)
  unfold cntF
  split
  · decide
  · split <;> omega
section
variable {P : Program} {w : World} {K : PySem.W.Frag} {mg : Str → Option Value} {base : Heap}
def spPower : Sp := fun vs H Q _ => ∃ (m : Nat), vs = [.int 2, .int (m : Int)] ∧ m ≤ 40 ∧ Q (.int (2 ^ m)) H
abbrev nLawPower : List Str := ["_law_number", "_law_many", "_law_found", "_law_turn"]
theorem scLawPower : FnScope nLawPower ["_law_number", "_law_many"] (defScope s_law_power) := ⟨rfl, rfl, rfl, by decide +kernel, rfl, by decide +kernel, by decide +kernel⟩
theorem ok_power {f : Addr} {fd : FuncData} (F : Fun K "_law_power" "_law_power" s_law_power f fd) (T : NmA mg) : FnOk P w K mg base CX0 1 f fd ["_law_number", "_law_many"] spPower := by
  refine F.ok scLawPower (fun vs H Q E h => ?_) (fun cdv A' outer s H vs Q E hr h => ?_)
  · obtain ⟨m, rfl, _⟩ := h
    rfl
  · obtain ⟨m, rfl, m40, k⟩ := h
    refine ⟨_, pss_cons (ps_set (i := 2) scLawPower.nd rfl (Or.inl rfl) pe_int)
      (pss_cons (ps_for PassesOwn.never rfl (pi_range1 (by rfl) T.range (pa_cons (pv 1) pa_nil)) (pg_name (i := 3) scLawPower.nd rfl (Or.inl rfl))
        (pss_one (ps_set (i := 2) scLawPower.nd rfl (Or.inl rfl) (pe_op op_mul (pv 2) (pv 0)))))
      (pss_one (ps_ret (pv 2)))), ?_⟩
    refine ⟨_, rfl, (m : Int), rfl, by omega, by omega, ?_⟩
    refine for_range (lo := 0) (n := m) (fun i σ H' => H' = H ∧ ∃ u : Option V, σ = [some (.int 2), some (.int (m : Int)), some (.int (2 ^ i)), u]) ⟨rfl, none, rfl⟩ ?_ ?_
    · rintro i σ H' hi ⟨rfl, u, rfl⟩
      refine ⟨_, rfl, _, rfl, _, _, rfl, rfl, .inl (pow64 (by omega)), rfl, some (.int (0 + (i : Int))), ?_⟩
      rw [Int.pow_succ]
      rfl
    · rintro σ H' ⟨rfl, u, rfl⟩
      exact ⟨_, rfl, k⟩
def spAllRows (K : PySem.W.Frag) : Sp := fun vs H Q _ => ∃ (m : Nat), vs = [.int 2, .int (m : Int)] ∧ m ≤ 6 ∧ ∀ D H' us, Same H H' → H' D = some (.lst us) → TupsIn K H' us (allR m) → Q (.ref D) H'
abbrev nLawAllRows : List Str := ["_law_moves", "_law_many", "_law_found", "_law_turn", "_law_longer", "_law_row", "_law_move_here"]
theorem scLawAllRows : FnScope nLawAllRows ["_law_moves", "_law_many"] (defScope s_law_all_rows) := ⟨rfl, rfl, rfl, by decide +kernel, rfl, by decide +kernel, by decide +kernel⟩
theorem ok_all_rows {f : Addr} {fd : FuncData} (F : Fun K "_law_all_rows" "_law_all_rows" s_law_all_rows f fd) (T : NmA mg) : FnOk P w K mg base CX0 1 f fd ["_law_moves", "_law_many"] (spAllRows K) := by
  refine F.ok scLawAllRows (fun vs H Q E h => ?_) (fun cdv A' outer s H vs Q E hr h => ?_)
  · obtain ⟨m, rfl, _⟩ := h
    rfl
  · obtain ⟨m, rfl, m6, k⟩ := h
    refine ⟨_, pss_cons (ps_set (i := 2) scLawAllRows.nd rfl (Or.inl rfl) (pe_lst (pa_cons (pe_tup pa_nil) pa_nil)))
      (pss_cons (ps_for PassesOwn.never rfl (pi_range1 (by rfl) T.range (pa_cons (pv 1) pa_nil)) (pg_name (i := 3) scLawAllRows.nd rfl (Or.inl rfl))
        (pss_cons (ps_set (i := 4) scLawAllRows.nd rfl (Or.inl rfl) (pe_lst pa_nil))
        (pss_cons (ps_for PassesOwn.never rfl (pi_list (pv 2)) (pg_name (i := 5) scLawAllRows.nd rfl (Or.inr rfl))
          (pss_one (ps_expr (pe_bm PySem.F.plainAttrs_list PySem.F.slot_list_extend PySem.F.type_list_extend mt_extend (pv 4) (pa_cons (pe_lc (own := [("_law_move_here", 6)]) (g := (gName 6)) (tt := tYes) rfl scLawAllRows.nd  (pi_range1 (by rfl) T.range (pa_cons (pv 0) pa_nil)) (blkOk_by (own := [("_law_move_here", 6)]) (N := nLawAllRows) (sc := defScope s_law_all_rows) (by decide +kernel)) (fun _ _ _ _ _ => (pg_name (i := 6) scLawAllRows.nd rfl (Or.inl rfl))) (fun _ _ _ _ _ => pts_nil) (fun _ _ _ _ _ => (pe_op (r := rCatA K) (show OpR _ (binaryOp .Add) (rCatA K) from op_catA) (pv 5) (pe_tup (pa_cons (pv 6) pa_nil))))) pa_nil)))))
        (pss_one (ps_set (i := 2) scLawAllRows.nd rfl (Or.inl rfl) (pv 4))))))
      (pss_one (ps_ret (pv 2)))), ?_⟩
    refine ⟨by show 0 ≤ sizeLine; decide, fun e he => ⟨by show 1 ≤ sizeLine; decide, fun D hD => ?_⟩⟩
    have s1 : Same H (upd (upd H e (.tup [])) D (.lst [.ref e])) := (Same.new he).trans (Same.new hD)
    have g1 : (upd (upd H e (.tup [])) D (.lst [.ref e])) D = some (.lst [.ref e]) := upd_same
    have e1 : SqT K (upd (upd H e (.tup [])) D (.lst [.ref e])) e (([] : List Int).map V.int) := SqT.of ((Same.new hD) _ _ upd_same)
    generalize upd (upd H e (.tup [])) D (.lst [.ref e]) = H1 at s1 g1 e1 ⊢
    refine ⟨_, rfl, (m : Int), rfl, by omega, by omega, ?_⟩
    refine for_range (lo := 0) (n := m) (fun i σ H' => Same H H' ∧ ∃ (D : Addr) (us : List V) (a b c d : Option V), σ = [some (.int 2), some (.int (m : Int)), some (.ref D), a, b, c, none] ∧ H' D = some (.lst us) ∧ TupsIn K H' us (allR i)) ⟨s1, D, _, none, none, none, none, rfl, g1, rfl, fun i v hv => ?_⟩ ?_ ?_
    · match i, hv with
      | 0, hv => exact ⟨[], rfl, e, (Option.some.inj hv).symm, e1⟩
    · rintro i σ H2 hi ⟨s2, D, us, a, b, c, d, rfl, gD, gT⟩
      have h64 : 2 ^ i ≤ 32 := by
        have : 2 ^ i ≤ 2 ^ 5 := Nat.pow_le_pow_right (by decide) (by omega)
        omega
      have lus : us.length = 2 ^ i := by rw [gT.1, allR_length]
      refine ⟨by show 0 ≤ sizeLine; decide, fun G hG => ?_⟩
      have nDG : D ≠ G := ne_of_none gD hG
      have hGH : H G = none := by
        cases e : H G with
        | none => rfl
        | some o =>
          rw [s2 _ _ e] at hG
          cases hG
      have s3 : Same H2 (upd H2 G (.lst [])) := Same.new hG
      refine ⟨_, rfl, D, rfl, ⟨_, SqL.of (s3 _ _ gD)⟩, for_list (K := K) (a := D) (xs := us) (fun j σ H' => Same H H' ∧ H' D = some (.lst us) ∧ TupsIn K H' us (allR i) ∧ ∃ (acc : List V) (u v : Option V), H' G = some (.lst acc) ∧ TupsIn K H' acc (((allR i).take j).flatMap fun r => [r ++ [0], r ++ [1]]) ∧ σ = [some (.int 2), some (.int (m : Int)), some (.ref D), u, some (.ref G), v, none]) ⟨s2.trans s3, s3 _ _ gD, gT.same s3, [], _, _, upd_same, .nil, rfl⟩ (fun j σ H' _ g => SqL.of g.2.1) ?_ ?_⟩
      · rintro j x σ H3 hj ⟨t3, gD3, gT3, acc, u, v, gG, gA, rfl⟩
        obtain ⟨r, hr, l, rfl, hl⟩ := gT3.2 j x hj
        have hjl := (List.getElem?_eq_some_iff.mp hj).1
        have rl := (allR_len i r (List.mem_of_getElem? hr)).1
        refine ⟨_, rfl, .inl ⟨rfl, _, SqL.of gG⟩, ?_⟩
        refine ⟨_, rfl, 2, rfl, by decide, by decide, fun E hE => ?_⟩
        refine lc_range (lo := 0) (n := 2) (fun q H' => Same H3 H' ∧ ∃ ac, H' E = some (.lst ac) ∧ TupsIn K H' ac ((List.range q).map fun z : Nat => r ++ [(z : Int)])) ⟨Same.new hE, [], upd_same, .nil⟩ (fun q H' hq g => ?_) fun H4 g => ?_
        · obtain ⟨t4, ac, g4, g5⟩ := g
          rw [Int.zero_add]
          have al : ac.length = q := by rw [g5.1, List.length_map, List.length_range]
          refine ⟨rfl, _, rfl, _, rfl, by show 1 ≤ sizeLine; decide, fun t ht => ?_⟩
          have s5 : Same H' (upd H' t (.tup [.int (q : Int)])) := Same.new ht
          have k5 : SqT K (upd H' t (.tup [.int (q : Int)])) t ([(q : Int)].map V.int) := SqT.of upd_same
          generalize upd H' t (.tup [.int (q : Int)]) = H5 at s5 k5 ⊢
          refine cat_any (s5.sqT (t4.sqT hl)) k5 (by rw [rl]; show i + 1 ≤ 1000; omega) fun p H6 s6 h6 => ?_
          have s46 := s5.trans s6
          refine ⟨ac, s46 _ _ g4, small1000 (by omega), (t4.trans s46).mut hE, ac ++ [.ref p], upd_same, ?_⟩
          rw [List.range_succ, List.map_append]
          exact (g5.same s46).snoc (s46 _ _ g4) h6
        · obtain ⟨t4, ac, g4, g5⟩ := g
          have gG4 := t4 _ _ gG
          have al : ac.length = 2 := by rw [g5.1, List.length_map, List.length_range]
          have el : acc.length = 2 * j := by
            rw [gA.1]
            have : ∀ xs : List (List Int), (xs.flatMap fun r => [r ++ [0], r ++ [1]]).length = 2 * xs.length := fun xs => by
              induction xs with
              | nil => rfl
              | cons y ys ih =>
                rw [List.flatMap_cons, List.length_append, ih, List.length_cons]
                show 2 + 2 * ys.length = 2 * (ys.length + 1)
                omega
            rw [this, List.length_take, allR_length]
            omega
          have hGE : G ≠ E := ne_of_none gG hE
          refine ⟨G, E, acc, ac, rfl, rfl, gG4, g4, Nat.le_of_lt (small1000 (by omega)), ?_⟩
          have up : ∀ {vs Ls}, TupsIn K H4 vs Ls → TupsIn K (upd H4 G (.lst (acc ++ ac))) vs Ls := fun h => h.upd gG4
          refine ⟨(t3.trans t4).mut hGH, by rw [upd_ne nDG]; exact t4 _ _ gD3, up (gT3.same t4), acc ++ ac, _, _, upd_same, ?_, rfl⟩
          rw [allR_take hr]
          exact up ((gA.same t4).app g5)
      · rintro σ H3 ⟨t3, gD3, gT3, acc, u, v, gG, gA, rfl⟩
        rw [gT.1, List.take_length] at gA
        exact ⟨_, rfl, t3, G, acc, _, _, _, none, rfl, gG, gA⟩
    · rintro σ H2 ⟨s2, D, us, a, b, c, d, rfl, gD, gT⟩
      exact ⟨_, rfl, k D H2 us s2 gD gT⟩
def spMoveL (K : PySem.W.Frag) : Sp := fun vs H Q _ => ∃ (wd ba : Addr) (many : Nat) (Ls : List (List Int)) (ws bits : List Int), vs = [.ref wd, .ref ba] ∧ WAt K H wd many Ls ws ∧ WOk many Ls ws ∧ SqT K H ba (bits.map V.int) ∧ IsB bits ∧ bits.length ≤ 200 ∧ ∀ v H', Same H H' → MbAt K H' v (mbF ws bits) → Q v H'
abbrev nLawMove : List Str := ["_law_world_here", "_law_bits_here", "_law_number", "_law_scale", "_law_at", "_law_low_here", "_law_move_here", "_law_high"]
theorem scLawMove : FnScope nLawMove ["_law_world_here", "_law_bits_here"] (defScope s_law_move) := ⟨rfl, rfl, rfl, by decide +kernel, rfl, by decide +kernel, by decide +kernel⟩
theorem ok_moveL {f : Addr} {fd : FuncData} (F : Fun K "_law_move" "_law_move" s_law_move f fd) (T : NmA mg) : FnOk P w K mg base CX0 1 f fd ["_law_world_here", "_law_bits_here"] (spMoveL K) := by
  refine F.ok scLawMove (fun vs H Q E h => ?_) (fun cdv A' outer s H vs Q E hr h => ?_)
  · obtain ⟨wd, ba, many, Ls, ws, bits, rfl, _⟩ := h
    rfl
  · obtain ⟨wd, ba, many, Ls, ws, bits, rfl, hW, ok, hB, hb, h200, k⟩ := h
    have hu := hu_of hr
    refine ⟨_, pss_cons (ps_asg (pe_tup (pa_cons pe_int (pa_cons pe_int pa_nil))) (pg_tup (by rfl) (pgs_cons (pg_name (i := 2) scLawMove.nd rfl (Or.inl rfl)) (pgs_cons (pg_name (i := 3) scLawMove.nd rfl (Or.inl rfl)) pgs_nil))))
      (pss_cons (ps_for PassesOwn.never rfl (pi_range1 (by rfl) T.range (pa_cons (pe_callB call_len_seq (by rfl) T.len PySem.boot_len (pa_cons (pv 1) pa_nil)) pa_nil)) (pg_name (i := 4) scLawMove.nd rfl (Or.inl rfl))
        (pss_cons (ps_par3 (i := 2) (j := 3) (l := 5) (by rfl) scLawMove.nd rfl rfl rfl (by decide) (by decide) (by decide) rfl rfl rfl (pa_cons (pe_op op_add (pe_op op_mulW pe_int (pv 2)) (pe_ix ix_tup (pv 1) (pv 4) (fun _ _ => rfl))) (pa_cons (pe_op op_mulW pe_int (pv 3)) (pa_cons pe_int pa_nil))) (by rfl))
        (pss_one (ps_for PassesOwn.never rfl (pi_range1 (by rfl) T.range (pa_cons (pe_callB call_len_seq (by rfl) T.len PySem.boot_len (pa_cons (pe_dget hu (pv 0) pe_str (fun _ _ => rfl)) pa_nil)) pa_nil)) (pg_name (i := 6) scLawMove.nd rfl (Or.inl rfl))
          (pss_cons (ps_set (i := 7) scLawMove.nd rfl (Or.inl rfl) (pe_op op_add (pv 5) (pe_ix ix_list (pe_dget hu (pv 0) pe_str (fun _ _ => rfl)) (pv 6) (fun _ _ => rfl))))
          (pss_cons (ps_if (PW.pt (pw_and (pt_cmpR op_le (pe_op op_mulW (pv 5) (pv 3)) (pe_op op_mulW (pv 2) (pe_dget hu (pv 0) pe_str (fun _ _ => rfl))) (nomark _)) (pw_and1 (pt_cmpR op_le (pe_op op_mulW (pe_op op_add (pv 2) pe_int) (pe_dget hu (pv 0) pe_str (fun _ _ => rfl))) (pe_op op_mulW (pv 7) (pv 3)) (nomark _)))))
            (pss_one (ps_ret (pe_tup (pa_cons (pv 6) (pa_cons (pe_op op_add (pv 4) pe_int) pa_nil))))) pss_nil)
          (pss_one (ps_set (i := 5) scLawMove.nd rfl (Or.inl rfl) (pv 7)))))))))
      (pss_one (ps_ret pe_non))), ?_⟩
    obtain ⟨la, wa, vs, h1, h2, h3, h4⟩ := id hW
    obtain ⟨wp, w0, w40⟩ := w_pos ok
    have l24 := ok.l2
    have wl := ok.wl
    refine ⟨by show 2 ≤ sizeLine; decide, fun z hz => ⟨z, _, rfl, SqT.of upd_same, rfl, _, _, rfl, _, _, rfl, rfl, ?_⟩⟩
    have s0 : Same H (upd H z (.tup [.int 0, .int 1])) := Same.new hz
    generalize upd H z (.tup [.int 0, .int 1]) = H0 at s0 ⊢
    refine ⟨_, rfl, ba, _, rfl, .inr (s0.sqT hB), ((bits.length : Nat) : Int), (by rw [List.length_map]), by omega, by omega, ?_⟩
    refine for_range (lo := 0) (n := bits.length) (fun i σ H' => Same H H' ∧ ∃ a b c d : Option V, σ = [some (.ref wd), some (.ref ba), some (.int (foldN 0 (bits.take i))), some (.int (2 ^ i)), a, b, c, d] ∧ mbF ws bits = mbG ws (bits.drop i) (foldN 0 (bits.take i)) (2 ^ i) i) ⟨s0, none, none, none, none, rfl, rfl⟩ ?_ ?_
    · rintro i σ H1 hi ⟨s1, a, b, c, d, rfl, hg⟩
      rw [Int.zero_add]
      have hbi : bits[i]? = some bits[i] := List.getElem?_eq_getElem hi
      have hb0 := hb _ (List.getElem_mem hi)
      have tk : bits.take (i + 1) = bits.take i ++ [bits[i]] := by rw [List.take_add_one, hbi] <;> rfl
      obtain ⟨n0, n1⟩ := num_lt (bs := bits.take i) (i := i) (fun x hx => hb x (List.mem_of_mem_take hx)) (by rw [List.length_take]; omega) (by omega)
      obtain ⟨m0, m1⟩ := num_lt (bs := bits.take (i + 1)) (i := i + 1) (fun x hx => hb x (List.mem_of_mem_take hx)) (by rw [List.length_take]; omega) (by omega)
      have es : foldN 0 (bits.take (i + 1)) = 2 * foldN 0 (bits.take i) + bits[i] := by rw [tk, fold_snoc]
      have ep : (2 : Int) ^ (i + 1) = 2 * 2 ^ i := by rw [Int.pow_succ, Int.mul_comm]
      have c1 := sc_lt (i := i + 1) (by omega)
      have c0 : (0 : Int) ≤ 2 ^ (i + 1) := Int.le_of_lt (Int.pow_pos (by decide))
      refine ⟨_, rfl, _, _, rfl, rfl, wide_mul (a := 2) (b := 201) (by decide) n1 (by decide) (by decide) (by decide), _, rfl, _, rfl, ba, _, _, _, rfl, rfl, s1.sqT hB, at_of hbi, _, _, rfl, rfl, _, rfl, _, _, rfl, rfl, wide_mul (a := 2) (b := 201) (by decide) (sc_lt (i := i) (by omega)) (by decide) (by decide) (by decide), _, _, _, rfl, ?_⟩
      have s2 : Same H H1 := s1
      have dr : bits.drop i = bits[i] :: bits.drop (i + 1) := List.drop_eq_getElem_cons hi
      rw [dr] at hg
      unfold mbG at hg
      rw [← es, ← ep] at hg
      have h1' := s2 _ _ h1
      have h4' := s2 _ _ h4
      refine ⟨_, rfl, wd, _, rfl, gw_weights h1', wa, _, rfl, .inl (SqL.of h4'), ((ws.length : Nat) : Int), (by rw [List.length_map]), by omega, by omega, ?_⟩
      refine for_range (lo := 0) (n := ws.length) (fun j σ H' => H' = H1 ∧ ∃ u v : Option V, σ = [some (.ref wd), some (.ref ba), some (.int (2 * foldN 0 (bits.take i) + bits[i])), some (.int (2 * 2 ^ i)), some (.int (i : Int)), some (.int (pre ws j)), u, v] ∧ ∀ q, q < j → inW ws (foldN 0 (bits.take (i + 1))) (2 ^ (i + 1)) q = false) ⟨rfl, _, _, rfl, fun q hq => absurd hq (Nat.not_lt_zero q)⟩ ?_ ?_
      · rintro j σ H' hj ⟨rfl, u, v, rfl, hno⟩
        rw [Int.zero_add]
        have hwj : ws[j]? = some ws[j] := List.getElem?_eq_getElem hj
        have eh : pre ws j + ws[j] = pre ws (j + 1) := by rw [pre_succ hj, getD_of hj]
        have p0 := pre_nn wp (k := j) (by omega)
        have p1 := pre_nn wp (k := j + 1) (by omega)
        have p2 := pre_mono wp (j := j) (k := ws.length) (by omega) (Nat.le_refl _)
        have p3 := pre_mono wp (j := j + 1) (k := ws.length) (by omega) (Nat.le_refl _)
        rw [pre_all] at p2 p3
        have q1 : (pre ws j).natAbs < 2 ^ 41 := by omega
        have q2 : (pre ws j + ws[j]).natAbs < 2 ^ 41 := by omega
        have q3 : (2 * foldN 0 (bits.take i) + bits[i]).natAbs < 2 ^ 201 := by rw [← es]; exact m1
        have q4 : (2 * foldN 0 (bits.take i) + bits[i] + 1).natAbs < 2 ^ 202 := by omega
        have q5 : (2 * (2 : Int) ^ i).natAbs < 2 ^ 201 := by rw [← ep]; exact c1
        have q6 : (ws.sum).natAbs < 2 ^ 41 := by omega
        have miss : inW ws (foldN 0 (bits.take (i + 1))) (2 ^ (i + 1)) j = false → ∀ q, q < j + 1 → inW ws (foldN 0 (bits.take (i + 1))) (2 ^ (i + 1)) q = false := fun h q hq => by
          rcases Nat.lt_or_ge q j with c | c
          · exact hno q c
          · have : q = j := by omega
            subst this
            exact h
        have ei : inW ws (foldN 0 (bits.take (i + 1))) (2 ^ (i + 1)) j = (decide (pre ws j * (2 * 2 ^ i) ≤ (2 * foldN 0 (bits.take i) + bits[i]) * ws.sum) && decide ((2 * foldN 0 (bits.take i) + bits[i] + 1) * ws.sum ≤ (pre ws j + ws[j]) * (2 * 2 ^ i))) := by
          unfold inW
          rw [es, ep, eh]
        refine ⟨_, rfl, _, rfl, wd, _, rfl, gw_weights h1', _, rfl, wa, _, _, _, rfl, rfl, SqL.of h4', at_of hwj, _, _, rfl, rfl, ?_⟩
        refine ⟨_, rfl, _, rfl, _, _, rfl, rfl, wide_mul q1 q5 (by decide) (by decide) (by decide), _, rfl, _, rfl, wd, _, rfl, gw_sum h1', _, _, rfl, rfl, wide_mul q3 q6 (by decide) (by decide) (by decide), _, _, rfl, rfl, _, rfl, ite2 (fun x1 => ?_) (fun x1 => ?_)⟩
        · refine ⟨_, rfl, _, _, rfl, rfl, _, rfl, wd, _, rfl, gw_sum h1', _, _, rfl, rfl, wide_mul q4 q6 (by decide) (by decide) (by decide), _, rfl, _, rfl, _, _, rfl, rfl, wide_mul q2 q5 (by decide) (by decide) (by decide), _, _, rfl, rfl, _, rfl, ite2 (fun x2 => ?_) (fun x2 => ?_)⟩
          · refine ⟨_, rfl, _, rfl, _, _, rfl, rfl, by show 2 ≤ sizeLine; decide, fun t5 ht5 => ?_⟩
            rw [mv_hit hj (by rw [ei, x1, x2]; rfl) hno] at hg
            refine k _ _ (s2.trans (Same.new ht5)) ?_
            rw [hg]
            exact ⟨t5, rfl, SqT.of upd_same⟩
          · rw [Bool.not_eq_true] at x2
            refine ⟨_, rfl, rfl, some (.int (j : Int)), some (.int (pre ws j + ws[j])), ?_, miss (by rw [ei, x1, x2]; rfl)⟩
            rw [← eh]
            rfl
        · rw [Bool.not_eq_true] at x1
          refine ⟨_, rfl, rfl, some (.int (j : Int)), some (.int (pre ws j + ws[j])), ?_, miss (by rw [ei, x1]; rfl)⟩
          rw [← eh]
          rfl
      · rintro σ H' ⟨rfl, u, v, rfl, hno⟩
        rw [mv_none hno] at hg
        refine ⟨s2, some (.int (i : Int)), some (.int (pre ws ws.length)), u, v, ?_, hg⟩
        rw [es, ep]
    · rintro σ H1 ⟨s1, a, b, c, d, rfl, hg⟩
      rw [List.drop_length] at hg
      refine k _ _ s1 ?_
      rw [hg]
      exact rfl
def spCoinsTold (K : PySem.W.Frag) : Sp := fun vs H Q _ => ∃ (wd ba : Addr) (many : Nat) (Ls : List (List Int)) (ws bits : List Int), vs = [.ref wd, .ref ba] ∧ WAt K H wd many Ls ws ∧ WOk many Ls ws ∧ SqT K H ba (bits.map V.int) ∧ IsB bits ∧ bits.length ≤ 200 ∧
  ∀ t ca H' (cs : List Int) (n : Nat), Same H H' → SqT K H' t [.ref ca, .int (n : Int)] → SqT K H' ca (cs.map V.int) → (cs, n) = ctF ws bits → CsOk ws.length cs → cs.length ≤ 200 → Q (.ref t) H'
abbrev nLawCoinsTold : List Str := ["_law_world_here", "_law_bits_here", "_law_coins", "_law_taken", "_law_turn", "_law_told"]
theorem scLawCoinsTold : FnScope nLawCoinsTold ["_law_world_here", "_law_bits_here"] (defScope s_law_coins_told) := ⟨rfl, rfl, rfl, by decide +kernel, rfl, by decide +kernel, by decide +kernel⟩
theorem ok_coins_told {f : Addr} {fd : FuncData} {fcMoveL : Addr} {fdcMoveL : FuncData} (F : Fun K "_law_coins_told" "_law_coins_told" s_law_coins_told f fd) (T : NmA mg) (cMoveL : Cl P w K mg base CX0 1 "_law_move" fcMoveL fdcMoveL ["_law_world_here", "_law_bits_here"] (spMoveL K)) : FnOk P w K mg base CX0 2 f fd ["_law_world_here", "_law_bits_here"] (spCoinsTold K) := by
  refine F.ok scLawCoinsTold (fun vs H Q E h => ?_) (fun cdv A' outer s H vs Q E hr h => ?_)
  · obtain ⟨wd, ba, many, Ls, ws, bits, rfl, _⟩ := h
    rfl
  · obtain ⟨wd, ba, many, Ls, ws, bits, rfl, hW, ok, hB, hb, h200, k⟩ := h
    refine ⟨_, pss_cons (ps_asg (pe_tup (pa_cons (pe_tup pa_nil) (pa_cons pe_int pa_nil))) (pg_tup (by rfl) (pgs_cons (pg_name (i := 2) scLawCoinsTold.nd rfl (Or.inl rfl)) (pgs_cons (pg_name (i := 3) scLawCoinsTold.nd rfl (Or.inl rfl)) pgs_nil))))
      (Evl.pss_cut (ps_for PassesOwn.never rfl (pi_range1 (by rfl) T.range (pa_cons (pe_callB call_len_seq (by rfl) T.len PySem.boot_len (pa_cons (pv 1) pa_nil)) pa_nil)) (pg_name (i := 4) scLawCoinsTold.nd rfl (Or.inl rfl))
        (pss_cons (ps_set (i := 5) scLawCoinsTold.nd rfl (Or.inl rfl) (cMoveL.call (hr.mono (by decide)) (pa_cons (pv 0) (pa_cons (pe_slice sl_tupA (pv 1) (po_some (pv 3)) po_none) pa_nil))))
        (pss_cons (ps_if (pt_cmpR op_isN (pv 5) pe_non (nomark _))
          (pss_one ps_break) pss_nil)
        (pss_one (ps_par (i := 2) (j := 3) (by rfl) scLawCoinsTold.nd rfl rfl (by decide) rfl rfl (pa_cons (pe_op op_catA (pv 2) (pe_tup (pa_cons (pe_ix ix_tup (pv 5) pe_int (fun _ _ => rfl)) pa_nil))) (pa_cons (pe_op op_add (pv 3) (pe_ix ix_tup (pv 5) pe_int (fun _ _ => rfl))) pa_nil)) (by rfl))))))
      (pss_one (ps_ret (pe_tup (pa_cons (pv 2) (pa_cons (pv 3) pa_nil)))))), ?_⟩
    obtain ⟨wp, w0, _⟩ := w_pos ok
    refine ⟨by show 0 ≤ sizeLine; decide, fun c0 hc0 => ⟨by show 2 ≤ sizeLine; decide, fun z hz => ⟨z, _, rfl, SqT.of upd_same, rfl, _, _, rfl, _, _, rfl, rfl, ?_⟩⟩⟩
    have s1 : Same H (upd (upd H c0 (.tup [])) z (.tup [.ref c0, .int 0])) := (Same.new hc0).trans (Same.new hz)
    have g1 : SqT K (upd (upd H c0 (.tup [])) z (.tup [.ref c0, .int 0])) c0 (([] : List Int).map V.int) := SqT.of ((Same.new hz) _ _ upd_same)
    generalize upd (upd H c0 (.tup [])) z (.tup [.ref c0, .int 0]) = H1 at s1 g1 ⊢
    refine ⟨fun σ' H' => Same H H' ∧ ∃ (ca : Addr) (cs : List Int) (t : Nat) (a b : Option V), σ' = [some (.ref wd), some (.ref ba), some (.ref ca), some (.int (t : Int)), a, b] ∧ SqT K H' ca (cs.map V.int) ∧ (cs, t) = ctF ws bits ∧ CsOk ws.length cs ∧ cs.length ≤ 200, ?_, ?_⟩
    · refine ⟨_, rfl, ba, _, rfl, .inr (s1.sqT hB), ((bits.length : Nat) : Int), (by rw [List.length_map]), by omega, by omega, ?_⟩
      refine for_range (lo := 0) (n := bits.length) (fun i σ H' => Same H H' ∧ ∃ (ca : Addr) (cs : List Int) (t : Nat) (a b : Option V), σ = [some (.ref wd), some (.ref ba), some (.ref ca), some (.int (t : Int)), a, b] ∧ SqT K H' ca (cs.map V.int) ∧ ctF ws bits = ctG ws bits (bits.length - i) cs t ∧ CsOk ws.length cs ∧ cs.length ≤ i ∧ t ≤ bits.length) ⟨s1, c0, [], 0, none, none, rfl, g1, rfl, fun c hc => absurd hc List.not_mem_nil, Nat.le_refl _, Nat.zero_le _⟩ ?_ ?_
      · rintro i σ H2 hi ⟨s2, ca, cs, t, a, b, rfl, gc, ec, cok, cl, tl⟩
        refine ⟨_, rfl, _, rfl, _, rfl, _, rfl, ?_⟩
        unfold tNoPart
        refine sl_from (a := t) (s2.sqT hB) (by rw [List.length_map]; exact tl) fun l H3 s3 h3 => ?_
        rw [← List.map_drop] at h3
        have t3 := s2.trans s3
        refine ⟨wd, l, many, Ls, ws, bits.drop t, rfl, hW.same t3, ok, h3, isb_drop hb t, by rw [List.length_drop]; omega, fun v H4 s4 hm => ?_⟩
        have t4 := t3.trans s4
        have gc4 := (s3.trans s4).sqT gc
        cases e : mbF ws (bits.drop t) with
        | none =>
          rw [e] at hm
          have hm : v = .non := hm
          subst hm
          rw [ct_none e] at ec
          exact ⟨_, rfl, rfl, _, rfl, iteT ⟨t4, ca, cs, t, _, _, rfl, gc4, ec.symm, cok, by omega⟩⟩
        | some q =>
          obtain ⟨kk, u⟩ := q
          rw [e] at hm
          obtain ⟨tt, rfl, ht⟩ := hm
          obtain ⟨b1, b2, b3⟩ := mb_ok w0 (isb_drop hb t) e
          rw [List.length_drop] at b3
          refine ⟨_, rfl, rfl, _, rfl, iteF ?_⟩
          refine ⟨_, rfl, _, rfl, tt, _, _, _, rfl, rfl, ht, ats0 _ _, by show 1 ≤ sizeLine; decide, fun z hz => ?_⟩
          have s5 : Same H4 (upd H4 z (.tup [.int (kk : Int)])) := Same.new hz
          have k5 : SqT K (upd H4 z (.tup [.int (kk : Int)])) z ([(kk : Int)].map V.int) := SqT.of upd_same
          generalize upd H4 z (.tup [.int (kk : Int)]) = H5 at s5 k5 ⊢
          refine cat_any (s5.sqT gc4) k5 (by show cs.length + 1 ≤ 1000; omega) fun p H6 s6 h6 => ?_
          refine ⟨_, rfl, _, rfl, tt, _, _, _, rfl, rfl, s6.sqT (s5.sqT ht), ats1 _ _, _, _, rfl, rfl, ?_⟩
          refine ⟨_, _, rfl, (t4.trans s5).trans s6, p, cs ++ [(kk : Int)], t + u, some (.int (0 + (i : Int))), some (.ref tt), ?_, h6, ?_, fun c hc => ?_, ?_, by omega⟩
          · rw [Int.natCast_add]
            rfl
          · obtain ⟨f', hf⟩ : ∃ f', bits.length - i = f' + 1 := ⟨bits.length - i - 1, by omega⟩
            rw [hf, ct_some e] at ec
            rw [ec]
            congr 1
            omega
          · rcases List.mem_append.mp hc with h | h
            · exact cok c h
            · rw [List.mem_singleton.mp h]
              omega
          · rw [List.length_append]
            show cs.length + 1 ≤ i + 1
            omega
      · rintro σ H2 ⟨s2, ca, cs, t, a, b, rfl, gc, ec, cok, cl, tl⟩
        rw [Nat.sub_self] at ec
        exact ⟨s2, ca, cs, t, _, _, rfl, gc, ec.symm, cok, by omega⟩
    · rintro σ' H2 ⟨s2, ca, cs, t, a, b, rfl, gc, ec, cok, cl⟩
      refine ⟨_, rfl, _, rfl, by show 2 ≤ sizeLine; decide, fun t3 ht3 => ?_⟩
      exact k t3 ca _ cs t (s2.trans (Same.new ht3)) (SqT.of upd_same) ((Same.new ht3).sqT gc) ec cok cl
def spCounts (K : PySem.W.Frag) : Sp := fun vs H Q _ => ∃ (wd : Addr) (m many : Nat) (Ls : List (List Int)) (ws : List Int), vs = [.ref wd, .int (m : Int)] ∧ WAt K H wd many Ls ws ∧ WOk many Ls ws ∧ m ≤ 40 ∧
  ∀ t ca H', Same H H' → SqT K H' t [.ref ca, .int (2 ^ m)] → H' ca = some (.lst ((cntL ws m).map V.int)) → Q (.ref t) H'
abbrev nLawCounts : List Str := ["_law_world_here", "_law_many", "_law_scale", "_law_found", "_law_low_here", "_law_turn", "_law_weight", "_law_high", "_law_first", "_law_last"]
theorem scLawCounts : FnScope nLawCounts ["_law_world_here", "_law_many"] (defScope s_law_counts) := ⟨rfl, rfl, rfl, by decide +kernel, rfl, by decide +kernel, by decide +kernel⟩
theorem ok_counts {f : Addr} {fd : FuncData} (F : Fun K "_law_counts" "_law_counts" s_law_counts f fd) (T : NmA mg) : FnOk P w K mg base CX0 1 f fd ["_law_world_here", "_law_many"] (spCounts K) := by
  refine F.ok scLawCounts (fun vs H Q E h => ?_) (fun cdv A' outer s H vs Q E hr h => ?_)
  · obtain ⟨wd, m, many, Ls, ws, rfl, _⟩ := h
    rfl
  · obtain ⟨wd, m, many, Ls, ws, rfl, hW, ok, m40, k⟩ := h
    have hu := hu_of hr
    refine ⟨_, pss_cons (ps_par3 (i := 2) (j := 3) (l := 4) (by rfl) scLawCounts.nd rfl rfl rfl (by decide) (by decide) (by decide) rfl rfl rfl (pa_cons pe_int (pa_cons (pe_lst pa_nil) (pa_cons pe_int pa_nil))) (by rfl))
      (pss_cons (ps_for PassesOwn.never rfl (pi_range1 (by rfl) T.range (pa_cons (pv 1) pa_nil)) (pg_name (i := 5) scLawCounts.nd rfl (Or.inl rfl))
        (pss_one (ps_set (i := 2) scLawCounts.nd rfl (Or.inl rfl) (pe_op op_mulW (pv 2) pe_int))))
      (pss_cons (ps_for PassesOwn.never rfl (pi_list (pe_dget hu (pv 0) pe_str (fun _ _ => rfl))) (pg_name (i := 6) scLawCounts.nd rfl (Or.inl rfl))
        (pss_cons (ps_set (i := 7) scLawCounts.nd rfl (Or.inl rfl) (pe_op op_add (pv 4) (pv 6)))
        (pss_cons (ps_par (i := 8) (j := 9) (by rfl) scLawCounts.nd rfl rfl (by decide) rfl rfl (pa_cons (pe_op op_fdivW (pe_op op_sub (pe_op op_add (pe_op op_mulW (pv 4) (pv 2)) (pe_dget hu (pv 0) pe_str (fun _ _ => rfl))) pe_int) (pe_dget hu (pv 0) pe_str (fun _ _ => rfl))) (pa_cons (pe_op op_fdivW (pe_op op_mulW (pv 7) (pv 2)) (pe_dget hu (pv 0) pe_str (fun _ _ => rfl))) pa_nil)) (by rfl))
        (pss_cons (ps_expr (pe_bm PySem.F.plainAttrs_list PySem.F.slot_list_append PySem.F.type_list_append mt_append (pv 3) (pa_cons (pe_ifExp (pt_cmpR op_gt (pv 1) pe_int (nomark _)) (pe_callB (call_max2 rfl) (by rfl) T.max (by decide +kernel) (pa_cons pe_int (pa_cons (pe_op op_sub (pv 9) (pv 8)) pa_nil))) pe_int) pa_nil)))
        (pss_one (ps_set (i := 4) scLawCounts.nd rfl (Or.inl rfl) (pv 7)))))))
      (pss_one (ps_ret (pe_tup (pa_cons (pv 3) (pa_cons (pv 2) pa_nil))))))), ?_⟩
    obtain ⟨la, wa, vs, h1, h2, h3, h4⟩ := id hW
    obtain ⟨wp, w0, w40⟩ := w_pos ok
    have l24 := ok.l2
    have wl := ok.wl
    obtain ⟨x1, x2⟩ := pow_m m40
    refine ⟨by show 0 ≤ sizeLine; decide, fun D hD => ⟨_, _, _, rfl, ?_⟩⟩
    have s1 : Same H (upd H D (.lst [])) := Same.new hD
    have g1 : (upd H D (.lst [])) D = some (.lst []) := upd_same
    generalize upd H D (.lst []) = H1 at s1 g1 ⊢
    refine ⟨_, rfl, (m : Int), rfl, by omega, by omega, ?_⟩
    refine for_range (lo := 0) (n := m) (fun i σ H' => H' = H1 ∧ ∃ u : Option V, σ = [some (.ref wd), some (.int (m : Int)), some (.int (2 ^ i)), some (.ref D), some (.int 0), u, none, none, none, none]) ⟨rfl, none, rfl⟩ ?_ ?_
    · rintro i σ H' hi ⟨rfl, u, rfl⟩
      refine ⟨_, rfl, _, _, rfl, rfl, wide_mul (a := 201) (b := 2) (sc_lt (i := i) (by omega)) (by decide) (by decide) (by decide) (by decide), rfl, some (.int (0 + (i : Int))), ?_⟩
      rw [Int.pow_succ]
      rfl
    · rintro σ H' ⟨rfl, u, rfl⟩
      refine ⟨_, rfl, wd, _, rfl, gw_weights (s1 _ _ h1), wa, rfl, ⟨_, SqL.of (s1 _ _ h4)⟩, for_list (K := K) (a := wa) (xs := ws.map V.int) (fun i σ H2 => Same H H2 ∧ H2 D = some (.lst (((List.range i).map (cntF ws m)).map V.int)) ∧ ∃ a b c d : Option V, σ = [some (.ref wd), some (.int (m : Int)), some (.int (2 ^ m)), some (.ref D), some (.int (pre ws i)), u, a, b, c, d]) ⟨s1, g1, none, none, none, none, rfl⟩ (fun i σ H2 _ g => SqL.of (g.1 _ _ h4)) ?_ ?_⟩
      · rintro i x σ H2 hi ⟨t2, gD, a, b, c, d, rfl⟩
        rw [List.getElem?_map] at hi
        obtain ⟨z, hz, rfl⟩ := Option.map_eq_some_iff.mp hi
        have hil := (List.getElem?_eq_some_iff.mp hz).1
        have ez : ws.getD i 0 = z := by rw [List.getD_eq_getElem?_getD, hz] <;> rfl
        have eh : pre ws i + z = pre ws (i + 1) := by rw [pre_succ hil, ez]
        have p0 := pre_nn wp (k := i) (by omega)
        have p1 := pre_nn wp (k := i + 1) (by omega)
        have p2 := pre_mono wp (j := i) (k := ws.length) (by omega) (Nat.le_refl _)
        have p3 := pre_mono wp (j := i + 1) (k := ws.length) (by omega) (Nat.le_refl _)
        rw [pre_all] at p2 p3
        have q1 : (pre ws i).natAbs < 2 ^ 41 := by omega
        have q2 : (pre ws i + z).natAbs < 2 ^ 41 := by omega
        have q5 := sc_lt (i := m) (by omega)
        have q6 : (ws.sum).natAbs < 2 ^ 41 := by omega
        have h1' := t2 _ _ h1
        have wdv : ∀ y : Int, CDivW y ws.sum := fun y => wide_div (b := 41) w0 q6 (by decide) (by decide)
        have dl : (((List.range i).map (cntF ws m)).map V.int).length < sizeLine := by
          rw [List.length_map, List.length_map, List.length_range]
          exact small1000 (by omega)
        have hDn : H D = none := hD
        refine ⟨_, rfl, _, rfl, _, _, rfl, rfl, ?_⟩
        refine ⟨_, rfl, _, rfl, _, _, rfl, rfl, wide_mul q1 q5 (by decide) (by decide) (by decide), _, rfl, wd, _, rfl, gw_sum h1', _, _, rfl, rfl, _, _, rfl, rfl, _, rfl, wd, _, rfl, gw_sum h1', _, _, rfl, rfl, wdv _, _, rfl, _, rfl, _, _, rfl, rfl, wide_mul q2 q5 (by decide) (by decide) (by decide), _, rfl, wd, _, rfl, gw_sum h1', _, _, rfl, rfl, wdv _, _, _, rfl, ?_⟩
        refine ⟨_, rfl, .inl ⟨rfl, _, SqL.of gD⟩, _, rfl, _, _, rfl, rfl, _, rfl, ite2 (fun hm => ?_) (fun hm => ?_)⟩
        · have hm : m ≠ 0 := by
            have := of_decide_eq_true hm
            omega
          have ec : (if (pre ws i + z) * 2 ^ m / ws.sum - (pre ws i * 2 ^ m + ws.sum - 1) / ws.sum > 0 then (pre ws i + z) * 2 ^ m / ws.sum - (pre ws i * 2 ^ m + ws.sum - 1) / ws.sum else 0) = cntF ws m i := by
            unfold cntF
            rw [if_neg hm, eh] <;> rfl
          refine ⟨_, rfl, _, rfl, _, _, rfl, rfl, _, _, rfl, D, _, _, rfl, rfl, gD, dl, ?_⟩
          refine ⟨_, rfl, t2.mut hDn, ?_, some (.int z), some (.int (pre ws i + z)), some (.int ((pre ws i * 2 ^ m + ws.sum - 1) / ws.sum)), some (.int ((pre ws i + z) * 2 ^ m / ws.sum)), ?_⟩
          · rw [upd_same, cnt_snoc, List.map_append, ← ec] <;> rfl
          · rw [← eh]
            rfl
        · have hm : m = 0 := by
            have z : ¬ (0 : Int) < (m : Int) := fun q => hm (decide_eq_true q)
            omega
          refine ⟨D, _, _, rfl, rfl, gD, dl, ?_⟩
          refine ⟨_, rfl, t2.mut hDn, ?_, some (.int z), some (.int (pre ws i + z)), some (.int ((pre ws i * 2 ^ m + ws.sum - 1) / ws.sum)), some (.int ((pre ws i + z) * 2 ^ m / ws.sum)), ?_⟩
          · rw [upd_same, cnt_snoc, List.map_append, show cntF ws m i = 0 by unfold cntF; rw [if_pos hm]] <;> rfl
          · rw [← eh]
            rfl
      · rintro σ H2 ⟨t2, gD, a, b, c, d, rfl⟩
        rw [List.length_map] at gD
        refine ⟨_, rfl, _, rfl, by show 2 ≤ sizeLine; decide, fun t3 ht3 => ?_⟩
        exact k t3 D _ (t2.trans (Same.new ht3)) (SqT.of upd_same) ((Same.new ht3) _ _ gD)
end
end Law

namespace Law
open PySem L2
theorem low_mul {n S x : Int} (hx0 : 0 ≤ x) (hS : 0 < S) (hn : x ≤ n) : (lowP x S).1 * S ≤ n * (lowP x S).2 ∧ 0 ≤ (lowP x S).1 ∧ (lowP x S).1 ≤ x ∧ 0 < (lowP x S).2 ∧ (lowP x S).2 ≤ S := by
  have c := lowP_cross (t := x) hS
  obtain ⟨l1, l2⟩ := lowP_le hx0 hS
  have gp := gI_pos (t := x) hS
  have d2 : gI x S ∣ S := by
    unfold gI
    exact Int.ofNat_dvd_left.mpr (Nat.gcd_dvd_right _ _)
  have p2 : 0 < (lowP x S).2 := Int.ediv_pos_of_pos_of_dvd hS (Int.le_of_lt gp) d2
  have p1 : 0 ≤ (lowP x S).1 := Int.ediv_nonneg hx0 (Int.le_of_lt gp)
  refine ⟨?_, p1, l1, p2, l2⟩
  rw [Int.mul_comm, c]
  exact Int.mul_le_mul_of_nonneg_right hn (Int.le_of_lt p2)
theorem lstI_dp {K : PySem.W.Frag} {H : Hp} {a : Addr} {l : List Int} (h : SqL K H a (l.map V.int)) : Dp K H (.ref a) (.list (l.map .int)) := .lst h (dp_ints l)
def cnD (l : List Int) (s : Int) : PyData := .tuple [.list (l.map .int), .int s]
theorem lay_cn (l : List Int) (s : Int) : (cnD l s).canLay0 = true ∧ (cnD l s).depth ≤ 2 := by
  have h := lay_all PyData.int 0 lay_int l
  unfold cnD
  refine ⟨?_, ?_⟩
  · simp only [PyData.canLay0, PyData.canLayAll0, h.1, Bool.and_self]
  · simp only [PyData.depth, PyData.depthAll]
    omega
theorem sh_cn (l : List Int) (s : Int) : SeqAt.shaped (cnD l s) = true := shaped_of (lay_cn l s) (by decide)
theorem eq_cn (l : List Int) (s : Int) : PyData.eqv (cnD l s) (cnD l s) = true := SeqAt.eqv_refl _ (lay_cn l s).1
theorem rep_snoc {α : Type} (n : Nat) (x : α) : List.replicate (n + 1) x = List.replicate n x ++ [x] := List.replicate_succ'
section
variable {P : Program} {w : World} {K : PySem.W.Frag} {mg : Str → Option Value} {base : Heap}
def spShR (K : PySem.W.Frag) (C : Addr) : Sp := fun vs H Q _ => ∃ (wd sy ca : Addr) (m many : Nat) (Ls : List (List Int)) (ws : List Int), vs = [.ref wd, .ref sy, .int (m : Int), .ref ca, .int (2 ^ m)] ∧ WAt K H wd many Ls ws ∧ WOk many Ls ws ∧ SysAt K C H sy many (movesF Ls ws) ∧ m ≤ 40 ∧ H ca = some (.lst ((cntL ws m).map V.int)) ∧ ∀ H', Same H H' → Q (.bl true) H'
abbrev nLawSharesRight : List Str := ["_law_world_here", "_law_system", "_law_many", "_law_counts_here", "_law_scale", "_law_told", "_law_left", "_law_count", "_law_k"]
theorem scLawSharesRight : FnScope nLawSharesRight ["_law_world_here", "_law_system", "_law_many", "_law_counts_here", "_law_scale"] (defScope s_law_shares_right) := ⟨rfl, rfl, rfl, by decide +kernel, rfl, by decide +kernel, by decide +kernel⟩
theorem ok_shares_right {f : Addr} {fd : FuncData} {fcTold : Addr} {fdcTold : FuncData} {fcLow : Addr} {fdcLow : FuncData} {fcOpen : Addr} {fdcOpen : FuncData} {C : Addr} (F : Fun K "_law_shares_right" "_law_shares_right" s_law_shares_right f fd) (T : NmA mg) (cTold : Cl P w K mg base CX0 5 "told_by_bits" fcTold fdcTold ["system", "many"] (spTold K C)) (cLow : Cl P w K mg base CX0 1 "_law_low" fcLow fdcLow ["_law_top", "_law_bottom"] spLowS) (cOpen : Cl P w K mg base CX0 5 "open_by_bits" fcOpen fdcOpen ["system", "many"] (spOpen K C)) : FnOk P w K mg base CX0 6 f fd ["_law_world_here", "_law_system", "_law_many", "_law_counts_here", "_law_scale"] (spShR K C) := by
  refine F.ok scLawSharesRight (fun vs H Q E h => ?_) (fun cdv A' outer s H vs Q E hr h => ?_)
  · obtain ⟨wd, sy, ca, m, many, Ls, ws, rfl, _⟩ := h
    rfl
  · obtain ⟨wd, sy, ca, m, many, Ls, ws, rfl, hW, ok, hS, m40, hC, k⟩ := h
    have hu := hu_of hr
    refine ⟨_, pss_cons (ps_par (i := 5) (j := 6) (by rfl) scLawSharesRight.nd rfl rfl (by decide) rfl rfl (pa_cons (cTold.call (hr.mono (by decide)) (pa_cons (pv 1) (pa_cons (pv 2) pa_nil))) (pa_cons (cLow.call (hr.mono (by decide)) (pa_cons (pe_op op_sub (pv 4) (pe_callB (cr_sum rfl) (by rfl) T.sum (by decide +kernel) (pa_cons (pv 3) pa_nil))) (pa_cons (pv 4) pa_nil))) pa_nil)) (by rfl))
      (pss_cons (ps_if (PW.pt (pw_or (pt_cmpR (op_neD hr.units) (pv 5) (pe_callTy call_tuple_of (by rfl) T.tuple (by decide +kernel) (pa_cons (pe_lc (own := [("_law_count", 7)]) (g := (gName 7)) (tt := tYes) rfl scLawSharesRight.nd  (pi_list (pv 3)) (blkOk_by (own := [("_law_count", 7)]) (N := nLawSharesRight) (sc := defScope s_law_shares_right) (by decide +kernel)) (fun _ _ _ _ _ => (pg_name (i := 7) scLawSharesRight.nd rfl (Or.inl rfl))) (fun _ _ _ _ _ => pts_nil) (fun _ _ _ _ _ => (cLow.call (hr.mono (by decide)) (pa_cons (pv 7) (pa_cons (pv 4) pa_nil))))) pa_nil)) (nomark _)) (pw_or1 (pt_cmpR (op_neD hr.units) (cOpen.call (hr.mono (by decide)) (pa_cons (pv 1) (pa_cons (pv 2) pa_nil))) (pv 6) (nomark _)))))
        (pss_one (ps_ret pe_bl)) pss_nil)
      (pss_cons (ps_if (pt_cmpR op_gt (pe_op op_mul (pe_ix ix_tup (pv 6) pe_int (fun _ _ => rfl)) (pv 4)) (pe_op op_mul (pe_callB call_len_seq (by rfl) T.len PySem.boot_len (pa_cons (pv 3) pa_nil)) (pe_ix ix_tup (pv 6) pe_int (fun _ _ => rfl))) (nomark _))
        (pss_one (ps_ret pe_bl)) pss_nil)
      (pss_one (ps_ret (pe_callB (cr_all rfl) (by rfl) T.all (by decide +kernel) (pa_cons (pe_lc (own := [("_law_k", 8)]) (g := (gName 8)) (tt := tYes) rfl scLawSharesRight.nd  (pi_range1 (by rfl) T.range (pa_cons (pe_callB call_len_seq (by rfl) T.len PySem.boot_len (pa_cons (pv 3) pa_nil)) pa_nil)) (blkOk_by (own := [("_law_k", 8)]) (N := nLawSharesRight) (sc := defScope s_law_shares_right) (by decide +kernel)) (fun _ _ _ _ _ => (pg_name (i := 8) scLawSharesRight.nd rfl (Or.inl rfl))) (fun _ _ _ _ _ => pts_nil) (fun _ _ _ _ _ => (pe_cmpR op_le (pe_op op_mul (pe_ix (r := rIxL K) (show IxR _ (rIxL K) from ix_list) (pv 3) (pv 8) (fun _ _ => rfl)) (pe_dget hu (pv 0) pe_str (fun _ _ => rfl))) (pe_op op_mul (pe_ix (r := rIxL K) (show IxR _ (rIxL K) from ix_list) (pe_dget hu (pv 0) pe_str (fun _ _ => rfl)) (pv 8) (fun _ _ => rfl)) (pv 4)) (nomark _)))) pa_nil)))))), ?_⟩
    obtain ⟨la, wa, vs, h1, h2, h3, h4⟩ := id hW
    obtain ⟨wp, w0, w40⟩ := w_pos ok
    have l24 := ok.l2
    have wl := ok.wl
    obtain ⟨x1, x2⟩ := pow_m m40
    obtain ⟨c1, c2, c3⟩ := cnt_sum wp w0 m
    obtain ⟨y1, y2, y3, y4, y5⟩ := low_mul (n := ((ws.length : Nat) : Int)) (S := 2 ^ m) (x := 2 ^ m - (cntL ws m).sum) (by omega) (by omega) c1
    refine ⟨_, rfl, _, rfl, sy, m, many, Ls, ws, rfl, hS, ok, m40, fun t us H1 s1 ht hf => ?_⟩
    refine ⟨_, rfl, _, rfl, ca, _, rfl, SqL.of (s1 _ _ hC), _, _, rfl, rfl, _, rfl, 2 ^ m - (cntL ws m).sum, 2 ^ m, rfl, by omega, by omega, x2, fun q hq => ⟨_, _, rfl, ?_⟩⟩
    have s2 : Same H1 (upd H1 q (.tup [.int (lowP (2 ^ m - (cntL ws m).sum) (2 ^ m)).1, .int (lowP (2 ^ m - (cntL ws m).sum) (2 ^ m)).2])) := Same.new hq
    have k2 : SqT K (upd H1 q (.tup [.int (lowP (2 ^ m - (cntL ws m).sum) (2 ^ m)).1, .int (lowP (2 ^ m - (cntL ws m).sum) (2 ^ m)).2])) q [.int (lowP (2 ^ m - (cntL ws m).sum) (2 ^ m)).1, .int (lowP (2 ^ m - (cntL ws m).sum) (2 ^ m)).2] := SqT.of upd_same
    generalize upd H1 q (.tup [.int (lowP (2 ^ m - (cntL ws m).sum) (2 ^ m)).1, .int (lowP (2 ^ m - (cntL ws m).sum) (2 ^ m)).2]) = H2 at s2 k2 ⊢
    have t12 := s1.trans s2
    refine ⟨_, rfl, _, rfl, ca, rfl, ⟨_, SqL.of (t12 _ _ hC)⟩, fun D hD => ?_⟩
    refine lc_list (K := K) (a := ca) (xs := (cntL ws m).map V.int) (fun i H' => Same H2 H' ∧ ∃ acc, H' D = some (.lst acc) ∧ FrsIn K H' acc (((cntL ws m).take i).map fun x => lowP x (2 ^ m))) ⟨Same.new hD, [], upd_same, rfl, fun i v hv => by simp at hv⟩ (fun i H' _ h => SqL.of (h.1 _ _ (t12 _ _ hC))) (fun i x H' hi g => ?_) fun H3 g => ?_
    · obtain ⟨t3, acc, g1, g2⟩ := g
      rw [List.getElem?_map] at hi
      obtain ⟨z, hz, rfl⟩ := Option.map_eq_some_iff.mp hi
      have hil := (List.getElem?_eq_some_iff.mp hz).1
      rw [cntL_len] at hil
      have hla : acc.length = i := by
        have y := g2.1
        rw [List.length_map, List.length_take, cntL_len] at y
        omega
      refine ⟨rfl, _, rfl, _, rfl, z, 2 ^ m, rfl, cnt_mem ok z (List.mem_of_getElem? hz), by omega, x2, fun p hp => ?_⟩
      have t2 : Same H' (upd H' p (.tup [.int (lowP z (2 ^ m)).1, .int (lowP z (2 ^ m)).2])) := Same.new hp
      have h3 := t2 _ _ g1
      refine ⟨acc, h3, small1000 (by omega), (t3.trans t2).mut hD, _, upd_same, ?_⟩
      rw [List.take_add_one, hz, List.map_append]
      exact FrsIn.snoc (g2.same t2) h3 ⟨p, rfl, SqT.of upd_same⟩
    obtain ⟨t3, acc, g1, g2⟩ := g
    rw [List.length_map, List.take_length] at g2
    refine ⟨D, _, rfl, .inl ⟨SqL.of g1, fun l hl => ?_⟩⟩
    have s4 : Same H3 (upd H3 l (.tup acc)) := Same.new hl
    have t14 := t12.trans (t3.trans s4)
    have s24 := s2.trans (t3.trans s4)
    refine ⟨frsD _, frsD _, dp_frs (s24.sqT ht) (hf.same s24), dp_frs (SqT.of upd_same) (g2.same s4), sh_frs _, sh_frs _, _, rfl, ?_⟩
    rw [eqv_frsD, decide_eq_true rfl]
    generalize upd H3 l (.tup acc) = H4 at s4 t14 s24 ⊢
    have k4 := (t3.trans s4).sqT k2
    refine iteF ⟨_, rfl, _, rfl, sy, m, many, Ls, ws, rfl, hS.same t14, ok, m40, fun t5 H5 s5 h5 => ?_⟩
    have t15 := t14.trans s5
    have k5 := s5.sqT k4
    refine ⟨_, rfl, frD _, frD _, dp_fr h5, dp_fr k5, sh_fr _, sh_fr _, _, rfl, ?_⟩
    rw [eqv_frD, decide_eq_true rfl]
    refine iteF ?_
    -- left[0] * scale > len(counts) * left[1]
    refine ⟨_, rfl, q, _, _, _, rfl, rfl, k5, ats0 _ _, _, rfl, _, _, rfl, rfl, .inl ⟨by omega, by omega⟩, _, rfl, ca, _, rfl, .inl (SqL.of (t15 _ _ hC)), _, rfl, q, _, _, _, rfl, rfl, k5, ats1 _ _, _, _, rfl, rfl, .inl ⟨?_, ?_⟩, _, _, rfl, rfl, _, rfl, ?_⟩
    · rw [List.length_map, cntL_len]
      omega
    · rw [List.length_map, cntL_len]
      omega
    rw [List.length_map, cntL_len]
    rw [decide_eq_false (show ¬ (((ws.length : Nat) : Int) * (lowP (2 ^ m - (cntL ws m).sum) (2 ^ m)).2 < (lowP (2 ^ m - (cntL ws m).sum) (2 ^ m)).1 * 2 ^ m) by omega)]
    refine iteF ?_
    -- all
    refine ⟨_, rfl, ca, _, rfl, .inl (SqL.of (t15 _ _ hC)), ((ws.length : Nat) : Int), (by rw [List.length_map, cntL_len]), by omega, by omega, fun E hE => ?_⟩
    refine lc_range (lo := 0) (n := ws.length) (fun i H' => Same H5 H' ∧ H' E = some (.lst ((List.replicate i true).map V.bl))) ⟨Same.new hE, upd_same⟩ (fun i H' hi g => ?_) fun H6 g => ?_
    · obtain ⟨t6, g6⟩ := g
      rw [Int.zero_add]
      have t16 := t15.trans t6
      have hwi : ws[i]? = some ws[i] := List.getElem?_eq_getElem hi
      obtain ⟨z1, z2⟩ := cnt_small wp w0 m40 hi
      obtain ⟨u1, u2⟩ := ok.wt _ (List.getElem_mem hi)
      have cl := cnt_le wp w0 (m := m) hi
      rw [getD_of hi] at cl
      refine ⟨rfl, _, rfl, _, rfl, ca, _, _, _, rfl, rfl, SqL.of (t16 _ _ hC), at_of (cntL_get hi), _, rfl, wd, _, rfl, gw_sum (t16 _ _ h1), _, _, rfl, rfl, .inl ⟨by omega, by omega⟩, _, rfl, wd, _, rfl, gw_weights (t16 _ _ h1), _, rfl, wa, _, _, _, rfl, rfl, SqL.of (t16 _ _ h4), at_of hwi, _, rfl, _, _, rfl, rfl, .inl ⟨by omega, by omega⟩, _, _, rfl, rfl, _, g6, ?_, t6.mut hE, ?_⟩
      · rw [List.length_map, List.length_replicate]
        exact small1000 (by omega)
      · rw [upd_same, rep_snoc, List.map_append]
        show some (HO.lst (_ ++ [V.bl (decide (cntF ws m i * ws.sum ≤ ws[i] * 2 ^ m))])) = _
        rw [decide_eq_true cl]
        rfl
    · obtain ⟨t6, g6⟩ := g
      refine ⟨E, _, rfl, SqL.of g6, ?_⟩
      rw [show (List.replicate ws.length true).all id = true by simp]
      exact k _ (t15.trans t6)
def spAllR (K : PySem.W.Frag) (C : Addr) : Sp := fun vs H Q _ => ∃ (wd sy : Addr) (most many : Nat) (Ls : List (List Int)) (ws : List Int), vs = [.ref wd, .ref sy, .int (most : Int)] ∧ WAt K H wd many Ls ws ∧ WOk many Ls ws ∧ SysAt K C H sy many (movesF Ls ws) ∧ most ≤ 6 ∧ ∀ H', Same H H' → Q (.bl true) H'
abbrev nLawAllRight : List Str := ["_law_world_here", "_law_system", "_law_most", "_law_before", "_law_many", "_law_counts_here", "_law_bits_here", "_law_told", "_law_k"]
theorem scLawAllRight : FnScope nLawAllRight ["_law_world_here", "_law_system", "_law_most"] (defScope s_law_all_right) := ⟨rfl, rfl, rfl, by decide +kernel, rfl, by decide +kernel, by decide +kernel⟩
theorem ok_all_right {f : Addr} {fd : FuncData} {fcAllRows : Addr} {fdcAllRows : FuncData} {fcMoveL : Addr} {fdcMoveL : FuncData} {fcMvBits : Addr} {fdcMvBits : FuncData} {fcShR : Addr} {fdcShR : FuncData} {fcPower : Addr} {fdcPower : FuncData} {fcCounts : Addr} {fdcCounts : FuncData} {C : Addr} (F : Fun K "_law_all_right" "_law_all_right" s_law_all_right f fd) (T : NmA mg) (cAllRows : Cl P w K mg base CX0 1 "_law_all_rows" fcAllRows fdcAllRows ["_law_moves", "_law_many"] (spAllRows K)) (cMoveL : Cl P w K mg base CX0 1 "_law_move" fcMoveL fdcMoveL ["_law_world_here", "_law_bits_here"] (spMoveL K)) (cMvBits : Cl P w K mg base CX0 5 "move_by_bits" fcMvBits fdcMvBits ["system", "bits"] (spMvBits K C)) (cShR : Cl P w K mg base CX0 6 "_law_shares_right" fcShR fdcShR ["_law_world_here", "_law_system", "_law_many", "_law_counts_here", "_law_scale"] (spShR K C)) (cPower : Cl P w K mg base CX0 1 "_law_power" fcPower fdcPower ["_law_number", "_law_many"] spPower) (cCounts : Cl P w K mg base CX0 1 "_law_counts" fcCounts fdcCounts ["_law_world_here", "_law_many"] (spCounts K)) : FnOk P w K mg base CX0 7 f fd ["_law_world_here", "_law_system", "_law_most"] (spAllR K C) := by
  refine F.ok scLawAllRight (fun vs H Q E h => ?_) (fun cdv A' outer s H vs Q E hr h => ?_)
  · obtain ⟨wd, sy, most, many, Ls, ws, rfl, _⟩ := h
    rfl
  · obtain ⟨wd, sy, most, many, Ls, ws, rfl, hW, ok, hS, m6, k⟩ := h
    have hu := hu_of hr
    refine ⟨_, pss_cons (ps_set (i := 3) scLawAllRight.nd rfl (Or.inr rfl) (pe_op op_rep (pe_lst (pa_cons pe_int pa_nil)) (pe_callB call_len_seq (by rfl) T.len PySem.boot_len (pa_cons (pe_dget hu (pv 0) pe_str (fun _ _ => rfl)) pa_nil))))
      (pss_cons (ps_for PassesOwn.never rfl (pi_range1 (by rfl) T.range (pa_cons (pe_op op_add (pv 2) pe_int) pa_nil)) (pg_name (i := 4) scLawAllRight.nd rfl (Or.inl rfl))
        (pss_cons (ps_set (i := 5) scLawAllRight.nd rfl (Or.inr rfl) (pe_op op_rep (pe_lst (pa_cons pe_int pa_nil)) (pe_callB call_len_seq (by rfl) T.len PySem.boot_len (pa_cons (pe_dget hu (pv 0) pe_str (fun _ _ => rfl)) pa_nil))))
        (pss_cons (ps_for PassesOwn.never rfl (pi_list (cAllRows.call (hr.mono (by decide)) (pa_cons pe_int (pa_cons (pv 4) pa_nil)))) (pg_name (i := 6) scLawAllRight.nd rfl (Or.inl rfl))
          (pss_cons (ps_set (i := 7) scLawAllRight.nd rfl (Or.inl rfl) (cMoveL.call (hr.mono (by decide)) (pa_cons (pv 0) (pa_cons (pv 6) pa_nil))))
          (pss_cons (ps_if (pt_cmpR (op_neD hr.units) (cMvBits.call (hr.mono (by decide)) (pa_cons (pv 1) (pa_cons (pv 6) pa_nil))) (pv 7) (nomark _))
            (pss_one (ps_ret pe_bl)) pss_nil)
          (pss_one (ps_if (pt_cmpR op_notN (pv 7) pe_non (nomark _))
            (pss_one (ps_asg (pe_op op_add (pe_ix ix_list (pv 5) (pe_ix ix_tup (pv 7) pe_int (fun _ _ => rfl)) (fun _ _ => rfl)) pe_int) (pg_sub (pv 5) (pe_ix ix_tup (pv 7) pe_int (fun _ _ => rfl)) set_list))) pss_nil)))))
        (pss_cons (ps_if (pt_not (pt_truth (cShR.call (hr.mono (by decide)) (pa_cons (pv 0) (pa_cons (pv 1) (pa_cons (pv 4) (pa_cons (pv 5) (pa_cons (cPower.call (hr.mono (by decide)) (pa_cons pe_int (pa_cons (pv 4) pa_nil))) pa_nil)))))) (by intro _; rfl)))
          (pss_one (ps_ret pe_bl)) pss_nil)
        (pss_cons (ps_if (PW.pt (pw_or (pt_cmpR (op_neD hr.units) (pe_tup (pa_cons (pv 5) (pa_cons (cPower.call (hr.mono (by decide)) (pa_cons pe_int (pa_cons (pv 4) pa_nil))) pa_nil))) (cCounts.call (hr.mono (by decide)) (pa_cons (pv 0) (pa_cons (pv 4) pa_nil))) (nomark _)) (pw_or1 (pt_val (pe_callB (cr_any rfl) (by rfl) T.any (by decide +kernel) (pa_cons (pe_lc (own := [("_law_k", 8)]) (g := (gName 8)) (tt := tYes) rfl scLawAllRight.nd  (pi_range1 (by rfl) T.range (pa_cons (pe_callB call_len_seq (by rfl) T.len PySem.boot_len (pa_cons (pv 5) pa_nil)) pa_nil)) (blkOk_by (own := [("_law_k", 8)]) (N := nLawAllRight) (sc := defScope s_law_all_right) (by decide +kernel)) (fun _ _ _ _ _ => (pg_name (i := 8) scLawAllRight.nd rfl (Or.inl rfl))) (fun _ _ _ _ _ => pts_nil) (fun _ _ _ _ _ => (pe_cmpR op_lt (pe_ix (r := rIxL K) (show IxR _ (rIxL K) from ix_list) (pv 5) (pv 8) (fun _ _ => rfl)) (pe_op op_mul pe_int (pe_ix (r := rIxL K) (show IxR _ (rIxL K) from ix_list) (pv 3) (pv 8) (fun _ _ => rfl))) (nomark _)))) pa_nil))))))
          (pss_one (ps_ret pe_bl)) pss_nil)
        (pss_one (ps_set (i := 3) scLawAllRight.nd rfl (Or.inr rfl) (pv 5))))))))
      (pss_one (ps_ret pe_bl))), ?_⟩
    obtain ⟨la, wa, vs, h1, h2, h3, h4⟩ := id hW
    obtain ⟨wp, w0, w40⟩ := w_pos ok
    have l24 := ok.l2
    have wl := ok.wl
    have vl : vs.length = ws.length := by rw [h3.1, wl]
    have zl : ∀ n : Nat, n = ws.length → (List.replicate (((n : Nat) : Int)).toNat [V.int 0]).flatten = (List.replicate ws.length (0 : Int)).map V.int := fun n hn => by rw [Int.toNat_natCast, zeros_map, hn]
    refine ⟨by show 1 ≤ sizeLine; decide, fun z hz => ?_⟩
    have s0 : Same H (upd H z (.lst [.int 0])) := Same.new hz
    refine ⟨_, rfl, wd, _, rfl, gw_leads (s0 _ _ h1), la, _, rfl, .inl (SqL.of (s0 _ _ h2)), z, ((vs.length : Nat) : Int), _, rfl, rfl, upd_same, by omega, by omega, by show 1 * _ ≤ sizeLine; exact Nat.le_of_lt (small1000 (by omega)), fun b0 hb0 => ?_⟩
    have s1 : Same H (upd (upd H z (.lst [.int 0])) b0 (.lst (List.replicate (((vs.length : Nat) : Int)).toNat [V.int 0]).flatten)) := s0.trans (Same.new hb0)
    have g1 : (upd (upd H z (.lst [.int 0])) b0 (.lst (List.replicate (((vs.length : Nat) : Int)).toNat [V.int 0]).flatten)) b0 = some (.lst ((List.replicate ws.length (0 : Int)).map V.int)) := by rw [upd_same, zl _ vl]
    generalize upd (upd H z (.lst [.int 0])) b0 (.lst (List.replicate (((vs.length : Nat) : Int)).toNat [V.int 0]).flatten) = H1 at s1 g1 ⊢
    refine ⟨_, rfl, _, _, rfl, rfl, ((most + 1 : Nat) : Int), rfl, by omega, by omega, ?_⟩
    refine for_range (lo := 0) (n := most + 1) (fun i σ H' => Same H H' ∧ ∃ (ba : Addr) (bl : List Int) (a b c d : Option V), σ = [some (.ref wd), some (.ref sy), some (.int (most : Int)), some (.ref ba), a, b, c, d, none] ∧ H' ba = some (.lst (bl.map V.int)) ∧ bl.length = ws.length ∧ ∀ q, q < ws.length → ∃ y, bl[q]? = some y ∧ 0 ≤ y ∧ y < 2 ^ 41 ∧ 2 * y ≤ cntF ws i q) ⟨s1, b0, List.replicate ws.length 0, none, none, none, none, rfl, g1, List.length_replicate, fun q hq => ⟨0, by rw [List.getElem?_replicate, if_pos hq], by decide, by decide, cnt_nn ws 0 q⟩⟩ ?_ ?_
    · rintro m σ H2 hm ⟨s2, ba, bl, a, b, c, d, rfl, gb, bll, hbl⟩
      rw [Int.zero_add]
      have m40 : m ≤ 40 := by omega
      obtain ⟨x1, x2⟩ := pow_m m40
      refine ⟨by show 1 ≤ sizeLine; decide, fun z2 hz2 => ?_⟩
      have s3 : Same H2 (upd H2 z2 (.lst [.int 0])) := Same.new hz2
      have t3 := s2.trans s3
      refine ⟨_, rfl, wd, _, rfl, gw_leads (t3 _ _ h1), la, _, rfl, .inl (SqL.of (t3 _ _ h2)), z2, ((vs.length : Nat) : Int), _, rfl, rfl, upd_same, by omega, by omega, by show 1 * _ ≤ sizeLine; exact Nat.le_of_lt (small1000 (by omega)), fun ca hca => ?_⟩
      have hca2 : H2 ca = none := by
        cases e : H2 ca with
        | none => rfl
        | some o =>
          rw [s3 _ _ e] at hca
          cases hca
      have s4 : Same H2 (upd (upd H2 z2 (.lst [.int 0])) ca (.lst (List.replicate (((vs.length : Nat) : Int)).toNat [V.int 0]).flatten)) := s3.trans (Same.new hca)
      have g4 : (upd (upd H2 z2 (.lst [.int 0])) ca (.lst (List.replicate (((vs.length : Nat) : Int)).toNat [V.int 0]).flatten)) ca = some (.lst ((ctL ws m 0).map V.int)) := by rw [upd_same, zl _ vl, ctL_zero]
      generalize upd (upd H2 z2 (.lst [.int 0])) ca (.lst (List.replicate (((vs.length : Nat) : Int)).toNat [V.int 0]).flatten) = H4 at s4 g4 ⊢
      refine ⟨_, rfl, m, rfl, by omega, fun D H5 us s5 gD gT => ?_⟩
      have g5 := s5 _ _ g4
      have nDc : D ≠ ca ∨ D = ca := by by_cases e : D = ca; exact .inr e; exact .inl e
      have nDc : D ≠ ca := by
        rcases nDc with h | h
        · exact h
        · exfalso
          subst h
          rw [g5] at gD
          have e := Option.some.inj gD
          injection e with e
          have l0 : 0 < us.length := by
            rw [gT.1, allR_length]
            exact Nat.two_pow_pos m
          obtain ⟨r, _, l, h2', _⟩ := gT.2 0 us[0] (List.getElem?_eq_getElem l0)
          have h3' : us[0]? = some (V.ref l) := by rw [List.getElem?_eq_getElem l0, h2']
          rw [← e, List.getElem?_map] at h3'
          obtain ⟨y, _, hy⟩ := Option.map_eq_some_iff.mp h3'
          cases hy
      refine ⟨D, rfl, ⟨_, SqL.of gD⟩, for_list (K := K) (a := D) (xs := us) (fun j σ H' => Same H2 H' ∧ H' D = some (.lst us) ∧ TupsIn K H' us (allR m) ∧ H' ca = some (.lst ((ctL ws m j).map V.int)) ∧ ∃ u v : Option V, σ = [some (.ref wd), some (.ref sy), some (.int (most : Int)), some (.ref ba), some (.int (m : Int)), some (.ref ca), u, v, none]) ⟨s4.trans s5, gD, gT, g5, _, _, rfl⟩ (fun j σ H' _ g => SqL.of g.2.1) ?_ ?_⟩
      · rintro j x σ H6 hj ⟨t6, gD6, gT6, gC6, u, v, rfl⟩
        obtain ⟨r, hr, l, rfl, hl⟩ := gT6.2 j x hj
        obtain ⟨rl, rb⟩ := allR_len m r (List.mem_of_getElem? hr)
        have t26 := s2.trans t6
        refine ⟨_, rfl, _, rfl, wd, l, many, Ls, ws, r, rfl, hW.same t26, ok, hl, rb, by omega, fun v1 H7 s7 hm1 => ?_⟩
        have t27 := t26.trans s7
        refine ⟨_, rfl, _, rfl, sy, l, many, Ls, ws, r, rfl, hS.same t27, ok, s7.sqT hl, rb, by omega, fun v2 H8 s8 hm2 => ?_⟩
        have hm1' := hm1.same s8
        have s68 := s7.trans s8
        refine ⟨_, rfl, _, _, dp_mb hm2, dp_mb hm1', sh_mb _, sh_mb _, _, rfl, ?_⟩
        rw [eq_mb]
        refine iteF ?_
        have gC8 := s68 _ _ gC6
        have gD8 := s68 _ _ gD6
        have gT8 := gT6.same s68
        cases e : mbF ws r with
        | none =>
          rw [e] at hm1'
          have hv : v1 = .non := hm1'
          subst hv
          refine ⟨_, rfl, rfl, _, rfl, iteF ⟨t6.trans s68, gD8, gT8, ?_, _, _, rfl⟩⟩
          rw [ctL_none hr e]
          exact gC8
        | some qq =>
          obtain ⟨kk, uu⟩ := qq
          rw [e] at hm1'
          obtain ⟨tt, rfl, ht⟩ := hm1'
          obtain ⟨b1, _, _⟩ := mb_ok w0 rb e
          have ec := at_of (ctL_at (m := m) (j := j) b1)
          refine ⟨_, rfl, rfl, _, rfl, iteT ?_⟩
          refine ⟨_, rfl, _, rfl, tt, _, _, _, rfl, rfl, ht, ats0 _ _, ca, _, _, _, rfl, rfl, SqL.of gC8, ec, _, _, rfl, rfl, ?_⟩
          refine ⟨_, rfl, _, rfl, tt, _, _, _, rfl, rfl, ht, ats0 _ _, ca, _, _, kk, rfl, rfl, gC8, ixn (by rw [List.length_map, ctL_len]; exact b1), ?_⟩
          refine ⟨(t6.trans s68).mut hca2, by rw [upd_ne nDc]; exact gD8, gT8.upd gC8, ?_, _, _, rfl⟩
          rw [upd_same, ctL_some hr e b1, List.map_set] <;> rfl
      · rintro σ H6 ⟨t6, gD6, gT6, gC6, u, v, rfl⟩
        rw [gT.1, ctL_all wp w0] at gC6
        have t26 := s2.trans t6
        refine ⟨_, rfl, _, rfl, _, rfl, _, rfl, _, rfl, m, rfl, m40, wd, sy, ca, m, many, Ls, ws, rfl, hW.same t26, ok, hS.same t26, m40, gC6, fun H7 s7 => ⟨_, rfl, iteF ?_⟩⟩
        have t27 := t26.trans s7
        have gC7 := s7 _ _ gC6
        refine ⟨_, rfl, _, rfl, m, rfl, m40, by show 2 ≤ sizeLine; decide, fun t8 ht8 => ?_⟩
        have s8 : Same H7 (upd H7 t8 (.tup [.ref ca, .int (2 ^ m)])) := Same.new ht8
        have k8 : SqT K (upd H7 t8 (.tup [.ref ca, .int (2 ^ m)])) t8 [.ref ca, .int (2 ^ m)] := SqT.of upd_same
        generalize upd H7 t8 (.tup [.ref ca, .int (2 ^ m)]) = H8 at s8 k8 ⊢
        have t28 := t27.trans s8
        refine ⟨_, rfl, _, rfl, wd, m, many, Ls, ws, rfl, hW.same t28, ok, m40, fun t9 ca9 H9 s9 h9 g9 => ?_⟩
        have gC9 := s9 _ _ (s8 _ _ gC7)
        refine ⟨cnD (cntL ws m) (2 ^ m), cnD (cntL ws m) (2 ^ m), .tup (s9.sqT k8) (.cons (lstI_dp (SqL.of gC9)) (.cons (.int _) .nil)), .tup h9 (.cons (lstI_dp (SqL.of g9)) (.cons (.int _) .nil)), sh_cn _ _, sh_cn _ _, _, rfl, ?_⟩
        rw [eq_cn]
        have t29 := t28.trans s9
        have s69 := (s7.trans s8).trans s9
        have gb9 := s69 _ _ (t6 _ _ gb)
        refine iteF ⟨_, rfl, ca, _, rfl, .inl (SqL.of gC9), ((ws.length : Nat) : Int), (by rw [List.length_map, cntL_len]), by omega, by omega, fun E hE => ?_⟩
        refine lc_range (lo := 0) (n := ws.length) (fun i H' => Same H9 H' ∧ H' E = some (.lst ((List.replicate i false).map V.bl))) ⟨Same.new hE, upd_same⟩ (fun i H' hi g => ?_) fun H10 g => ?_
        · obtain ⟨t10, g10⟩ := g
          rw [Int.zero_add]
          obtain ⟨y, hy, y0, y41, y2⟩ := hbl i hi
          refine ⟨rfl, _, rfl, _, rfl, ca, _, _, _, rfl, rfl, SqL.of (t10 _ _ gC9), at_of (cntL_get hi), _, rfl, _, rfl, ba, _, _, _, rfl, rfl, SqL.of (t10 _ _ gb9), at_of hy, _, _, rfl, rfl, .inl ⟨by decide, by decide⟩, _, _, rfl, rfl, _, g10, ?_, t10.mut hE, ?_⟩
          · rw [List.length_map, List.length_replicate]
            exact small1000 (by omega)
          · rw [upd_same, rep_snoc, List.map_append]
            show some (HO.lst (_ ++ [V.bl (decide (cntF ws m i < 2 * y))])) = _
            rw [decide_eq_false (show ¬ cntF ws m i < 2 * y by omega)]
            rfl
        · obtain ⟨t10, g10⟩ := g
          refine ⟨E, _, rfl, SqL.of g10, _, rfl, ?_⟩
          rw [show (List.replicate ws.length false).any id = false by simp]
          refine iteF ⟨_, rfl, t29.trans t10, ca, cntL ws m, _, _, _, _, rfl, t10 _ _ gC9, cntL_len ws m, fun q hq => ?_⟩
          obtain ⟨z1, z2⟩ := cnt_small wp w0 m40 hq
          exact ⟨_, cntL_get hq, z1, z2, cnt_double w0⟩
    · rintro σ H2 ⟨s2, ba, bl, a, b, c, d, rfl, gb, bll, hbl⟩
      exact k H2 s2
def spBits (K : PySem.W.Frag) : Sp := fun vs H Q _ => ∃ (p : Addr) (n : Nat), vs = [.ref p, .int (n : Int)] ∧ n ≤ 200 ∧ HandAt H p ∧ ∀ l H' (bits : List Int), Stp p H H' → SqT K H' l (bits.map V.int) → IsB bits → bits.length ≤ 200 → Q (.ref l) H'
abbrev nLawBits : List Str := ["_law_hand_here", "_law_many", "_law_kind", "_law_k"]
theorem scLawBits : FnScope nLawBits ["_law_hand_here", "_law_many"] (defScope s_law_bits) := ⟨rfl, rfl, rfl, by decide +kernel, rfl, by decide +kernel, by decide +kernel⟩
theorem ok_bits {f : Addr} {fd : FuncData} {fD : Addr} {fdD : FuncData} (F : Fun K "_law_bits" "_law_bits" s_law_bits f fd) (T : NmA mg) (D : Cl P w K mg base CX0 1 "_law_draw" fD fdD ["_law_hand_here", "_law_many"] spDraw) : FnOk P w K mg base CX0 2 f fd ["_law_hand_here", "_law_many"] (spBits K) := by
  refine F.ok scLawBits (fun vs H Q E h => ?_) (fun cdv A' outer s H vs Q E hr h => ?_)
  · obtain ⟨p, n, rfl, _⟩ := h
    rfl
  · obtain ⟨p, n, rfl, n2, hH, k⟩ := h
    refine ⟨_, pss_cons (ps_set (i := 2) scLawBits.nd rfl (Or.inl rfl) (D.call (hr.mono (by decide)) (pa_cons (pv 0) (pa_cons pe_int pa_nil))))
      (pss_cons (ps_if (pt_cmpR op_lt (pv 2) pe_int (nomark _))
        (pss_one (ps_ret (pe_op op_repI (pe_tup (pa_cons (pv 2) pa_nil)) (pv 1)))) pss_nil)
      (pss_one (ps_ret (pe_callTy call_tuple_of (by rfl) T.tuple (by decide +kernel) (pa_cons (pe_lc (own := [("_law_k", 3)]) (g := (gName 3)) (tt := tYes) rfl scLawBits.nd  (pi_range1 (by rfl) T.range (pa_cons (pv 1) pa_nil)) (blkOk_by (own := [("_law_k", 3)]) (N := nLawBits) (sc := defScope s_law_bits) (by decide +kernel)) (fun _ _ _ _ _ => (pg_name (i := 3) scLawBits.nd rfl (Or.inl rfl))) (fun _ _ _ _ _ => pts_nil) (fun _ _ _ _ _ => (D.call (hr.mono (by decide)) (pa_cons (pv 0) (pa_cons pe_int pa_nil))))) pa_nil))))), ?_⟩
    refine ⟨_, rfl, p, 6, rfl, by decide, by decide, hH, fun d H1 d0 d1 S1 => ?_⟩
    refine ⟨_, rfl, _, _, rfl, rfl, _, rfl, ite2 (fun h2 => ?_) (fun _ => ?_)⟩
    · have h2 := of_decide_eq_true h2
      refine ⟨_, rfl, by show 1 ≤ sizeLine; decide, fun z hz => ?_⟩
      have s2 : Same H1 (upd H1 z (.tup [.int d])) := Same.new hz
      refine ⟨_, rfl, rep_all (SqT.of upd_same) (by omega) (by omega) fun l H2 s3 h3 => ?_⟩
      refine k l H2 _ ((S1.post s2).post s3) h3 (fun b hb => ?_) ?_
      · rw [(List.mem_replicate.mp hb).2]
        omega
      · rw [List.length_replicate]
        omega
    · refine ⟨_, rfl, (n : Int), rfl, by omega, by omega, fun D hD => ?_⟩
      refine lc_range (lo := 0) (n := n) (Grow p D H1 2) (Grow.zero S1.hand hD) (fun i H' hi g => ?_) fun H' g => ?_
      · exact ⟨rfl, _, rfl, p, 2, rfl, by decide, by decide, g.1.hand, fun d3 H5 f0 f1 S5 => g.put S1.hand hD S5 (by omega) f0 f1⟩
      · obtain ⟨S2, ws, g1, g2, g3⟩ := g
        refine ⟨D, _, rfl, .inl ⟨SqL.of g1, fun l hl => ?_⟩⟩
        exact k l _ ws ((S1.trans S2).post (Same.new hl)) (SqT.of upd_same) (fun b hb => by have := g3 b hb; omega) (by omega)
end
end Law

namespace Law
open PySem L2
theorem put_weights (m S : Int) (la wa x : Addr) : putK (wdK m la wa S) (Sum.inr ("weights" : Str)) (.ref x) = wdK m la x S := by
  rw [put_of (show valV (wdK m la wa S) (Sum.inr ("weights" : Str)) = some (.ref wa) from (valV_neg w02).trans ((valV_neg w12).trans (valV_pos rfl)))]
  simp only [wdK, List.map_cons, List.map_nil, if_neg, if_false, if_true, w02, w12, Ne.symm w23, not_false_eq_true]
theorem put_sum (m S x : Int) (la wa : Addr) : putK (wdK m la wa S) (Sum.inr ("sum" : Str)) (.int x) = wdK m la wa x := by
  rw [put_of (show valV (wdK m la wa S) (Sum.inr ("sum" : Str)) = some (.int S) from (valV_neg w03).trans ((valV_neg w13).trans ((valV_neg w23).trans (valV_pos rfl))))]
  simp only [wdK, List.map_cons, List.map_nil, if_neg, if_false, if_true, w03, w13, w23, not_false_eq_true]
theorem pw_weights {H : Hp} {p la wa : Addr} {m S : Int} (h : H p = some (.dK (wdK m la wa S))) (x : Addr) : DPut H p (.str "weights") (.ref x) (upd H p (.dK (wdK m la x S))) := by
  have q := DPut.k (k := Sum.inr ("weights" : Str)) (v := .ref x) h (show 4 < sizeLine by decide)
  rw [put_weights] at q
  exact q
theorem pw_sum {H : Hp} {p la wa : Addr} {m S : Int} (h : H p = some (.dK (wdK m la wa S))) (x : Int) : DPut H p (.str "sum") (.int x) (upd H p (.dK (wdK m la wa x))) := by
  have q := DPut.k (k := Sum.inr ("sum" : Str)) (v := .int x) h (show 4 < sizeLine by decide)
  rw [put_sum] at q
  exact q
theorem hand_dk {H : Hp} {p wd : Addr} {ks : List (Key × V)} {o : HO} (hp : HandAt H p) (n : wd ≠ p) (h : H wd = some (.dK ks)) : HandAt (upd H wd o) p := by
  obtain ⟨ca, cells, a', g, s', t, h1, h2, r⟩ := hp
  exact ⟨ca, cells, a', g, s', t, by rw [upd_ne (Ne.symm n)]; exact h1, by rw [upd_ne (ne_of h2 h (by intro y; cases y))]; exact h2, r⟩
theorem hand_lst {H : Hp} {p D : Addr} {xs : List V} {o : HO} (hp : HandAt H p) (h : H D = some (.lst xs)) (hn : ∀ (ca : Addr) (cells : List Int) (a g s t : Int), H p = some (.dK (hdK ca a g s t)) → H ca = some (.lst (cells.map V.int)) → ca ≠ D) : HandAt (upd H D o) p := by
  obtain ⟨ca, cells, a', g, s', t, h1, h2, r⟩ := hp
  exact ⟨ca, cells, a', g, s', t, by rw [upd_ne (ne_of h1 h (by intro y; cases y))]; exact h1, by rw [upd_ne (hn ca cells _ _ _ _ h1 h2)]; exact h2, r⟩
theorem sqT_dk {K : PySem.W.Frag} {H : Hp} {l wd : Addr} {ks : List (Key × V)} {xs : List V} {o : HO} (hk : H wd = some (.dK ks)) (h : SqT K H l xs) : SqT K (upd H wd o) l xs := by
  rcases h with (z | ⟨q, z⟩) | z
  · exact .inl (.inl (by rw [upd_ne (ne_of z hk (by intro y; cases y))]; exact z))
  · exact .inl (.inr ⟨q, by rw [upd_ne (ne_of z hk (by intro y; cases y))]; exact z⟩)
  · exact .inr z
theorem tupsIn_dk {K : PySem.W.Frag} {H : Hp} {wd : Addr} {ks : List (Key × V)} {vs : List V} {o : HO} {Ls : List (List Int)} (h : TupsIn K H vs Ls) (hk : H wd = some (.dK ks)) : TupsIn K (upd H wd o) vs Ls := ⟨h.1, fun i v hv => by
  obtain ⟨q, h1, l, h2, h3⟩ := h.2 i v hv
  exact ⟨q, h1, l, h2, sqT_dk hk h3⟩⟩
theorem Stp.sys {K : PySem.W.Frag} {p : Addr} {C : Addr} {H H' : Hp} {q : Addr} {many : Nat} {ms : List Mv} (S : Stp p H H') (hp : HandAt H p) (h : SysAt K C H q many ms) : SysAt K C H' q many ms := by
  obtain ⟨ks, hk⟩ := hp.dk
  obtain ⟨dx, mv, h1, h2⟩ := h
  exact ⟨dx, mv, S.keep _ _ (ne_of h1 hk (by intro z; cases z)) h1, S.mvs hp h2⟩
def dnD (k : Nat) (e : List Int) (n : Nat) : PyData := .tuple [resD k e, .int (n : Int)]
theorem lay_dn (k : Nat) (e : List Int) (n : Nat) : (dnD k e n).canLay0 = true ∧ (dnD k e n).depth ≤ 3 := by
  have h := lay_res k e
  unfold dnD
  refine ⟨?_, ?_⟩
  · simp only [PyData.canLay0, PyData.canLayAll0, h.1, Bool.and_self]
  · simp only [PyData.depth, PyData.depthAll]
    omega
theorem sh_dn (k : Nat) (e : List Int) (n : Nat) : SeqAt.shaped (dnD k e n) = true := shaped_of (lay_dn k e n) (by decide)
theorem eq_dn (k : Nat) (e : List Int) (n : Nat) : PyData.eqv (dnD k e n) (dnD k e n) = true := SeqAt.eqv_refl _ (lay_dn k e n).1
section
variable {P : Program} {w : World} {K : PySem.W.Frag} {mg : Str → Option Value} {base : Heap}
def spLaw (K : PySem.W.Frag) : Sp := fun vs H Q _ => ∃ (a : Addr) (ns : List Int), vs = [.ref a] ∧ SqL K H a (ns.map V.int) ∧ ns.length ≤ 63 ∧ ∀ H', Q (.bl true) H'
abbrev nLaw : List Str := ["_law_script", "_law_hand_here", "_law_turn", "_law_world_here", "_law_system", "_law_many", "_law_counts_here", "_law_scale", "_law_again", "_law_bits_here", "_law_plan", "_law_coins", "_law_taken", "_law_move_here"]
theorem scLaw : FnScope nLaw ["_law_script"] (defScope s_law) := ⟨rfl, rfl, rfl, by decide +kernel, rfl, by decide +kernel, by decide +kernel⟩
theorem ok_law {f : Addr} {fd : FuncData} {fcHand : Addr} {fdcHand : FuncData} {fcWorld : Addr} {fdcWorld : FuncData} {fD : Addr} {fdD : FuncData} {fcMade : Addr} {fdcMade : FuncData} {fcAllR : Addr} {fdcAllR : FuncData} {fA : Addr} {fdA : FuncData} {fcCounts : Addr} {fdcCounts : FuncData} {fcShR : Addr} {fdcShR : FuncData} {fcBits : Addr} {fdcBits : FuncData} {fcMvBits : Addr} {fdcMvBits : FuncData} {fcMoveL : Addr} {fdcMoveL : FuncData} {fcCoinsTold : Addr} {fdcCoinsTold : FuncData} {fcDrawnBits : Addr} {fdcDrawnBits : FuncData} {fcDrawnL : Addr} {fdcDrawnL : FuncData} {C : Addr} (F : Fun K "law" "law" s_law f fd) (T : NmA mg) (cHand : Cl P w K mg base CX0 1 "_law_hand" fcHand fdcHand ["_law_script"] (spHand K)) (cWorld : Cl P w K mg base CX0 3 "_law_world" fcWorld fdcWorld ["_law_hand_here", "_law_most", "_law_moves"] (spWorld K)) (D : Cl P w K mg base CX0 1 "_law_draw" fD fdD ["_law_hand_here", "_law_many"] spDraw) (cMade : Cl P w K mg base CX0 7 "_law_made" fcMade fdcMade ["_law_world_here"] (spMade K C)) (cAllR : Cl P w K mg base CX0 7 "_law_all_right" fcAllR fdcAllR ["_law_world_here", "_law_system", "_law_most"] (spAllR K C)) (A : Cl P w K mg base CX0 2 "_law_any" fA fdA ["_law_hand_here", "_law_things"] (spAny K)) (cCounts : Cl P w K mg base CX0 1 "_law_counts" fcCounts fdcCounts ["_law_world_here", "_law_many"] (spCounts K)) (cShR : Cl P w K mg base CX0 6 "_law_shares_right" fcShR fdcShR ["_law_world_here", "_law_system", "_law_many", "_law_counts_here", "_law_scale"] (spShR K C)) (cBits : Cl P w K mg base CX0 2 "_law_bits" fcBits fdcBits ["_law_hand_here", "_law_many"] (spBits K)) (cMvBits : Cl P w K mg base CX0 5 "move_by_bits" fcMvBits fdcMvBits ["system", "bits"] (spMvBits K C)) (cMoveL : Cl P w K mg base CX0 1 "_law_move" fcMoveL fdcMoveL ["_law_world_here", "_law_bits_here"] (spMoveL K)) (cCoinsTold : Cl P w K mg base CX0 2 "_law_coins_told" fcCoinsTold fdcCoinsTold ["_law_world_here", "_law_bits_here"] (spCoinsTold K)) (cDrawnBits : Cl P w K mg base CX0 7 "drawn_by_bits" fcDrawnBits fdcDrawnBits ["system", "bits", "plan"] (spDrawnBits K C)) (cDrawnL : Cl P w K mg base CX0 2 "_law_drawn" fcDrawnL fdcDrawnL ["_law_world_here", "_law_coins", "_law_plan"] (spDrawnL K)) : FnOk P w K mg base CX0 8 f fd ["_law_script"] (spLaw K) := by
  refine F.ok scLaw (fun vs H Q E h => ?_) (fun cdv A' outer s H vs Q E hr h => ?_)
  · obtain ⟨a, ns, rfl, _⟩ := h
    rfl
  · obtain ⟨a, ns, rfl, hN, h63, k⟩ := h
    have hu := hu_of hr
    refine ⟨_, pss_cons (ps_set (i := 1) scLaw.nd rfl (Or.inl rfl) (cHand.call (hr.mono (by decide)) (pa_cons (pv 0) pa_nil)))
      (pss_cons (ps_for PassesOwn.never rfl (pi_range1 (by rfl) T.range (pa_cons pe_int pa_nil)) (pg_name (i := 2) scLaw.nd rfl (Or.inl rfl))
        (pss_cons (ps_set (i := 3) scLaw.nd rfl (Or.inl rfl) (cWorld.call (hr.mono (by decide)) (pa_cons (pv 1) (pa_cons pe_int (pa_cons (pe_ifExp (PW.pt (pw_and (pt_cmpR op_eq (pv 2) pe_int (nomark _)) (pw_and1 (pt_cmpR op_eq (D.call (hr.mono (by decide)) (pa_cons (pv 1) (pa_cons pe_int pa_nil))) pe_int (nomark _))))) pe_int pe_int) pa_nil)))))
        (Evl.pss_cut (ps_if (PW.pt (pw_and (pt_cmpR op_eq (D.call (hr.mono (by decide)) (pa_cons (pv 1) (pa_cons pe_int pa_nil))) pe_int (nomark _)) (pw_and1 (pt_cmpR op_lt (pe_callB call_len_seq (by rfl) T.len PySem.boot_len (pa_cons (pe_dget hu (pv 3) pe_str (fun _ _ => rfl)) pa_nil)) pe_int (nomark _)))))
          (pss_cons (ps_dput hu (pv 3) pe_str (pe_lc (own := [("_law_move_here", 13)]) (g := (gName 13)) (tt := tYes) rfl scLaw.nd  (pi_list (pe_dget hu (pv 3) pe_str (fun _ _ => rfl))) (blkOk_by (own := [("_law_move_here", 13)]) (N := nLaw) (sc := defScope s_law) (by decide +kernel)) (fun _ _ _ _ _ => (pg_name (i := 13) scLaw.nd rfl (Or.inl rfl))) (fun _ _ _ _ _ => pts_nil) (fun _ _ _ _ _ => pe_int)) rfl)
          (pss_cons (ps_asg (pe_op op_sub pe_int (pe_callB call_len_seq (by rfl) T.len PySem.boot_len (pa_cons (pe_dget hu (pv 3) pe_str (fun _ _ => rfl)) pa_nil))) (pg_sub (pe_dget hu (pv 3) pe_str (fun _ _ => rfl)) pe_int set_list))
          (pss_one (ps_dput hu (pv 3) pe_str pe_int rfl)))) pss_nil)
        (pss_cons (ps_set (i := 4) scLaw.nd rfl (Or.inl rfl) (cMade.call (hr.mono (by decide)) (pa_cons (pv 3) pa_nil)))
        (pss_cons (ps_if (pt_not (pt_truth (cAllR.call (hr.mono (by decide)) (pa_cons (pv 3) (pa_cons (pv 4) (pa_cons (A.call (hr.mono (by decide)) (pa_cons (pv 1) (pa_cons (pe_lst (pa_cons pe_int (pa_cons pe_int (pa_cons pe_int (pa_cons pe_int (pa_cons pe_int pa_nil)))))) pa_nil))) pa_nil)))) (by intro _; rfl)))
          (pss_one (ps_ret pe_bl)) pss_nil)
        (pss_cons (ps_set (i := 5) scLaw.nd rfl (Or.inl rfl) (A.call (hr.mono (by decide)) (pa_cons (pv 1) (pa_cons (pe_lst (pa_cons pe_int (pa_cons pe_int (pa_cons pe_int (pa_cons pe_int pa_nil))))) pa_nil))))
        (pss_cons (ps_asg (cCounts.call (hr.mono (by decide)) (pa_cons (pv 3) (pa_cons (pv 5) pa_nil))) (pg_tup (by rfl) (pgs_cons (pg_name (i := 6) scLaw.nd rfl (Or.inl rfl)) (pgs_cons (pg_name (i := 7) scLaw.nd rfl (Or.inl rfl)) pgs_nil))))
        (pss_cons (ps_if (pt_not (pt_truth (cShR.call (hr.mono (by decide)) (pa_cons (pv 3) (pa_cons (pv 4) (pa_cons (pv 5) (pa_cons (pv 6) (pa_cons (pv 7) pa_nil)))))) (by intro _; rfl)))
          (pss_one (ps_ret pe_bl)) pss_nil)
        (pss_one (ps_for PassesOwn.never rfl (pi_range1 (by rfl) T.range (pa_cons pe_int pa_nil)) (pg_name (i := 8) scLaw.nd rfl (Or.inl rfl))
          (pss_cons (ps_par (i := 9) (j := 10) (by rfl) scLaw.nd rfl rfl (by decide) rfl rfl (pa_cons (cBits.call (hr.mono (by decide)) (pa_cons (pv 1) (pa_cons (A.call (hr.mono (by decide)) (pa_cons (pv 1) (pa_cons (pe_lst (pa_cons pe_int (pa_cons pe_int (pa_cons pe_int (pa_cons pe_int (pa_cons pe_int (pa_cons pe_int pa_nil))))))) pa_nil))) pa_nil))) (pa_cons (A.call (hr.mono (by decide)) (pa_cons (pv 1) (pa_cons (pe_lst (pa_cons pe_str (pa_cons pe_str pa_nil))) pa_nil))) pa_nil)) (by rfl))
          (pss_cons (ps_if (pt_cmpR (op_neD hr.units) (cMvBits.call (hr.mono (by decide)) (pa_cons (pv 4) (pa_cons (pv 9) pa_nil))) (cMoveL.call (hr.mono (by decide)) (pa_cons (pv 3) (pa_cons (pv 9) pa_nil))) (nomark _))
            (pss_one (ps_ret pe_bl)) pss_nil)
          (pss_cons (ps_asg (cCoinsTold.call (hr.mono (by decide)) (pa_cons (pv 3) (pa_cons (pv 9) pa_nil))) (pg_tup (by rfl) (pgs_cons (pg_name (i := 11) scLaw.nd rfl (Or.inl rfl)) (pgs_cons (pg_name (i := 12) scLaw.nd rfl (Or.inl rfl)) pgs_nil))))
          (pss_one (ps_if (pt_cmpR (op_neD hr.units) (cDrawnBits.call (hr.mono (by decide)) (pa_cons (pv 4) (pa_cons (pv 9) (pa_cons (pv 10) pa_nil)))) (pe_tup (pa_cons (cDrawnL.call (hr.mono (by decide)) (pa_cons (pv 3) (pa_cons (pv 11) (pa_cons (pv 10) pa_nil)))) (pa_cons (pv 12) pa_nil))) (nomark _))
            (pss_one (ps_ret pe_bl)) pss_nil)))))))))))))))
      (pss_one (ps_ret pe_bl))), ?_⟩
    refine ⟨_, rfl, a, ns, rfl, hN, h63, fun p H1 hp s1 hH1 => ?_⟩
    refine ⟨2, rfl, by decide, by decide, ?_⟩
    refine for_range (lo := 0) (n := 2) (fun i σ H' => HandAt H' p ∧ ∃ u1 u2 u3 u4 u5 u6 u7 u8 u9 u10 u11 : Option V, σ = [some (.ref a), some (.ref p), u1, u2, u3, u4, u5, u6, u7, u8, u9, u10, u11, none]) ⟨hH1, _, _, _, _, _, _, _, _, _, _, _, rfl⟩ ?_ ?_
    · rintro i σ H2 hi ⟨hH2, u1, u2, u3, u4, u5, u6, u7, u8, u9, u10, u11, rfl⟩
      refine ⟨_, rfl, ?_⟩
      -- the world
      refine ⟨_, rfl, rfl, _, rfl, ite2 (fun _ => ?_) (fun _ => ?_)⟩
      refine ⟨_, rfl, p, 5, rfl, by decide, by decide, hH2, fun d0 H3 d1 d2 S3 => ⟨rfl, _, rfl, ite2 (fun _ => ?_) (fun _ => ?_)⟩⟩
      refine ⟨p, 5, 24, rfl, by decide, by decide, by decide, by decide, S3.hand, fun wd H4 many Ls ws S4 hW ok => ?_⟩
      rotate_left
      refine ⟨p, 5, 6, rfl, by decide, by decide, by decide, by decide, S3.hand, fun wd H4 many Ls ws S4 hW ok => ?_⟩
      rotate_left
      refine iteF ?_
      refine ⟨p, 5, 6, rfl, by decide, by decide, by decide, by decide, hH2, fun wd H4 many Ls ws S4 hW ok => ?_⟩
      all_goals
        have hH4 := S4.hand
        refine ⟨fun σ' H' => HandAt H' p ∧ ∃ ws' : List Int, WAt K H' wd many Ls ws' ∧ WOk many Ls ws' ∧ σ' = [some (.ref a), some (.ref p), some (.int (0 + (i : Int))), some (.ref wd), u3, u4, u5, u6, u7, u8, u9, u10, u11, none], ?_, ?_⟩
        · refine ⟨_, rfl, p, 4, rfl, by decide, by decide, hH4, fun e0 H5 e1 e2 S5 => ⟨rfl, _, rfl, ite2 (fun _ => ?_) (fun _ => ⟨S5.hand, ws, hW.kp S5.kp hH4, ok, rfl⟩)⟩⟩
          have hH5 := S5.hand
          have hW5 := hW.kp S5.kp hH4
          obtain ⟨la, wa, vs, h1, h2, h3, h4⟩ := id hW5
          have vl : vs.length = Ls.length := h3.1
          have l1 := ok.l1
          refine ⟨_, rfl, wd, _, rfl, gw_leads h1, la, _, rfl, .inl (SqL.of h2), _, _, rfl, rfl, _, rfl, ite2 (fun h8 => ?_) (fun _ => ⟨hH5, ws, hW5, ok, rfl⟩)⟩
          have h8 := of_decide_eq_true h8
          refine ⟨_, rfl, wd, _, rfl, gw_leads h1, la, rfl, ⟨_, SqL.of h2⟩, fun D hD => ?_⟩
          refine lc_list (K := K) (a := la) (xs := vs) (fun q H' => Same H5 H' ∧ H' D = some (.lst ((List.replicate q (1 : Int)).map V.int))) ⟨Same.new hD, upd_same⟩ (fun q H' _ g => SqL.of (g.1 _ _ h2)) (fun q x H' hq g => ?_) fun H6 g => ?_
          · obtain ⟨t6, g6⟩ := g
            have hql := (List.getElem?_eq_some_iff.mp hq).1
            refine ⟨rfl, _, g6, ?_, t6.mut hD, ?_⟩
            · rw [List.length_map, List.length_replicate]
              exact small1000 (by omega)
            · rw [upd_same, rep_snoc, List.map_append] <;> rfl
          obtain ⟨t6, g6⟩ := g
          have h16 := t6 _ _ h1
          have hH6 := hH5.same t6
          have h36 := h3.same t6
          have nwd := wd_ne hH6 h16
          have nla : la ≠ D := ne_of_none h2 hD
          have ncell : ∀ (ca : Addr) (cells : List Int) (a g s t : Int), H6 p = some (.dK (hdK ca a g s t)) → H6 ca = some (.lst (cells.map V.int)) → ca ≠ D := fun ca cells a' g s t x1 x2 e => by
            obtain ⟨ca', cells', a'', g'', s'', t'', y1, y2, _⟩ := hH5
            have e1 := t6 _ _ y1
            rw [e1] at x1
            have x1 := Option.some.inj x1
            injection x1 with x1
            have := hdK_inj x1
            rw [← this] at e
            rw [e] at y2
            rw [y2] at hD
            cases hD
          refine ⟨_, rfl, wd, _, rfl, pw_weights h16 D, ?_⟩
          have nDw : D ≠ wd := ne_of g6 h16 (by intro z; cases z)
          have nlw : la ≠ wd := ne_of (t6 _ _ h2) h16 (by intro z; cases z)
          have hH7 : HandAt (upd H6 wd (.dK (wdK (many : Int) la D ws.sum))) p := hand_dk hH6 nwd h16
          have k7 : (upd H6 wd (.dK (wdK (many : Int) la D ws.sum))) wd = some (.dK (wdK (many : Int) la D ws.sum)) := upd_same
          have g7 : (upd H6 wd (.dK (wdK (many : Int) la D ws.sum))) D = some (.lst ((List.replicate vs.length (1 : Int)).map V.int)) := by rw [upd_ne nDw]; exact g6
          have l7 : (upd H6 wd (.dK (wdK (many : Int) la D ws.sum))) la = some (.lst vs) := by rw [upd_ne nlw]; exact t6 _ _ h2
          have T7 : TupsIn K (upd H6 wd (.dK (wdK (many : Int) la D ws.sum))) vs Ls := tupsIn_dk h36 h16
          have nc7 : ∀ (ca : Addr) (cells : List Int) (a g s t : Int), (upd H6 wd (.dK (wdK (many : Int) la D ws.sum))) p = some (.dK (hdK ca a g s t)) → (upd H6 wd (.dK (wdK (many : Int) la D ws.sum))) ca = some (.lst (cells.map V.int)) → ca ≠ D := fun ca cells a' g s t x1 x2 => by
            rw [upd_ne (Ne.symm nwd)] at x1
            by_cases e : ca = wd
            · intro e2
              exact nDw (e2 ▸ e)
            · rw [upd_ne e] at x2
              exact ncell ca cells _ _ _ _ x1 x2
          generalize upd H6 wd (.dK (wdK (many : Int) la D ws.sum)) = H7 at hH7 k7 g7 l7 T7 nc7 ⊢
          refine ⟨_, rfl, wd, _, rfl, gw_leads k7, la, _, rfl, .inl (SqL.of l7), _, _, rfl, rfl, _, rfl, wd, _, rfl, gw_weights k7, D, _, _, 0, rfl, rfl, g7, ixn (i := 0) (by rw [List.length_map, List.length_replicate]; omega), ?_⟩
          obtain ⟨r, hr⟩ : ∃ r, vs.length = r + 1 := ⟨vs.length - 1, by omega⟩
          have es : ((List.replicate vs.length (1 : Int)).map V.int).set 0 (.int (9 - ((vs.length : Nat) : Int))) = (((9 - ((vs.length : Nat) : Int)) :: List.replicate r 1)).map V.int := by
            rw [hr, List.replicate_succ, List.map_cons, List.set_cons_zero] <;> rfl
          have hH8 : HandAt (upd H7 D (.lst (((List.replicate vs.length (1 : Int)).map V.int).set 0 (.int (9 - ((vs.length : Nat) : Int)))))) p := hand_lst hH7 g7 nc7
          have k8 : (upd H7 D (.lst (((List.replicate vs.length (1 : Int)).map V.int).set 0 (.int (9 - ((vs.length : Nat) : Int)))))) wd = some (.dK (wdK (many : Int) la D ws.sum)) := by rw [upd_ne (Ne.symm nDw)]; exact k7
          have g8 : (upd H7 D (.lst (((List.replicate vs.length (1 : Int)).map V.int).set 0 (.int (9 - ((vs.length : Nat) : Int)))))) D = some (.lst ((((9 - ((vs.length : Nat) : Int)) :: List.replicate r 1)).map V.int)) := by rw [upd_same, es]
          have l8 : (upd H7 D (.lst (((List.replicate vs.length (1 : Int)).map V.int).set 0 (.int (9 - ((vs.length : Nat) : Int)))))) la = some (.lst vs) := by rw [upd_ne nla]; exact l7
          have T8 : TupsIn K (upd H7 D (.lst (((List.replicate vs.length (1 : Int)).map V.int).set 0 (.int (9 - ((vs.length : Nat) : Int)))))) vs Ls := T7.upd g7
          generalize upd H7 D (.lst (((List.replicate vs.length (1 : Int)).map V.int).set 0 (.int (9 - ((vs.length : Nat) : Int))))) = H8 at hH8 k8 g8 l8 T8 ⊢
          refine ⟨_, rfl, wd, _, rfl, pw_sum k8 8, ?_⟩
          have sm : ((9 - ((vs.length : Nat) : Int)) :: List.replicate r 1).sum = 8 := by
            have : ∀ q : Nat, (List.replicate q (1 : Int)).sum = (q : Int) := fun q => by
              induction q with
              | zero => rfl
              | succ q ih => rw [List.replicate_succ, List.sum_cons, ih, Int.natCast_add, Int.add_comm] <;> rfl
            rw [List.sum_cons, this, hr, Int.natCast_add]
            omega
          refine ⟨hand_dk hH8 nwd k8, _, ⟨la, D, vs, ?_, by rw [upd_ne nlw]; exact l8, tupsIn_dk T8 k8, by rw [upd_ne nDw]; exact g8⟩, ⟨ok.m1, ok.m2, ok.l1, ok.l2, ?_, ok.ld, ?_⟩, rfl⟩
          · rw [upd_same, sm]
          · rw [List.length_cons, List.length_replicate]
            omega
          · intro x hx
            rcases List.mem_cons.mp hx with rfl | hx
            · omega
            · rw [(List.mem_replicate.mp hx).2]
              decide
        · rintro σ' H5 ⟨hH5, ws', hW5, ok5, rfl⟩
          clear hW ok
          refine ⟨_, rfl, wd, many, Ls, ws', rfl, hW5, ok5, fun sy H6 s6 hS => ?_⟩
          have hW6 := hW5.same s6
          have hH6 := hH5.same s6
          refine ⟨_, rfl, _, rfl, _, rfl, by show 5 ≤ sizeLine; decide, fun q hq => ?_⟩
          refine ⟨p, q, _, rfl, .inl (SqL.of upd_same), by show 0 < 5; decide, by show 5 < _; decide, hH6.same (Same.new hq), fun j x H7 hj S7 => ?_⟩
          have ex : ∃ m : Nat, x = .int (m : Int) ∧ m ≤ 6 := by
            have hx := List.mem_of_getElem? hj
            simp only [List.mem_cons, List.not_mem_nil, or_false] at hx
            rcases hx with rfl | rfl | rfl | rfl | rfl
            · exact ⟨2, rfl, by decide⟩
            · exact ⟨3, rfl, by decide⟩
            · exact ⟨4, rfl, by decide⟩
            · exact ⟨5, rfl, by decide⟩
            · exact ⟨6, rfl, by decide⟩
          obtain ⟨m, rfl, m6⟩ := ex
          have S67 := S7.pre (Same.new hq)
          refine ⟨wd, sy, m, many, Ls, ws', rfl, hW6.kp S67.kp hH6, ok5, S67.sys hH6 hS, m6, fun H8 s8 => ⟨_, rfl, iteF ?_⟩⟩
          have S68 := S67.post s8
          have hH8 := S68.hand
          refine ⟨_, rfl, by show 4 ≤ sizeLine; decide, fun q2 hq2 => ?_⟩
          refine ⟨p, q2, _, rfl, .inl (SqL.of upd_same), by show 0 < 4; decide, by show 4 < _; decide, hH8.same (Same.new hq2), fun j2 x2 H9 hj2 S9 => ?_⟩
          have ex2 : ∃ m : Nat, x2 = .int (m : Int) ∧ m ≤ 40 := by
            have hx := List.mem_of_getElem? hj2
            simp only [List.mem_cons, List.not_mem_nil, or_false] at hx
            rcases hx with rfl | rfl | rfl | rfl
            · exact ⟨8, rfl, by decide⟩
            · exact ⟨17, rfl, by decide⟩
            · exact ⟨39, rfl, by decide⟩
            · exact ⟨40, rfl, by decide⟩
          obtain ⟨n, rfl, n40⟩ := ex2
          have S69 := S68.trans (S9.pre (Same.new hq2))
          have hW9 := hW6.kp S69.kp hH6
          have hS9 := S69.sys hH6 hS
          have hH9 := S69.hand
          refine ⟨_, rfl, _, rfl, wd, n, many, Ls, ws', rfl, hW9, ok5, n40, fun t ca H10 s10 h10 g10 => ⟨t, _, rfl, h10, rfl, _, _, rfl, _, _, rfl, rfl, ?_⟩⟩
          refine ⟨_, rfl, _, rfl, _, rfl, _, rfl, _, rfl, wd, sy, ca, n, many, Ls, ws', rfl, hW9.same s10, ok5, hS9.same s10, n40, g10, fun H11 s11 => ⟨_, rfl, iteF ?_⟩⟩
          have t11 := s10.trans s11
          have hW11 := hW9.same t11
          have hS11 := hS9.same t11
          have hH11 := hH9.same t11
          refine ⟨3, rfl, by decide, by decide, ?_⟩
          refine for_range (lo := 0) (n := 3) (fun j σ H' => Stp p H11 H' ∧ ∃ v1 v2 v3 v4 v5 : Option V, σ = [some (.ref a), some (.ref p), some (.int (0 + (i : Int))), some (.ref wd), some (.ref sy), some (.int (n : Int)), some (.ref ca), some (.int (2 ^ n)), v1, v2, v3, v4, v5, none]) ⟨Stp.refl hH11, _, _, _, _, _, rfl⟩ ?_ ?_
          · rintro j3 σ H12 hj3 ⟨S12, v1, v2, v3, v4, v5, rfl⟩
            have hH12 := S12.hand
            have hW12 := hW11.kp S12.kp hH11
            have hS12 := S12.sys hH11 hS11
            refine ⟨_, rfl, _, rfl, by show 6 ≤ sizeLine; decide, fun q3 hq3 => ?_⟩
            refine ⟨p, q3, _, rfl, .inl (SqL.of upd_same), by show 0 < 6; decide, by show 6 < _; decide, hH12.same (Same.new hq3), fun j4 x4 H13 hj4 S13 => ?_⟩
            have ex4 : ∃ m : Nat, x4 = .int (m : Int) ∧ m ≤ 200 := by
              have hx := List.mem_of_getElem? hj4
              simp only [List.mem_cons, List.not_mem_nil, or_false] at hx
              rcases hx with rfl | rfl | rfl | rfl | rfl | rfl
              · exact ⟨0, rfl, by decide⟩
              · exact ⟨1, rfl, by decide⟩
              · exact ⟨7, rfl, by decide⟩
              · exact ⟨30, rfl, by decide⟩
              · exact ⟨30, rfl, by decide⟩
              · exact ⟨200, rfl, by decide⟩
            obtain ⟨r, rfl, r200⟩ := ex4
            have S23 := S13.pre (Same.new hq3)
            refine ⟨p, r, rfl, r200, S13.hand, fun ba H14 bits S14 hB hb h200 => ?_⟩
            have S24 := S23.trans S14
            have hH14 := S14.hand
            refine ⟨_, rfl, by show 2 ≤ sizeLine; decide, fun q5 hq5 => ?_⟩
            refine ⟨p, q5, _, rfl, .inl (SqL.of upd_same), by show 0 < 2; decide, by show 2 < _; decide, hH14.same (Same.new hq5), fun j5 x5 H15 hj5 S15 => ?_⟩
            have ex5 : ∃ b : Bool, x5 = .str (plS b) := by
              have hx := List.mem_of_getElem? hj5
              simp only [List.mem_cons, List.not_mem_nil, or_false] at hx
              rcases hx with rfl | rfl
              · exact ⟨true, rfl⟩
              · exact ⟨false, rfl⟩
            obtain ⟨b, rfl⟩ := ex5
            have S45 := S15.pre (Same.new hq5)
            have S25 := S24.trans S45
            have hB15 := S45.sqT hH14 hB
            have hW15 := hW12.kp S25.kp hH12
            have hS15 := S25.sys hH12 hS12
            have hH15 := S25.hand
            refine ⟨_, _, rfl, ?_⟩
            refine ⟨_, rfl, _, rfl, sy, ba, many, Ls, ws', bits, rfl, hS15, ok5, hB15, hb, h200, fun y1 H16 s16 hm1 => ?_⟩
            refine ⟨_, rfl, _, rfl, wd, ba, many, Ls, ws', bits, rfl, hW15.same s16, ok5, s16.sqT hB15, hb, h200, fun y2 H17 s17 hm2 => ?_⟩
            have t17 := s16.trans s17
            refine ⟨_, _, dp_mb (hm1.same s17), dp_mb hm2, sh_mb _, sh_mb _, _, rfl, ?_⟩
            rw [eq_mb]
            refine iteF ⟨_, rfl, _, rfl, wd, ba, many, Ls, ws', bits, rfl, hW15.same t17, ok5, t17.sqT hB15, hb, h200, fun t18 ca18 H18 cs n18 s18 h18 hc18 e18 cok cl => ⟨t18, _, rfl, h18, rfl, _, _, rfl, _, _, rfl, rfl, ?_⟩⟩
            have t18' := t17.trans s18
            refine ⟨_, rfl, _, rfl, _, rfl, sy, ba, b, many, Ls, ws', bits, rfl, hS15.same t18', ok5, t18'.sqT hB15, hb, h200, fun t19 r19 H19 cs' n19 k19 s19 h19 hr19 e19 pk19 => ?_⟩
            have t19' := t18'.trans s19
            have ecs : cs' = cs ∧ n19 = n18 := by
              have := e19.trans e18.symm
              exact ⟨congrArg Prod.fst this, congrArg Prod.snd this⟩
            obtain ⟨rfl, rfl⟩ := ecs
            refine ⟨_, rfl, _, rfl, _, rfl, wd, ca18, b, many, Ls, ws', cs', rfl, hW15.same t19', lds_of ok5, s19.sqT hc18, by rw [← ok5.wl]; exact cok, by omega, fun r20 H20 k20 s20 hr20 pk20 => ?_⟩
            have ek : k20 = k19 := pk20.uniq pk19
            subst ek
            refine ⟨_, rfl, by show 2 ≤ sizeLine; decide, fun t21 ht21 => ?_⟩
            have s21 : Same H20 (upd H20 t21 (.tup [.ref r20, .int (n19 : Int)])) := Same.new ht21
            refine ⟨dnD k20 _ n19, dnD k20 _ n19, .tup ((s20.trans s21).sqT h19) (.cons (dp_res (hr19.same (s20.trans s21))) (.cons (.int _) .nil)), .tup (SqT.of upd_same) (.cons (dp_res (hr20.same s21)) (.cons (.int _) .nil)), sh_dn _ _ _, sh_dn _ _ _, _, rfl, ?_⟩
            rw [eq_dn]
            exact iteF ⟨(S12.trans S25).post ((t19'.trans s20).trans s21), _, _, _, _, _, rfl⟩
          · rintro σ H12 ⟨S12, v1, v2, v3, v4, v5, rfl⟩
            exact ⟨S12.hand, _, _, _, _, _, _, _, _, _, _, _, rfl⟩
    · rintro σ H' ⟨_, u1, u2, u3, u4, u5, u6, u7, u8, u9, u10, u11, rfl⟩
      exact k H'
end
end Law

set_option maxHeartbeats 0
namespace Law
open PySem PySem.Spec PyProof.Rows L2
theorem ba3 {a b : Bool} (h : (a && b) = true) : a = true ∧ b = true := Bool.and_eq_true_iff.mp h
theorem optT_ok {o : Option Bool} (h : optT o = true) : o = some true := by
  cases o with
  | none => cases h
  | some b =>
    cases b with
    | true => rfl
    | false => cases h
section
variable {P : Program} {w : World} {K : PySem.W.Frag} {h : Heap} {mg : Str → Option Value} {base : Heap}
theorem facts {f : Addr} (tr : P.given.tree = none) (X : K.In h) (G : h.Ns mainGlobals mg) (hfa : mg ("law" : Str) = some (.ref f)) (c : He.SaysD fas fns K) (e : exK K = true) :
    ∃ fd : FuncData, (∀ (s : Shared) (v : Value), BindsTo s fd ⟨[v], []⟩ [("_law_script", v)]) ∧ ∀ base : Heap, K.In base → base.Ns mainGlobals mg → FnOk P w K mg base CX0 8 f fd ["_law_script"] (spLaw K) := by
  have eL := hfa.symm.trans (He.glo_ok X G (c.fact 50 (f := .glo "law") rfl))
  cases eL
  obtain ⟨e1, e5⟩ := ba3 e
  obtain ⟨x1, x2⟩ := ba3 e5
  obtain ⟨x2, x3⟩ := ba3 x2
  obtain ⟨x3, x4⟩ := ba3 x3
  obtain ⟨y1, y2⟩ := ba3 e1
  have T : NmA mg := ⟨He.free_ok X G (c.fact 52 (f := .free "abs") rfl), He.free_ok X G (c.fact 53 (f := .free "all") rfl), He.free_ok X G (c.fact 54 (f := .free "any") rfl), He.free_ok X G (c.fact 55 (f := .free "bool") rfl), He.free_ok X G (c.fact 56 (f := .free "enumerate") rfl), He.free_ok X G (c.fact 57 (f := .free "int") rfl), He.free_ok X G (c.fact 58 (f := .free "isinstance") rfl), He.free_ok X G (c.fact 59 (f := .free "len") rfl), He.free_ok X G (c.fact 60 (f := .free "list") rfl), He.free_ok X G (c.fact 61 (f := .free "max") rfl), He.free_ok X G (c.fact 62 (f := .free "range") rfl), He.free_ok X G (c.fact 63 (f := .free "set") rfl), He.free_ok X G (c.fact 64 (f := .free "sorted") rfl), He.free_ok X G (c.fact 65 (f := .free "str") rfl), He.free_ok X G (c.fact 66 (f := .free "sum") rfl), He.free_ok X G (c.fact 67 (f := .free "tuple") rfl), He.free_ok X G (c.fact 68 (f := .free "zip") rfl), PySem.W.mg_of X G (He.eqO_ok y1), PySem.W.mg_of X G (He.eqO_ok y2)⟩
  have Y : SysT K mg (He.ga K "System") := ⟨He.cls_ok (c.fact 69 (f := .cls "System") rfl), He.noat_ok (c.fact 70 (f := .noat "System" "many") rfl), He.noat_ok (c.fact 71 (f := .noat "System" "moves") rfl), He.glo_ok X G (c.fact 15 (f := .glo "System") rfl), He.eqO_ok x1, He.eqO_ok x2, optT_ok x3, optT_ok x4⟩

  obtain ⟨fd_is_integer, F_is_integer⟩ := c.def_ 0 rfl
  have FD_is_integer := F_is_integer
  have F_is_integer := funD_fun (st := s_is_integer) F_is_integer
  have B_is_integer := F_is_integer.binds (ps := ["thing"]) fun _ _ _ _ _ _ us hl => match us, hl with | [_], _ => rfl
  have M_is_integer := He.glo_ok X G (c.fact 0 (f := .glo "is_integer") rfl)
  obtain ⟨fd_is_within, F_is_within⟩ := c.def_ 1 rfl
  have FD_is_within := F_is_within
  have F_is_within := funD_fun (st := s_is_within) F_is_within
  have B_is_within := F_is_within.binds (ps := ["low", "high", "thing"]) fun _ _ _ _ _ _ us hl => match us, hl with | [_, _, _], _ => rfl
  have M_is_within := He.glo_ok X G (c.fact 1 (f := .glo "is_within") rfl)
  obtain ⟨fd_is_row_below, F_is_row_below⟩ := c.def_ 2 rfl
  have FD_is_row_below := F_is_row_below
  have F_is_row_below := funD_fun (st := s_is_row_below) F_is_row_below
  have B_is_row_below := F_is_row_below.binds (ps := ["bound", "thing"]) fun _ _ _ _ _ _ us hl => match us, hl with | [_, _], _ => rfl
  have M_is_row_below := He.glo_ok X G (c.fact 2 (f := .glo "is_row_below") rfl)
  obtain ⟨fd_lot_of, F_lot_of⟩ := c.def_ 3 rfl
  have FD_lot_of := F_lot_of
  have F_lot_of := funD_fun (st := s_lot_of) F_lot_of
  have B_lot_of := F_lot_of.binds (ps := ["things"]) fun _ _ _ _ _ _ us hl => match us, hl with | [_], _ => rfl
  have M_lot_of := He.glo_ok X G (c.fact 3 (f := .glo "lot_of") rfl)
  obtain ⟨fd_is_fraction, F_is_fraction⟩ := c.def_ 4 rfl
  have FD_is_fraction := F_is_fraction
  have F_is_fraction := funD_fun (st := s_is_fraction) F_is_fraction
  have B_is_fraction := F_is_fraction.binds (ps := ["thing"]) fun _ _ _ _ _ _ us hl => match us, hl with | [_], _ => rfl
  have M_is_fraction := He.glo_ok X G (c.fact 4 (f := .glo "is_fraction") rfl)
  obtain ⟨fd_fraction, F_fraction⟩ := c.def_ 5 rfl
  have FD_fraction := F_fraction
  have F_fraction := funD_fun (st := s_fraction) F_fraction
  have B_fraction := F_fraction.binds (ps := ["top", "bottom"]) fun _ _ _ _ _ _ us hl => match us, hl with | [_, _], _ => rfl
  have M_fraction := He.glo_ok X G (c.fact 5 (f := .glo "fraction") rfl)
  obtain ⟨fd_common_bottom, F_common_bottom⟩ := c.def_ 6 rfl
  have FD_common_bottom := F_common_bottom
  have F_common_bottom := funD_fun (st := s_common_bottom) F_common_bottom
  have B_common_bottom := F_common_bottom.binds (ps := ["fractions"]) fun _ _ _ _ _ _ us hl => match us, hl with | [_], _ => rfl
  have M_common_bottom := He.glo_ok X G (c.fact 6 (f := .glo "common_bottom") rfl)
  obtain ⟨fd_tops_over, F_tops_over⟩ := c.def_ 7 rfl
  have FD_tops_over := F_tops_over
  have F_tops_over := funD_fun (st := s_tops_over) F_tops_over
  have B_tops_over := F_tops_over.binds (ps := ["fractions", "bottom"]) fun _ _ _ _ _ _ us hl => match us, hl with | [_, _], _ => rfl
  have M_tops_over := He.glo_ok X G (c.fact 7 (f := .glo "tops_over") rfl)
  obtain ⟨fd_are_one_together, F_are_one_together⟩ := c.def_ 8 rfl
  have FD_are_one_together := F_are_one_together
  have F_are_one_together := funD_fun (st := s_are_one_together) F_are_one_together
  have B_are_one_together := F_are_one_together.binds (ps := ["fractions"]) fun _ _ _ _ _ _ us hl => match us, hl with | [_], _ => rfl
  have M_are_one_together := He.glo_ok X G (c.fact 8 (f := .glo "are_one_together") rfl)
  obtain ⟨fd_is_move, F_is_move⟩ := c.def_ 16 rfl
  have FD_is_move := F_is_move
  have F_is_move := funD_fun (st := s_is_move) F_is_move
  have B_is_move := F_is_move.binds (ps := ["many", "thing"]) fun _ _ _ _ _ _ us hl => match us, hl with | [_, _], _ => rfl
  have M_is_move := He.glo_ok X G (c.fact 16 (f := .glo "is_move") rfl)
  obtain ⟨fd_is_row, F_is_row⟩ := c.def_ 17 rfl
  have FD_is_row := F_is_row
  have F_is_row := funD_fun (st := s_is_row) F_is_row
  have B_is_row := F_is_row.binds (ps := ["system", "thing"]) fun _ _ _ _ _ _ us hl => match us, hl with | [_, _], _ => rfl
  have M_is_row := He.glo_ok X G (c.fact 17 (f := .glo "is_row") rfl)
  obtain ⟨fd_is_plan, F_is_plan⟩ := c.def_ 18 rfl
  have FD_is_plan := F_is_plan
  have F_is_plan := funD_fun (st := s_is_plan) F_is_plan
  have B_is_plan := F_is_plan.binds (ps := ["thing"]) fun _ _ _ _ _ _ us hl => match us, hl with | [_], _ => rfl
  have M_is_plan := He.glo_ok X G (c.fact 18 (f := .glo "is_plan") rfl)
  obtain ⟨fd_looks, F_looks⟩ := c.def_ 19 rfl
  have FD_looks := F_looks
  have F_looks := funD_fun (st := s_looks) F_looks
  have B_looks := F_looks.binds (ps := ["plan", "many"]) fun _ _ _ _ _ _ us hl => match us, hl with | [_, _], _ => rfl
  have M_looks := He.glo_ok X G (c.fact 19 (f := .glo "looks") rfl)
  obtain ⟨fd_led_ahead, F_led_ahead⟩ := c.def_ 20 rfl
  have FD_led_ahead := F_led_ahead
  have F_led_ahead := funD_fun (st := s_led_ahead) F_led_ahead
  have B_led_ahead := F_led_ahead.binds (ps := ["system", "move", "leads"]) fun _ _ _ _ _ _ us hl => match us, hl with | [_, _, _], _ => rfl
  have M_led_ahead := He.glo_ok X G (c.fact 20 (f := .glo "led_ahead") rfl)
  obtain ⟨fd_led_by_plan, F_led_by_plan⟩ := c.def_ 21 rfl
  have FD_led_by_plan := F_led_by_plan
  have F_led_by_plan := funD_fun (st := s_led_by_plan) F_led_by_plan
  have B_led_by_plan := F_led_by_plan.binds (ps := ["system", "coins", "plan", "states"]) fun _ _ _ _ _ _ us hl => match us, hl with | [_, _, _, _], _ => rfl
  have M_led_by_plan := He.glo_ok X G (c.fact 21 (f := .glo "led_by_plan") rfl)
  obtain ⟨fd_drawn, F_drawn⟩ := c.def_ 22 rfl
  have FD_drawn := F_drawn
  have F_drawn := funD_fun (st := s_drawn) F_drawn
  have B_drawn := F_drawn.binds (ps := ["system", "coins", "plan"]) fun _ _ _ _ _ _ us hl => match us, hl with | [_, _, _], _ => rfl
  have M_drawn := He.glo_ok X G (c.fact 22 (f := .glo "drawn") rfl)
  obtain ⟨fd_factors_of, F_factors_of⟩ := c.def_ 23 rfl
  have FD_factors_of := F_factors_of
  have F_factors_of := funD_fun (st := s_factors_of) F_factors_of
  have B_factors_of := F_factors_of.binds (ps := ["system"]) fun _ _ _ _ _ _ us hl => match us, hl with | [_], _ => rfl
  have M_factors_of := He.glo_ok X G (c.fact 23 (f := .glo "factors_of") rfl)
  obtain ⟨fd_is_bits, F_is_bits⟩ := c.def_ 24 rfl
  have FD_is_bits := F_is_bits
  have F_is_bits := funD_fun (st := s_is_bits) F_is_bits
  have B_is_bits := F_is_bits.binds (ps := ["thing"]) fun _ _ _ _ _ _ us hl => match us, hl with | [_], _ => rfl
  have M_is_bits := He.glo_ok X G (c.fact 24 (f := .glo "is_bits") rfl)
  obtain ⟨fd_ends_of_moves, F_ends_of_moves⟩ := c.def_ 25 rfl
  have FD_ends_of_moves := F_ends_of_moves
  have F_ends_of_moves := funD_fun (st := s_ends_of_moves) F_ends_of_moves
  have B_ends_of_moves := F_ends_of_moves.binds (ps := ["system"]) fun _ _ _ _ _ _ us hl => match us, hl with | [_], _ => rfl
  have M_ends_of_moves := He.glo_ok X G (c.fact 25 (f := .glo "ends_of_moves") rfl)
  obtain ⟨fd_move_within, F_move_within⟩ := c.def_ 26 rfl
  have FD_move_within := F_move_within
  have F_move_within := funD_fun (st := s_move_within) F_move_within
  have B_move_within := F_move_within.binds (ps := ["ends", "bottom", "number", "parts"]) fun _ _ _ _ _ _ us hl => match us, hl with | [_, _, _, _], _ => rfl
  have M_move_within := He.glo_ok X G (c.fact 26 (f := .glo "move_within") rfl)
  obtain ⟨fd_move_by_bits, F_move_by_bits⟩ := c.def_ 27 rfl
  have FD_move_by_bits := F_move_by_bits
  have F_move_by_bits := funD_fun (st := s_move_by_bits) F_move_by_bits
  have B_move_by_bits := F_move_by_bits.binds (ps := ["system", "bits"]) fun _ _ _ _ _ _ us hl => match us, hl with | [_, _], _ => rfl
  have M_move_by_bits := He.glo_ok X G (c.fact 27 (f := .glo "move_by_bits") rfl)
  obtain ⟨fd_tops_by_bits, F_tops_by_bits⟩ := c.def_ 28 rfl
  have FD_tops_by_bits := F_tops_by_bits
  have F_tops_by_bits := funD_fun (st := s_tops_by_bits) F_tops_by_bits
  have B_tops_by_bits := F_tops_by_bits.binds (ps := ["system", "many"]) fun _ _ _ _ _ _ us hl => match us, hl with | [_, _], _ => rfl
  have M_tops_by_bits := He.glo_ok X G (c.fact 28 (f := .glo "tops_by_bits") rfl)
  obtain ⟨fd_told_by_bits, F_told_by_bits⟩ := c.def_ 29 rfl
  have FD_told_by_bits := F_told_by_bits
  have F_told_by_bits := funD_fun (st := s_told_by_bits) F_told_by_bits
  have B_told_by_bits := F_told_by_bits.binds (ps := ["system", "many"]) fun _ _ _ _ _ _ us hl => match us, hl with | [_, _], _ => rfl
  have M_told_by_bits := He.glo_ok X G (c.fact 29 (f := .glo "told_by_bits") rfl)
  obtain ⟨fd_open_by_bits, F_open_by_bits⟩ := c.def_ 30 rfl
  have FD_open_by_bits := F_open_by_bits
  have F_open_by_bits := funD_fun (st := s_open_by_bits) F_open_by_bits
  have B_open_by_bits := F_open_by_bits.binds (ps := ["system", "many"]) fun _ _ _ _ _ _ us hl => match us, hl with | [_, _], _ => rfl
  have M_open_by_bits := He.glo_ok X G (c.fact 30 (f := .glo "open_by_bits") rfl)
  obtain ⟨fd_coins_of_bits, F_coins_of_bits⟩ := c.def_ 31 rfl
  have FD_coins_of_bits := F_coins_of_bits
  have F_coins_of_bits := funD_fun (st := s_coins_of_bits) F_coins_of_bits
  have B_coins_of_bits := F_coins_of_bits.binds (ps := ["system", "bits"]) fun _ _ _ _ _ _ us hl => match us, hl with | [_, _], _ => rfl
  have M_coins_of_bits := He.glo_ok X G (c.fact 31 (f := .glo "coins_of_bits") rfl)
  obtain ⟨fd_drawn_by_bits, F_drawn_by_bits⟩ := c.def_ 32 rfl
  have FD_drawn_by_bits := F_drawn_by_bits
  have F_drawn_by_bits := funD_fun (st := s_drawn_by_bits) F_drawn_by_bits
  have B_drawn_by_bits := F_drawn_by_bits.binds (ps := ["system", "bits", "plan"]) fun _ _ _ _ _ _ us hl => match us, hl with | [_, _, _], _ => rfl
  have M_drawn_by_bits := He.glo_ok X G (c.fact 32 (f := .glo "drawn_by_bits") rfl)
  obtain ⟨fd__law_hand, F__law_hand⟩ := c.def_ 33 rfl
  have FD__law_hand := F__law_hand
  have F__law_hand := funD_fun (st := s_law_hand) F__law_hand
  have B__law_hand := F__law_hand.binds (ps := ["_law_script"]) fun _ _ _ _ _ _ us hl => match us, hl with | [_], _ => rfl
  have M__law_hand := He.glo_ok X G (c.fact 33 (f := .glo "_law_hand") rfl)
  obtain ⟨fd__law_draw, F__law_draw⟩ := c.def_ 34 rfl
  have FD__law_draw := F__law_draw
  have F__law_draw := funD_fun (st := s_law_draw) F__law_draw
  have B__law_draw := F__law_draw.binds (ps := ["_law_hand_here", "_law_many"]) fun _ _ _ _ _ _ us hl => match us, hl with | [_, _], _ => rfl
  have M__law_draw := He.glo_ok X G (c.fact 34 (f := .glo "_law_draw") rfl)
  obtain ⟨fd__law_any, F__law_any⟩ := c.def_ 35 rfl
  have FD__law_any := F__law_any
  have F__law_any := funD_fun (st := s_law_any) F__law_any
  have B__law_any := F__law_any.binds (ps := ["_law_hand_here", "_law_things"]) fun _ _ _ _ _ _ us hl => match us, hl with | [_, _], _ => rfl
  have M__law_any := He.glo_ok X G (c.fact 35 (f := .glo "_law_any") rfl)
  obtain ⟨fd__law_low, F__law_low⟩ := c.def_ 36 rfl
  have FD__law_low := F__law_low
  have F__law_low := funD_fun (st := s_law_low) F__law_low
  have B__law_low := F__law_low.binds (ps := ["_law_top", "_law_bottom"]) fun _ _ _ _ _ _ us hl => match us, hl with | [_, _], _ => rfl
  have M__law_low := He.glo_ok X G (c.fact 36 (f := .glo "_law_low") rfl)
  obtain ⟨fd__law_leads, F__law_leads⟩ := c.def_ 37 rfl
  have FD__law_leads := F__law_leads
  have F__law_leads := funD_fun (st := s_law_leads) F__law_leads
  have B__law_leads := F__law_leads.binds (ps := ["_law_hand_here", "_law_many"]) fun _ _ _ _ _ _ us hl => match us, hl with | [_, _], _ => rfl
  have M__law_leads := He.glo_ok X G (c.fact 37 (f := .glo "_law_leads") rfl)
  obtain ⟨fd__law_world, F__law_world⟩ := c.def_ 38 rfl
  have FD__law_world := F__law_world
  have F__law_world := funD_fun (st := s_law_world) F__law_world
  have B__law_world := F__law_world.binds (ps := ["_law_hand_here", "_law_most", "_law_moves"]) fun _ _ _ _ _ _ us hl => match us, hl with | [_, _, _], _ => rfl
  have M__law_world := He.glo_ok X G (c.fact 38 (f := .glo "_law_world") rfl)
  obtain ⟨fd__law_made, F__law_made⟩ := c.def_ 39 rfl
  have FD__law_made := F__law_made
  have F__law_made := funD_fun (st := s_law_made) F__law_made
  have B__law_made := F__law_made.binds (ps := ["_law_world_here"]) fun _ _ _ _ _ _ us hl => match us, hl with | [_], _ => rfl
  have M__law_made := He.glo_ok X G (c.fact 39 (f := .glo "_law_made") rfl)
  obtain ⟨fd__law_lot, F__law_lot⟩ := c.def_ 40 rfl
  have FD__law_lot := F__law_lot
  have F__law_lot := funD_fun (st := s_law_lot) F__law_lot
  have B__law_lot := F__law_lot.binds (ps := ["_law_states"]) fun _ _ _ _ _ _ us hl => match us, hl with | [_], _ => rfl
  have M__law_lot := He.glo_ok X G (c.fact 40 (f := .glo "_law_lot") rfl)
  obtain ⟨fd__law_drawn, F__law_drawn⟩ := c.def_ 41 rfl
  have FD__law_drawn := F__law_drawn
  have F__law_drawn := funD_fun (st := s_law_drawn) F__law_drawn
  have B__law_drawn := F__law_drawn.binds (ps := ["_law_world_here", "_law_coins", "_law_plan"]) fun _ _ _ _ _ _ us hl => match us, hl with | [_, _, _], _ => rfl
  have M__law_drawn := He.glo_ok X G (c.fact 41 (f := .glo "_law_drawn") rfl)
  obtain ⟨fd__law_power, F__law_power⟩ := c.def_ 42 rfl
  have FD__law_power := F__law_power
  have F__law_power := funD_fun (st := s_law_power) F__law_power
  have B__law_power := F__law_power.binds (ps := ["_law_number", "_law_many"]) fun _ _ _ _ _ _ us hl => match us, hl with | [_, _], _ => rfl
  have M__law_power := He.glo_ok X G (c.fact 42 (f := .glo "_law_power") rfl)
  obtain ⟨fd__law_all_rows, F__law_all_rows⟩ := c.def_ 43 rfl
  have FD__law_all_rows := F__law_all_rows
  have F__law_all_rows := funD_fun (st := s_law_all_rows) F__law_all_rows
  have B__law_all_rows := F__law_all_rows.binds (ps := ["_law_moves", "_law_many"]) fun _ _ _ _ _ _ us hl => match us, hl with | [_, _], _ => rfl
  have M__law_all_rows := He.glo_ok X G (c.fact 43 (f := .glo "_law_all_rows") rfl)
  obtain ⟨fd__law_move, F__law_move⟩ := c.def_ 44 rfl
  have FD__law_move := F__law_move
  have F__law_move := funD_fun (st := s_law_move) F__law_move
  have B__law_move := F__law_move.binds (ps := ["_law_world_here", "_law_bits_here"]) fun _ _ _ _ _ _ us hl => match us, hl with | [_, _], _ => rfl
  have M__law_move := He.glo_ok X G (c.fact 44 (f := .glo "_law_move") rfl)
  obtain ⟨fd__law_coins_told, F__law_coins_told⟩ := c.def_ 45 rfl
  have FD__law_coins_told := F__law_coins_told
  have F__law_coins_told := funD_fun (st := s_law_coins_told) F__law_coins_told
  have B__law_coins_told := F__law_coins_told.binds (ps := ["_law_world_here", "_law_bits_here"]) fun _ _ _ _ _ _ us hl => match us, hl with | [_, _], _ => rfl
  have M__law_coins_told := He.glo_ok X G (c.fact 45 (f := .glo "_law_coins_told") rfl)
  obtain ⟨fd__law_counts, F__law_counts⟩ := c.def_ 46 rfl
  have FD__law_counts := F__law_counts
  have F__law_counts := funD_fun (st := s_law_counts) F__law_counts
  have B__law_counts := F__law_counts.binds (ps := ["_law_world_here", "_law_many"]) fun _ _ _ _ _ _ us hl => match us, hl with | [_, _], _ => rfl
  have M__law_counts := He.glo_ok X G (c.fact 46 (f := .glo "_law_counts") rfl)
  obtain ⟨fd__law_shares_right, F__law_shares_right⟩ := c.def_ 47 rfl
  have FD__law_shares_right := F__law_shares_right
  have F__law_shares_right := funD_fun (st := s_law_shares_right) F__law_shares_right
  have B__law_shares_right := F__law_shares_right.binds (ps := ["_law_world_here", "_law_system", "_law_many", "_law_counts_here", "_law_scale"]) fun _ _ _ _ _ _ us hl => match us, hl with | [_, _, _, _, _], _ => rfl
  have M__law_shares_right := He.glo_ok X G (c.fact 47 (f := .glo "_law_shares_right") rfl)
  obtain ⟨fd__law_all_right, F__law_all_right⟩ := c.def_ 48 rfl
  have FD__law_all_right := F__law_all_right
  have F__law_all_right := funD_fun (st := s_law_all_right) F__law_all_right
  have B__law_all_right := F__law_all_right.binds (ps := ["_law_world_here", "_law_system", "_law_most"]) fun _ _ _ _ _ _ us hl => match us, hl with | [_, _, _], _ => rfl
  have M__law_all_right := He.glo_ok X G (c.fact 48 (f := .glo "_law_all_right") rfl)
  obtain ⟨fd__law_bits, F__law_bits⟩ := c.def_ 49 rfl
  have FD__law_bits := F__law_bits
  have F__law_bits := funD_fun (st := s_law_bits) F__law_bits
  have B__law_bits := F__law_bits.binds (ps := ["_law_hand_here", "_law_many"]) fun _ _ _ _ _ _ us hl => match us, hl with | [_, _], _ => rfl
  have M__law_bits := He.glo_ok X G (c.fact 49 (f := .glo "_law_bits") rfl)
  obtain ⟨fd_law, F_law⟩ := c.def_ 50 rfl
  have FD_law := F_law
  have F_law := funD_fun (st := s_law) F_law
  have B_law := F_law.binds (ps := ["_law_script"]) fun _ _ _ _ _ _ us hl => match us, hl with | [_], _ => rfl
  have M_law := He.glo_ok X G (c.fact 50 (f := .glo "law") rfl)
  obtain ⟨fd_System___init__, F_System___init__⟩ := c.def_ 14 rfl
  have FD_System___init__ := F_System___init__
  have F_System___init__ := funD_fun (st := s_System_init) F_System___init__
  have B_System___init__ := F_System___init__.binds (ps := ["self", "many", "moves"]) fun _ _ _ _ _ _ us hl => match us, hl with | [_, _, _], _ => rfl
  have MK := He.mkr_ok (c.fact 72 (f := .mkr "System") rfl)
  have bla := FunD.bindsA (ps := ["_law_script"]) FD_law fun _ _ _ _ _ _ us hl => match us, hl with | [_], _ => rfl
  refine ⟨fd_law, fun s v => bla s [v] rfl, fun base KB GB => ?_⟩

  have k__law_hand : Cl P w K mg base CX0 1 "_law_hand" _ fd__law_hand ["_law_script"] (spHand K) := ⟨ok_hand F__law_hand T, B__law_hand, M__law_hand, F__law_hand.kp⟩
  have k__law_draw : Cl P w K mg base CX0 1 "_law_draw" _ fd__law_draw ["_law_hand_here", "_law_many"] spDraw := ⟨ok_draw F__law_draw T, B__law_draw, M__law_draw, F__law_draw.kp⟩
  have k__law_any : Cl P w K mg base CX0 2 "_law_any" _ fd__law_any ["_law_hand_here", "_law_things"] (spAny K) := ⟨ok_any F__law_any T k__law_draw, B__law_any, M__law_any, F__law_any.kp⟩
  have k__law_leads : Cl P w K mg base CX0 2 "_law_leads" _ fd__law_leads ["_law_hand_here", "_law_many"] (spLeads K) := ⟨ok_leads F__law_leads T k__law_draw, B__law_leads, M__law_leads, F__law_leads.kp⟩
  have k__law_world : Cl P w K mg base CX0 3 "_law_world" _ fd__law_world ["_law_hand_here", "_law_most", "_law_moves"] (spWorld K) := ⟨ok_world F__law_world T k__law_draw k__law_any k__law_leads, B__law_world, M__law_world, F__law_world.kp⟩
  have k__law_low : Cl P w K mg base CX0 1 "_law_low" _ fd__law_low ["_law_top", "_law_bottom"] spLowS := ⟨ok_low F__law_low T , B__law_low, M__law_low, F__law_low.kp⟩
  have k_is_integer : Cl P w K mg base CX0 1 "is_integer" _ fd_is_integer ["thing"] (spIsInt K) := ⟨ok_isint F_is_integer T, B_is_integer, M_is_integer, F_is_integer.kp⟩
  have k_is_within : Cl P w K mg base CX0 2 "is_within" _ fd_is_within ["low", "high", "thing"] (spWithin K) := ⟨ok_within F_is_within k_is_integer, B_is_within, M_is_within, F_is_within.kp⟩
  have k_is_fraction : Cl P w K mg base CX0 2 "is_fraction" _ fd_is_fraction ["thing"] (spFrac K) := ⟨ok_frac F_is_fraction T k_is_integer, B_is_fraction, M_is_fraction, F_is_fraction.kp⟩
  have k_is_row_below : Cl P w K mg base CX0 3 "is_row_below" _ fd_is_row_below ["bound", "thing"] (spRowB K) := ⟨ok_rowb F_is_row_below T k_is_within, B_is_row_below, M_is_row_below, F_is_row_below.kp⟩
  have k_is_move : Cl P w K mg base CX0 4 "is_move" _ fd_is_move ["many", "thing"] (spMove K) := ⟨ok_move F_is_move T k_is_fraction k_is_row_below, B_is_move, M_is_move, F_is_move.kp⟩
  have k_common_bottom : Cl P w K mg base CX0 1 "common_bottom" _ fd_common_bottom ["fractions"] (spComB K) := ⟨ok_comb F_common_bottom T, B_common_bottom, M_common_bottom, F_common_bottom.kp⟩
  have k_tops_over : Cl P w K mg base CX0 1 "tops_over" _ fd_tops_over ["fractions", "bottom"] (spTops K) := ⟨ok_tops F_tops_over, B_tops_over, M_tops_over, F_tops_over.kp⟩
  have k_are_one_together : Cl P w K mg base CX0 2 "are_one_together" _ fd_are_one_together ["fractions"] (spOne K) := ⟨ok_one F_are_one_together T k_common_bottom k_tops_over, B_are_one_together, M_are_one_together, F_are_one_together.kp⟩
  have GK := ok_sinit (P := P) (w := w) (base := base) F_System___init__ T Y k_is_within k_is_move k_are_one_together
  have k__law_made : Cl P w K mg base CX0 7 "_law_made" _ fd__law_made ["_law_world_here"] (spMade K (He.ga K "System")) := ⟨ok_made F__law_made T k__law_low MK GK B_System___init__ Y, B__law_made, M__law_made, F__law_made.kp⟩
  have k__law_all_rows : Cl P w K mg base CX0 1 "_law_all_rows" _ fd__law_all_rows ["_law_moves", "_law_many"] (spAllRows K) := ⟨ok_all_rows F__law_all_rows T , B__law_all_rows, M__law_all_rows, F__law_all_rows.kp⟩
  have k__law_move : Cl P w K mg base CX0 1 "_law_move" _ fd__law_move ["_law_world_here", "_law_bits_here"] (spMoveL K) := ⟨ok_moveL F__law_move T , B__law_move, M__law_move, F__law_move.kp⟩
  have k_is_bits : Cl P w K mg base CX0 4 "is_bits" _ fd_is_bits ["thing"] (spIsBits K) := ⟨ok_is_bits F_is_bits T k_is_row_below, B_is_bits, M_is_bits, F_is_bits.kp⟩
  have k_factors_of : Cl P w K mg base CX0 2 "factors_of" _ fd_factors_of ["system"] (spFactors K (He.ga K "System")) := ⟨ok_factors_of F_factors_of T k_common_bottom k_tops_over Y, B_factors_of, M_factors_of, F_factors_of.kp⟩
  have k_ends_of_moves : Cl P w K mg base CX0 3 "ends_of_moves" _ fd_ends_of_moves ["system"] (spEnds K (He.ga K "System")) := ⟨ok_ends_of_moves F_ends_of_moves T k_factors_of, B_ends_of_moves, M_ends_of_moves, F_ends_of_moves.kp⟩
  have k_move_within : Cl P w K mg base CX0 1 "move_within" _ fd_move_within ["ends", "bottom", "number", "parts"] spMvIn := ⟨ok_move_within F_move_within T , B_move_within, M_move_within, F_move_within.kp⟩
  have k_move_by_bits : Cl P w K mg base CX0 5 "move_by_bits" _ fd_move_by_bits ["system", "bits"] (spMvBits K (He.ga K "System")) := ⟨ok_move_by_bits F_move_by_bits T k_is_bits k_ends_of_moves k_move_within, B_move_by_bits, M_move_by_bits, F_move_by_bits.kp⟩
  have k_tops_by_bits : Cl P w K mg base CX0 4 "tops_by_bits" _ fd_tops_by_bits ["system", "many"] (spTopsBy K (He.ga K "System")) := ⟨ok_tops_by_bits F_tops_by_bits T k_ends_of_moves, B_tops_by_bits, M_tops_by_bits, F_tops_by_bits.kp⟩
  have k_fraction : Cl P w K mg base CX0 1 "fraction" _ fd_fraction ["top", "bottom"] spLowS := ⟨ok_fraction F_fraction T , B_fraction, M_fraction, F_fraction.kp⟩
  have k_told_by_bits : Cl P w K mg base CX0 5 "told_by_bits" _ fd_told_by_bits ["system", "many"] (spTold K (He.ga K "System")) := ⟨ok_told_by_bits F_told_by_bits T k_is_within k_tops_by_bits k_fraction, B_told_by_bits, M_told_by_bits, F_told_by_bits.kp⟩
  have k_open_by_bits : Cl P w K mg base CX0 5 "open_by_bits" _ fd_open_by_bits ["system", "many"] (spOpen K (He.ga K "System")) := ⟨ok_open_by_bits F_open_by_bits T k_is_within k_tops_by_bits k_fraction, B_open_by_bits, M_open_by_bits, F_open_by_bits.kp⟩
  have k__law_shares_right : Cl P w K mg base CX0 6 "_law_shares_right" _ fd__law_shares_right ["_law_world_here", "_law_system", "_law_many", "_law_counts_here", "_law_scale"] (spShR K (He.ga K "System")) := ⟨ok_shares_right F__law_shares_right T k_told_by_bits k__law_low k_open_by_bits, B__law_shares_right, M__law_shares_right, F__law_shares_right.kp⟩
  have k__law_power : Cl P w K mg base CX0 1 "_law_power" _ fd__law_power ["_law_number", "_law_many"] spPower := ⟨ok_power F__law_power T , B__law_power, M__law_power, F__law_power.kp⟩
  have k__law_counts : Cl P w K mg base CX0 1 "_law_counts" _ fd__law_counts ["_law_world_here", "_law_many"] (spCounts K) := ⟨ok_counts F__law_counts T , B__law_counts, M__law_counts, F__law_counts.kp⟩
  have k__law_all_right : Cl P w K mg base CX0 7 "_law_all_right" _ fd__law_all_right ["_law_world_here", "_law_system", "_law_most"] (spAllR K (He.ga K "System")) := ⟨ok_all_right F__law_all_right T k__law_all_rows k__law_move k_move_by_bits k__law_shares_right k__law_power k__law_counts, B__law_all_right, M__law_all_right, F__law_all_right.kp⟩
  have k__law_bits : Cl P w K mg base CX0 2 "_law_bits" _ fd__law_bits ["_law_hand_here", "_law_many"] (spBits K) := ⟨ok_bits F__law_bits T k__law_draw, B__law_bits, M__law_bits, F__law_bits.kp⟩
  have k__law_coins_told : Cl P w K mg base CX0 2 "_law_coins_told" _ fd__law_coins_told ["_law_world_here", "_law_bits_here"] (spCoinsTold K) := ⟨ok_coins_told F__law_coins_told T k__law_move, B__law_coins_told, M__law_coins_told, F__law_coins_told.kp⟩
  have k_coins_of_bits : Cl P w K mg base CX0 6 "coins_of_bits" _ fd_coins_of_bits ["system", "bits"] (spCoinsOf K (He.ga K "System")) := ⟨ok_coins_of_bits F_coins_of_bits T k_move_by_bits, B_coins_of_bits, M_coins_of_bits, F_coins_of_bits.kp⟩
  have k_is_row : Cl P w K mg base CX0 4 "is_row" _ fd_is_row ["system", "thing"] (spIsRow K (He.ga K "System")) := ⟨ok_isrow F_is_row T Y k_is_row_below, B_is_row, M_is_row, F_is_row.kp⟩
  have k_is_plan : Cl P w K mg base CX0 1 "is_plan" _ fd_is_plan ["thing"] spIsPlan := ⟨ok_is_plan F_is_plan T , B_is_plan, M_is_plan, F_is_plan.kp⟩
  have k_looks : Cl P w K mg base CX0 1 "looks" _ fd_looks ["plan", "many"] (spLooks K) := ⟨ok_looks F_looks T , B_looks, M_looks, F_looks.kp⟩
  have k_led_ahead : Cl P w K mg base CX0 1 "led_ahead" _ fd_led_ahead ["system", "move", "leads"] (spAhead K (He.ga K "System")) := ⟨ok_led_ahead F_led_ahead T Y, B_led_ahead, M_led_ahead, F_led_ahead.kp⟩
  have k_lot_of : Cl P w K mg base CX0 1 "lot_of" _ fd_lot_of ["things"] (spLotOf K) := ⟨ok_lot_of F_lot_of T , B_lot_of, M_lot_of, F_lot_of.kp⟩
  have k_led_by_plan : Cl P w K mg base CX0 2 "led_by_plan" _ fd_led_by_plan ["system", "coins", "plan", "states"] (spPlan K (He.ga K "System")) := ⟨ok_led_by_plan F_led_by_plan T k_looks k_led_ahead k_lot_of Y, B_led_by_plan, M_led_by_plan, F_led_by_plan.kp⟩
  have k_drawn : Cl P w K mg base CX0 5 "drawn" _ fd_drawn ["system", "coins", "plan"] (spDrawn K (He.ga K "System")) := ⟨ok_drawn F_drawn T k_is_row k_is_plan k_led_by_plan k_lot_of Y, B_drawn, M_drawn, F_drawn.kp⟩
  have k_drawn_by_bits : Cl P w K mg base CX0 7 "drawn_by_bits" _ fd_drawn_by_bits ["system", "bits", "plan"] (spDrawnBits K (He.ga K "System")) := ⟨ok_drawn_by_bits F_drawn_by_bits T k_is_bits k_coins_of_bits k_drawn, B_drawn_by_bits, M_drawn_by_bits, F_drawn_by_bits.kp⟩
  have k__law_lot : Cl P w K mg base CX0 1 "_law_lot" _ fd__law_lot ["_law_states"] (spLotOf K) := ⟨ok_lot F__law_lot T , B__law_lot, M__law_lot, F__law_lot.kp⟩
  have k__law_drawn : Cl P w K mg base CX0 2 "_law_drawn" _ fd__law_drawn ["_law_world_here", "_law_coins", "_law_plan"] (spDrawnL K) := ⟨ok_drawnL F__law_drawn T k__law_lot, B__law_drawn, M__law_drawn, F__law_drawn.kp⟩
  exact ok_law F_law T k__law_hand k__law_world k__law_draw k__law_made k__law_all_right k__law_any k__law_counts k__law_shares_right k__law_bits k_move_by_bits k__law_move k__law_coins_told k_drawn_by_bits k__law_drawn
end
end Law
open PySem PySem.W PySem.Calls PyProof.Rows
theorem PySem.Challenge.cw_asifforever_k17_whole_moves_by_bits_holds : PySem.Challenge.rw_asifforever_k17_whole_moves_by_bits.Holds := by
  w_on; o_law
  refine HandSHeadRun.head_imp (r := OpenLaw.row PySem.Challenge.rw_asifforever_k17_whole_moves_by_bits) (q := view (OpenLaw.row PySem.Challenge.rw_asifforever_k17_whole_moves_by_bits).prog [0, 58]) (H := Law.hk) (ob := Law.ob) (M := 13000) (loose := Law.names) (d := HandSHeadRun.topDef (OpenLaw.row PySem.Challenge.rw_asifforever_k17_whole_moves_by_bits).prog 58) (kwd := []) Law.ob_eq
    Law.run (by kernel_rfl) (by kernel_rfl) (by kernel_rfl) (by rfl) (by first | assumption | decide +kernel) (by decide +kernel) ⟨rfl, rfl, rfl, rfl, rfl, by decide +kernel⟩ ?hw ?hc
  case hw => w_witness2
  case hc =>
    refine L2.walk_ofE (l := PySem.Challenge.rw_asifforever_k17_whole_moves_by_bits) (n := 63) (k := 8) (x := "_law_script") (CX := L2.CX0) rfl (by decide) (by kernel_rfl) ⟨rfl, by decide, by decide⟩ ?F (fun _ _ _ _ z => z)
    intro w mg fa h Y G hmg0
    obtain ⟨K, KX, c, e⟩ := Y
    have hmg : mg ("law" : PySem.Str) = some (.ref fa) := by
      have e : (HandSHeadRun.topDef (OpenLaw.row PySem.Challenge.rw_asifforever_k17_whole_moves_by_bits).prog 58).name = ("law" : PySem.Str) := by kernel_rfl
      rw [← e]
      exact hmg0
    obtain ⟨fd, hb, hF⟩ := Law.facts (P := (PySem.Challenge.rw_asifforever_k17_whole_moves_by_bits).prog) (w := w) (by rfl) KX G hmg c e
    exact ⟨K, fd, Law.spLaw K, KX, hb, fun H a ns hl _ hS => ⟨a, ns, rfl, hS, hl, fun _ => rfl⟩, hF⟩

