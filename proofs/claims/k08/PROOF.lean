import PyProof.Rows.All
import Wide.All
import OpenK.AllK
import Wide.FinOn
import KE.KExcIs
import HandS.ForMost
import HandS.Evl
import HandS.IsInst
import HandS.ExcInit
import HandS.ExcIs
import HandS.DeepEq
import HandS.OwnEq
import HandS.SetFor
import KE.GoesMore
import PyProof.Draws
import HandS.Walk
import HandS.Wide
import HandS.Gcd
import KE.KStateDown
import HandS.Defaults
import HandS.Head0
import HandS.Head1
import HandS.Head2
import HandS.Head3
import HandS.HeadEnd
import HandS.HeadHook1
import HandS.HeadHook2
import PyProof.NoPylong
import HandS.Conv
import HandS.TupMul
import HandS.TupAny
import HandS.Strs
import HandS.List
import HandS.Style
import PySem.Challenge.RW_asifforever_k08_whole_merging_rows_and_b
import HandS.TupMul
import HandS.Deep
import HandS.Walk
import KE.KDictDisplayH
import HandS.Zip
import KE.KDictZip
import KE.KItemsList
import HandS.ListItems
import KE.DataMinMax
import KE.SortData
import HandS.TupLe
import HandS.TupSets
set_option Elab.async false
set_option linter.all false
set_option maxRecDepth 100000
set_option maxHeartbeats 4000000
set_option exponentiation.threshold 200000
namespace Law
open PySem L2
def top (i : Nat) : Stmt := PySem.Challenge.pw_asifforever_k08_whole_merging_rows_and_b.main.body.getD i (.Pass ⟨0, 0, 0, 0⟩)
abbrev s_is_integer : Stmt := top 2
abbrev s_is_within : Stmt := top 3
abbrev s_is_row_below : Stmt := top 4
abbrev s_is_pair_below : Stmt := top 5
abbrev s_is_ascending : Stmt := top 6
abbrev s_is_lot_of_pairs : Stmt := top 7
abbrev s_is_lot_of_couples : Stmt := top 8
abbrev s_lot_of : Stmt := top 9
abbrev s_is_fraction : Stmt := top 10
abbrev s_common_bottom : Stmt := top 11
abbrev s_tops_over : Stmt := top 12
abbrev s_are_one_together : Stmt := top 13
abbrev s_BadSystem_init : Stmt := inClass (top 16) 0
abbrev s_NoRow_init : Stmt := inClass (top 17) 0
abbrev s_NoState_init : Stmt := inClass (top 18) 0
abbrev s_System_init : Stmt := inClass (top 20) 0
abbrev s_System_eq : Stmt := inClass (top 20) 1
abbrev s_is_move : Stmt := top 21
abbrev s_is_row : Stmt := top 22
abbrev s_led : Stmt := top 23
abbrev s_led_all : Stmt := top 24
abbrev s_lot_led : Stmt := top 26
abbrev s_least_row_to_one : Stmt := top 27
abbrev s_merging_row : Stmt := top 28
abbrev s_is_kept : Stmt := top 29
abbrev s_is_book : Stmt := top 30
abbrev s_apart : Stmt := top 31
abbrev s_law_hand : Stmt := top 33
abbrev s_law_draw : Stmt := top 34
abbrev s_law_any : Stmt := top 35
abbrev s_law_is : Stmt := top 36
abbrev s_law_low : Stmt := top 37
abbrev s_law_parts : Stmt := top 38
abbrev s_law_leads : Stmt := top 39
abbrev s_law_halved : Stmt := top 40
abbrev s_law_moves : Stmt := top 41
abbrev s_law_led : Stmt := top 42
abbrev s_law_merging : Stmt := top 43
abbrev s_law_couples : Stmt := top 44
abbrev s_law_apart : Stmt := top 45
abbrev s_law_is_book : Stmt := top 46
abbrev s_law_nested : Stmt := top 47
abbrev s_law_shortest : Stmt := top 48
abbrev s_law_grown : Stmt := top 49
abbrev s_law_books : Stmt := top 50
abbrev s_law_turned : Stmt := top 51
abbrev s_law_one_right : Stmt := top 52
abbrev s_law : Stmt := top 53
end Law
namespace Law
open PySem PySem.Spec PyProof.Rows L2
/-! ### the head's Hook: facts of K by names, and one more Bool -/
abbrev AlM : Type := He.AlD × Bool
def obsM (n : Nat) (fa : List He.Fa) (fn : List He.DefD) (ex : PySem.W.Frag → Bool) (g : Addr → Option Obj) : AlM := (He.obsD fa fn (He.frG g (He.asD g n)), ex (He.frG g (He.asD g n)))
def hookM (n : Nat) (fa : List He.Fa) (fn : List He.DefD) (ex : PySem.W.Frag → Bool) : PySem.W.Hook where
  α := AlM
  obs := fun s => obsM n fa fn ex s.heap.get?
  val := fun _ => (He.valD fn, true)
  says := fun _ h => ∃ K : PySem.W.Frag, K.In h ∧ He.SaysD fa fn K ∧ ex K = true
  of := fun _ _ e => ⟨_, He.frG_in, congrArg (fun z : AlM => z.1) e, congrArg (fun z : AlM => z.2) e⟩
  keeps := fun _ _ _ ⟨K, hK, c⟩ k => ⟨K, PySem.W.Frag.In.keeps hK k, c⟩
theorem obsM_eq {n : Nat} {fa : List He.Fa} {fn : List He.DefD} {ex : PySem.W.Frag → Bool} {g : Addr → Option Obj} {s : Shared} (h : ∀ a, g a = s.heap.get? a) : obsM n fa fn ex g = (hookM n fa fn ex).obs s := by
  have e : g = s.heap.get? := funext h
  rw [e] <;> rfl
theorem funD_fun {K : PySem.W.Frag} {x qual : Str} {st : Stmt} {f : Addr} {fd : FuncData} (F : FunD K x qual (defArgs st) (defBody st) (defScope st) [] [] f fd) : Fun K x qual st f fd := by
  obtain ⟨⟨oc, od, dV, kV, doc, pm, an, cdv, ct, osl, h1, h2, h3, h4, _⟩, kp⟩ := F
  rcases h4 with ⟨_, rfl⟩ | ⟨h, _⟩
  · exact ⟨⟨oc, od, kV, doc, pm, an, cdv, ct, osl, h1, h2, h3⟩, kp⟩
  · exact absurd rfl h
end Law
namespace Law
open PySem PySem.Spec PyProof.Rows L2
def optT (o : Option Bool) : Bool := match o with
  | some b => b
  | none => false
/-- an own plain class's instances are asked for their class as usual -/
def insB (K : PySem.W.Frag) (C : Addr) : Bool := He.eqO (PySem.W.findIn K (.ref C) "__class__") (some (some (.builtin "object.__class__"))) && (He.eqO (PySem.W.specialIn K (.builtin "object.__class__") "__get__") (some (some (.builtin "getset_descriptor.__get__"))) && (optT (PySem.W.takesIn K (.builtin "object.__class__")) && optT (PySem.W.mroIn K C (.type "object"))))
def gclB (K : PySem.W.Frag) : Bool := He.eqO (PySem.W.nsIn K mainGlobals "gcd") (some (some (.builtin "math.gcd"))) && He.eqO (PySem.W.nsIn K mainGlobals "lcm") (some (some (.builtin "math.lcm")))
def exK (K : PySem.W.Frag) : Bool := gclB K && insB K (He.ga K "System")
end Law
set_option maxHeartbeats 0
namespace Law
open PySem PySem.Spec PyProof.Rows L2
def fns : List He.DefD := [
  ⟨("is_integer", none), "is_integer", "is_integer", defArgs s_is_integer, defBody s_is_integer, defScope s_is_integer, [], []⟩,
  ⟨("is_within", none), "is_within", "is_within", defArgs s_is_within, defBody s_is_within, defScope s_is_within, [], []⟩,
  ⟨("is_row_below", none), "is_row_below", "is_row_below", defArgs s_is_row_below, defBody s_is_row_below, defScope s_is_row_below, [], []⟩,
  ⟨("is_pair_below", none), "is_pair_below", "is_pair_below", defArgs s_is_pair_below, defBody s_is_pair_below, defScope s_is_pair_below, [], []⟩,
  ⟨("is_ascending", none), "is_ascending", "is_ascending", defArgs s_is_ascending, defBody s_is_ascending, defScope s_is_ascending, [], []⟩,
  ⟨("is_lot_of_pairs", none), "is_lot_of_pairs", "is_lot_of_pairs", defArgs s_is_lot_of_pairs, defBody s_is_lot_of_pairs, defScope s_is_lot_of_pairs, [], []⟩,
  ⟨("is_lot_of_couples", none), "is_lot_of_couples", "is_lot_of_couples", defArgs s_is_lot_of_couples, defBody s_is_lot_of_couples, defScope s_is_lot_of_couples, [], []⟩,
  ⟨("lot_of", none), "lot_of", "lot_of", defArgs s_lot_of, defBody s_lot_of, defScope s_lot_of, [], []⟩,
  ⟨("is_fraction", none), "is_fraction", "is_fraction", defArgs s_is_fraction, defBody s_is_fraction, defScope s_is_fraction, [], []⟩,
  ⟨("common_bottom", none), "common_bottom", "common_bottom", defArgs s_common_bottom, defBody s_common_bottom, defScope s_common_bottom, [], []⟩,
  ⟨("tops_over", none), "tops_over", "tops_over", defArgs s_tops_over, defBody s_tops_over, defScope s_tops_over, [], []⟩,
  ⟨("are_one_together", none), "are_one_together", "are_one_together", defArgs s_are_one_together, defBody s_are_one_together, defScope s_are_one_together, [], []⟩,
  ⟨("BadSystem", some "__init__"), "__init__", "BadSystem.__init__", defArgs s_BadSystem_init, defBody s_BadSystem_init, defScope s_BadSystem_init, [], []⟩,
  ⟨("NoRow", some "__init__"), "__init__", "NoRow.__init__", defArgs s_NoRow_init, defBody s_NoRow_init, defScope s_NoRow_init, [], []⟩,
  ⟨("NoState", some "__init__"), "__init__", "NoState.__init__", defArgs s_NoState_init, defBody s_NoState_init, defScope s_NoState_init, [], []⟩,
  ⟨("System", some "__init__"), "__init__", "System.__init__", defArgs s_System_init, defBody s_System_init, defScope s_System_init, [], []⟩,
  ⟨("System", some "__eq__"), "__eq__", "System.__eq__", defArgs s_System_eq, defBody s_System_eq, defScope s_System_eq, [], []⟩,
  ⟨("is_move", none), "is_move", "is_move", defArgs s_is_move, defBody s_is_move, defScope s_is_move, [], []⟩,
  ⟨("is_row", none), "is_row", "is_row", defArgs s_is_row, defBody s_is_row, defScope s_is_row, [], []⟩,
  ⟨("led", none), "led", "led", defArgs s_led, defBody s_led, defScope s_led, [], []⟩,
  ⟨("led_all", none), "led_all", "led_all", defArgs s_led_all, defBody s_led_all, defScope s_led_all, [], []⟩,
  ⟨("lot_led", none), "lot_led", "lot_led", defArgs s_lot_led, defBody s_lot_led, defScope s_lot_led, [], []⟩,
  ⟨("least_row_to_one", none), "least_row_to_one", "least_row_to_one", defArgs s_least_row_to_one, defBody s_least_row_to_one, defScope s_least_row_to_one, [], []⟩,
  ⟨("merging_row", none), "merging_row", "merging_row", defArgs s_merging_row, defBody s_merging_row, defScope s_merging_row, [], []⟩,
  ⟨("is_kept", none), "is_kept", "is_kept", defArgs s_is_kept, defBody s_is_kept, defScope s_is_kept, [], []⟩,
  ⟨("is_book", none), "is_book", "is_book", defArgs s_is_book, defBody s_is_book, defScope s_is_book, [], []⟩,
  ⟨("apart", none), "apart", "apart", defArgs s_apart, defBody s_apart, defScope s_apart, [], []⟩,
  ⟨("_law_hand", none), "_law_hand", "_law_hand", defArgs s_law_hand, defBody s_law_hand, defScope s_law_hand, [], []⟩,
  ⟨("_law_draw", none), "_law_draw", "_law_draw", defArgs s_law_draw, defBody s_law_draw, defScope s_law_draw, [], []⟩,
  ⟨("_law_any", none), "_law_any", "_law_any", defArgs s_law_any, defBody s_law_any, defScope s_law_any, [], []⟩,
  ⟨("_law_is", none), "_law_is", "_law_is", defArgs s_law_is, defBody s_law_is, defScope s_law_is, [], []⟩,
  ⟨("_law_low", none), "_law_low", "_law_low", defArgs s_law_low, defBody s_law_low, defScope s_law_low, [], []⟩,
  ⟨("_law_parts", none), "_law_parts", "_law_parts", defArgs s_law_parts, defBody s_law_parts, defScope s_law_parts, [], []⟩,
  ⟨("_law_leads", none), "_law_leads", "_law_leads", defArgs s_law_leads, defBody s_law_leads, defScope s_law_leads, [], []⟩,
  ⟨("_law_halved", none), "_law_halved", "_law_halved", defArgs s_law_halved, defBody s_law_halved, defScope s_law_halved, [], []⟩,
  ⟨("_law_moves", none), "_law_moves", "_law_moves", defArgs s_law_moves, defBody s_law_moves, defScope s_law_moves, [], []⟩,
  ⟨("_law_led", none), "_law_led", "_law_led", defArgs s_law_led, defBody s_law_led, defScope s_law_led, [], []⟩,
  ⟨("_law_merging", none), "_law_merging", "_law_merging", defArgs s_law_merging, defBody s_law_merging, defScope s_law_merging, [], []⟩,
  ⟨("_law_couples", none), "_law_couples", "_law_couples", defArgs s_law_couples, defBody s_law_couples, defScope s_law_couples, [], []⟩,
  ⟨("_law_apart", none), "_law_apart", "_law_apart", defArgs s_law_apart, defBody s_law_apart, defScope s_law_apart, [], []⟩,
  ⟨("_law_is_book", none), "_law_is_book", "_law_is_book", defArgs s_law_is_book, defBody s_law_is_book, defScope s_law_is_book, [], []⟩,
  ⟨("_law_nested", none), "_law_nested", "_law_nested", defArgs s_law_nested, defBody s_law_nested, defScope s_law_nested, [], []⟩,
  ⟨("_law_shortest", none), "_law_shortest", "_law_shortest", defArgs s_law_shortest, defBody s_law_shortest, defScope s_law_shortest, [], []⟩,
  ⟨("_law_grown", none), "_law_grown", "_law_grown", defArgs s_law_grown, defBody s_law_grown, defScope s_law_grown, [], []⟩,
  ⟨("_law_books", none), "_law_books", "_law_books", defArgs s_law_books, defBody s_law_books, defScope s_law_books, [], []⟩,
  ⟨("_law_turned", none), "_law_turned", "_law_turned", defArgs s_law_turned, defBody s_law_turned, defScope s_law_turned, [], []⟩,
  ⟨("_law_one_right", none), "_law_one_right", "_law_one_right", defArgs s_law_one_right, defBody s_law_one_right, defScope s_law_one_right, [], []⟩,
  ⟨("law", none), "law", "law", defArgs s_law, defBody s_law, defScope s_law, [], []⟩]
def fas : List He.Fa := [
  .glo "is_integer", .glo "is_within", .glo "is_row_below", .glo "is_pair_below", .glo "is_ascending", .glo "is_lot_of_pairs", .glo "is_lot_of_couples", .glo "lot_of", .glo "is_fraction", .glo "common_bottom", .glo "tops_over", .glo "are_one_together", .glo "DrawError", .glo "BadSystem", .glo "NoRow", .glo "NoState", .glo "System", .glo "is_move", .glo "is_row", .glo "led", .glo "led_all", .glo "lot_led", .glo "least_row_to_one", .glo "merging_row", .glo "is_kept", .glo "is_book", .glo "apart", .glo "_law_hand", .glo "_law_draw", .glo "_law_any", .glo "_law_is", .glo "_law_low", .glo "_law_parts", .glo "_law_leads", .glo "_law_halved", .glo "_law_moves", .glo "_law_led", .glo "_law_merging", .glo "_law_couples", .glo "_law_apart", .glo "_law_is_book", .glo "_law_nested", .glo "_law_shortest", .glo "_law_grown", .glo "_law_books", .glo "_law_turned", .glo "_law_one_right", .glo "law", .free "ValueError", .free "abs", .free "all", .free "any", .free "bool", .free "enumerate", .free "int", .free "isinstance", .free "len", .free "list", .free "max", .free "min", .free "range", .free "set", .free "sorted", .free "sum", .free "tuple", .free "zip", .cls "System", .noat "System" "many", .noat "System" "moves", .mkr "System"]
-- defs: 0 is_integer, 1 is_within, 2 is_row_below, 3 is_pair_below, 4 is_ascending, 5 is_lot_of_pairs, 6 is_lot_of_couples, 7 lot_of, 8 is_fraction, 9 common_bottom, 10 tops_over, 11 are_one_together, 12 BadSystem.__init__, 13 NoRow.__init__, 14 NoState.__init__, 15 System.__init__, 16 System.__eq__, 17 is_move, 18 is_row, 19 led, 20 led_all, 21 lot_led, 22 least_row_to_one, 23 merging_row, 24 is_kept, 25 is_book, 26 apart, 27 _law_hand, 28 _law_draw, 29 _law_any, 30 _law_is, 31 _law_low, 32 _law_parts, 33 _law_leads, 34 _law_halved, 35 _law_moves, 36 _law_led, 37 _law_merging, 38 _law_couples, 39 _law_apart, 40 _law_is_book, 41 _law_nested, 42 _law_shortest, 43 _law_grown, 44 _law_books, 45 _law_turned, 46 _law_one_right, 47 law
-- facts: 0 .glo "is_integer", 1 .glo "is_within", 2 .glo "is_row_below", 3 .glo "is_pair_below", 4 .glo "is_ascending", 5 .glo "is_lot_of_pairs", 6 .glo "is_lot_of_couples", 7 .glo "lot_of", 8 .glo "is_fraction", 9 .glo "common_bottom", 10 .glo "tops_over", 11 .glo "are_one_together", 12 .glo "DrawError", 13 .glo "BadSystem", 14 .glo "NoRow", 15 .glo "NoState", 16 .glo "System", 17 .glo "is_move", 18 .glo "is_row", 19 .glo "led", 20 .glo "led_all", 21 .glo "lot_led", 22 .glo "least_row_to_one", 23 .glo "merging_row", 24 .glo "is_kept", 25 .glo "is_book", 26 .glo "apart", 27 .glo "_law_hand", 28 .glo "_law_draw", 29 .glo "_law_any", 30 .glo "_law_is", 31 .glo "_law_low", 32 .glo "_law_parts", 33 .glo "_law_leads", 34 .glo "_law_halved", 35 .glo "_law_moves", 36 .glo "_law_led", 37 .glo "_law_merging", 38 .glo "_law_couples", 39 .glo "_law_apart", 40 .glo "_law_is_book", 41 .glo "_law_nested", 42 .glo "_law_shortest", 43 .glo "_law_grown", 44 .glo "_law_books", 45 .glo "_law_turned", 46 .glo "_law_one_right", 47 .glo "law", 48 .free "ValueError", 49 .free "abs", 50 .free "all", 51 .free "any", 52 .free "bool", 53 .free "enumerate", 54 .free "int", 55 .free "isinstance", 56 .free "len", 57 .free "list", 58 .free "max", 59 .free "min", 60 .free "range", 61 .free "set", 62 .free "sorted", 63 .free "sum", 64 .free "tuple", 65 .free "zip", 66 .cls "System", 67 .noat "System" "many", 68 .noat "System" "moves", 69 .mkr "System"
def names0 : List PySem.Str := ["is_integer", "is_within", "is_row_below", "is_pair_below", "is_ascending", "is_lot_of_pairs", "is_lot_of_couples", "lot_of", "is_fraction", "common_bottom", "tops_over", "are_one_together"]
def names1 : List PySem.Str := ["DrawError", "BadSystem", "NoRow", "NoState", "System", "is_move", "is_row", "led", "led_all", "lot_led", "least_row_to_one", "merging_row"]
def names2 : List PySem.Str := ["is_kept", "is_book", "apart", "_law_hand", "_law_draw", "_law_any", "_law_is", "_law_low", "_law_parts", "_law_leads", "_law_halved", "_law_moves"]
def names3 : List PySem.Str := ["_law_led", "_law_merging", "_law_couples", "_law_apart", "_law_is_book", "_law_nested", "_law_shortest", "_law_grown", "_law_books", "_law_turned", "_law_one_right"]
def names : List PySem.Str := names0 ++ names1 ++ names2 ++ names3
abbrev R : PySem.W.OpenRow := PySem.W.OpenLaw.row PySem.Challenge.rw_asifforever_k08_whole_merging_rows_and_b
abbrev hk : PySem.W.Hook := hookM 4 fas fns exK
def ob (s : PySem.W.SharedT) : AlM := obsM 4 fas fns exK (HandSHeadRun.getT s)
theorem ob_eq (s : PySem.W.SharedT) : ob s = hk.obs s.abs := obsM_eq (HandSHeadRun.getT_eq s)
theorem run (w : World) : HandSHeadRun.RunEqI R (PySem.W.view R.prog [0, 53]) hk ob 13000 names w := by
  unfold HandSHeadRun.RunEqI
  kernel_rfl
end Law
set_option maxHeartbeats 4000000
namespace Law
open PySem L2
/-- what is asked of the module's names -/
structure NmA (mg : Str → Option Value) : Prop where
  abs : mg "abs" = none
  all : mg "all" = none
  any : mg "any" = none
  bool : mg "bool" = none
  enum : mg "enumerate" = none
  int : mg "int" = none
  isi : mg "isinstance" = none
  len : mg "len" = none
  list : mg "list" = none
  max : mg "max" = none
  min : mg "min" = none
  range : mg "range" = none
  set : mg "set" = none
  sorted : mg "sorted" = none
  sum : mg "sum" = none
  tuple : mg "tuple" = none
  zip : mg "zip" = none
  gcd : mg "gcd" = some (.builtin "math.gcd")
  lcm : mg "lcm" = some (.builtin "math.lcm")
end Law
namespace L2
open PySem PySem.Spec PyProof.Rows
theorem Same.sqT {K : PySem.W.Frag} {H H' : Hp} {a : Addr} {xs : List V} (e : Same H H') (h : SqT K H a xs) : SqT K H' a xs := by
  rcases h with (h | ⟨o, h⟩) | h
  · exact .inl (.inl (e _ _ h))
  · exact .inl (.inr ⟨o, e _ _ h⟩)
  · exact .inr h
theorem Same.new {H : Hp} {p : Addr} {o : HO} (h : H p = none) : Same H (upd H p o) := fun b u e => by
  rw [upd_ne (ne_of_none e h)]
  exact e
theorem Same.mut {H H' : Hp} {p : Addr} {o : HO} (e : Same H H') (h : H p = none) : Same H (upd H' p o) := fun b u hb => by
  rw [upd_ne (ne_of_none hb h)]
  exact e b u hb
@[elab_as_elim] theorem new_step {H : Hp} {a : Addr} {o : HO} {Q : Hp → Prop} (h : H a = none) (k : ∀ G, Same H G → G a = some o → Q G) : Q (upd H a o) := k _ (Same.new h) upd_same
end L2
namespace Law
open PySem L2
/-! ### the hand: a list of its cells, where it stands, what is left of a great one, a seed, a turn -/
def hdL (ca : Addr) (a g s t : Int) : List V := [.ref ca, .int a, .int g, .int s, .int t]
def HandAt (H : Hp) (p : Addr) : Prop := ∃ (ca : Addr) (cells : List Int) (a : Nat) (g s t : Int), H p = some (.lst (hdL ca a g s t)) ∧ H ca = some (.lst (cells.map V.int)) ∧ ca ≠ p ∧ cells.length ≤ 63 ∧ a ≤ cells.length ∧ (∀ c ∈ cells, 0 ≤ c) ∧ 0 ≤ g ∧ 0 ≤ s ∧ 0 ≤ t
def CellOf (H : Hp) (p c : Addr) : Prop := ∃ a g s t, H p = some (.lst (hdL c a g s t))
structure Stp (p : Addr) (H H' : Hp) : Prop where
  keep : ∀ b o, b ≠ p → H b = some o → H' b = some o
  cell : ∀ c, CellOf H p c → CellOf H' p c
  hand : HandAt H' p
theorem Stp.refl {p : Addr} {H : Hp} (h : HandAt H p) : Stp p H H := ⟨fun _ _ _ e => e, fun _ e => e, h⟩
theorem Stp.trans {p : Addr} {H H1 H2 : Hp} (a : Stp p H H1) (b : Stp p H1 H2) : Stp p H H2 := ⟨fun c o n e => b.keep c o n (a.keep c o n e), fun c e => b.cell c (a.cell c e), b.hand⟩
theorem hdL_inj {ca cb : Addr} {a g s t a' g' s' t' : Int} (h : hdL ca a g s t = hdL cb a' g' s' t') : ca = cb := by
  unfold hdL at h
  injection h with h1 _
  injection h1
theorem cell_eq {H : Hp} {p ca c : Addr} {a g s t : Int} (hp : H p = some (.lst (hdL ca a g s t))) (h : CellOf H p c) : c = ca := by
  obtain ⟨a', g', s', t', h⟩ := h
  rw [hp] at h
  have h1 := Option.some.inj h
  injection h1 with h2
  exact (hdL_inj h2).symm
theorem cell_to {H H' : Hp} {p ca : Addr} {a g s t a' g' s' t' : Int} (hp : H p = some (.lst (hdL ca a g s t))) (hp' : H' p = some (.lst (hdL ca a' g' s' t'))) : ∀ c, CellOf H p c → CellOf H' p c := fun c hc => by
  rw [cell_eq hp hc]
  exact ⟨a', g', s', t', hp'⟩
theorem Stp.mut {p D : Addr} {H H' : Hp} {o : HO} (h : HandAt H p) (S : Stp p H H') (hD : H D = none) : Stp p H (upd H' D o) := by
  obtain ⟨ca, cells, a, g, s, t, hp, hc, _⟩ := h
  obtain ⟨cb, cells', a', g', s', t', hp', hc', r⟩ := S.hand
  have e : ca = cb := cell_eq hp' (S.cell ca ⟨a, g, s, t, hp⟩)
  have n1 : p ≠ D := ne_of_none hp hD
  have n2 : cb ≠ D := e ▸ ne_of_none hc hD
  exact ⟨fun b o n e => by rw [upd_ne (ne_of_none e hD)]; exact S.keep b o n e, fun c hc => by
    obtain ⟨x1, x2, x3, x4, x5⟩ := S.cell c hc
    exact ⟨x1, x2, x3, x4, by rw [upd_ne n1]; exact x5⟩, cb, cells', a', g', s', t', by rw [upd_ne n1]; exact hp', by rw [upd_ne n2]; exact hc', r⟩
theorem HandAt.same {H H' : Hp} {p : Addr} (h : HandAt H p) (s : Same H H') : HandAt H' p := by
  obtain ⟨ca, cells, a, g, s0, t, hp, hc, r⟩ := h
  exact ⟨ca, cells, a, g, s0, t, s _ _ hp, s _ _ hc, r⟩
theorem Stp.of {p : Addr} {H H' : Hp} (h : HandAt H p) (s : Same H H') : Stp p H H' := ⟨fun b o _ e => s b o e, fun c ⟨a, g, s0, t, e⟩ => ⟨a, g, s0, t, s _ _ e⟩, h.same s⟩
theorem Stp.post {p : Addr} {H H1 H2 : Hp} (t : Stp p H H1) (s : Same H1 H2) : Stp p H H2 := t.trans (Stp.of t.hand s)
theorem Stp.pre {p : Addr} {H H1 H2 : Hp} (h : HandAt H p) (s : Same H H1) (t : Stp p H1 H2) : Stp p H H2 := (Stp.of h s).trans t
theorem ne_hand {H : Hp} {p D : Addr} (h : HandAt H p) (hD : H D = none) : D ≠ p := by
  obtain ⟨ca, cells, a, g, s, t, hp, _⟩ := h
  exact fun z => by rw [z, hp] at hD; cases hD
theorem Stp.free {p : Addr} {H H' : Hp} {a : Addr} (S : Stp p H H') (h : H' a = none) : H a = none := by
  cases z : H a with
  | none => rfl
  | some o =>
    have ap : a ≠ p := ne_hand S.hand h
    rw [S.keep _ _ ap z] at h
    cases h
theorem Stp.sqL {p l : Addr} {K : PySem.W.Frag} {H H' : Hp} {xs : List V} (S : Stp p H H') (n : l ≠ p) (h : SqL K H l xs) : SqL K H' l xs := by
  rcases h with (h | ⟨o, h⟩) | h
  · exact .inl (.inl (S.keep _ _ n h))
  · exact .inl (.inr ⟨o, S.keep _ _ n h⟩)
  · exact .inr h
theorem Stp.sqT {p l : Addr} {K : PySem.W.Frag} {H H' : Hp} {xs : List V} (S : Stp p H H') (hp : HandAt H p) (h : SqT K H l xs) : SqT K H' l xs := by
  obtain ⟨ca, cells, a, g, s0, t, hp, _⟩ := hp
  rcases h with (h | ⟨o, h⟩) | h
  · exact .inl (.inl (S.keep _ _ (ne_of h hp (by intro z; cases z)) h))
  · exact .inl (.inr ⟨o, S.keep _ _ (ne_of h hp (by intro z; cases z)) h⟩)
  · exact .inr h
def spDraw : Sp := fun vs H Q _ => ∃ (p : Addr) (m : Int), vs = [.ref p, .int m] ∧ 0 < m ∧ m < 1099511627776 ∧ HandAt H p ∧ ∀ (d : Int) (H' : Hp), 0 ≤ d → d < m → Stp p H H' → Q (.int d) H'
/-- what is asked of the module's names -/
theorem map_at {cells : List Int} {a : Nat} (h : a < cells.length) : ∃ c, cells[a]? = some c ∧ c ∈ cells ∧ atI (cells.map V.int) (a : Int) = some (V.int c) := by
  refine ⟨cells[a], List.getElem?_eq_getElem h, List.getElem_mem h, ?_⟩
  unfold atI
  rw [Evl.ixN_nat (by rw [List.length_map]; exact h)]
  show (cells.map V.int)[a]? = _
  rw [List.getElem?_map, List.getElem?_eq_getElem h] <;> rfl
theorem cut63 {xs : List V} (h : xs.length ≤ 63) : cutV xs none (some 63) = xs := by
  unfold cutV
  show (xs.drop 0).take (HT.sIx xs.length xs.length (some ((63 : Nat) : Int)) - 0) = xs
  rw [HT.sIx_nat, Nat.min_eq_right (by omega), Nat.sub_zero, List.drop_zero, List.take_length]
def absI (n : Int) : Int := if n < 0 then -n else n
theorem absI_nn (n : Int) : 0 ≤ absI n := by
  unfold absI
  split <;> omega
/-- a def of the module that may be called by its name -/
structure Cl (P : Program) (w : World) (K : PySem.W.Frag) (mg : Str → Option Value) (base : Heap) (CX : CXT) (k : Nat) (x : Str) (f : Addr) (fd : FuncData) (ps : List Str) (sp : Sp) : Prop where
  ok : FnOk P w K mg base CX k f fd ps sp
  b : Binds K fd ps []
  m : mg x = some (.ref f)
  kp : PySem.W.keepIn K (.ref f) = true
theorem Cl.call {X : Cx} {k : Nat} {x : Str} {f : Addr} {fd : FuncData} {ps : List Str} {sp : Sp} {p pos : Pos} {e : Expr} {es : List Expr} {t : TA} (c : Cl X.prog X.w X.K X.mg X.base CX0 k x f fd ps sp) (hr : Room k X.A) (ha : PA X (e :: es) t) (hg : Gl X x := by rfl) (hdb : (x == ("__debug__" : Str)) = false := by decide)
    (he : starEach (e :: es) X.env = (false, eval e X.env) :: starEach es X.env := by rfl) (hpl : (backTo pos (starEach es X.env)).any (·.1) = false := by rfl) :
    PE X (.Call (.Name x p) (e :: es) [] pos) (tCall sp [] E0 t) := pe_call c.ok hr hg c.m c.kp c.b .nil pass0 ha hdb he hpl
end Law
namespace Law
open PySem L2
section
variable {P : Program} {w : World} {K : PySem.W.Frag} {mg : Str → Option Value} {base : Heap}
def spHand (K : PySem.W.Frag) : Sp := fun vs H Q _ => ∃ (a : Addr) (ns : List Int), vs = [.ref a] ∧ SqL K H a (ns.map V.int) ∧ ns.length ≤ 63 ∧ ∀ (p : Addr) (H' : Hp), H p = none → Same H H' → HandAt H' p → Q (.ref p) H'
abbrev nLawHand : List Str := ["_law_script", "_law_cells", "_law_cell"]
theorem scLawHand : FnScope nLawHand ["_law_script"] (defScope s_law_hand) := ⟨rfl, rfl, rfl, by decide +kernel, rfl, by decide +kernel, by decide +kernel⟩
theorem ok_hand {f : Addr} {fd : FuncData} (F : Fun K "_law_hand" "_law_hand" s_law_hand f fd) (T : NmA mg) : FnOk P w K mg base CX0 1 f fd ["_law_script"] (spHand K) := by
  refine F.ok scLawHand (fun vs H Q E h => ?_) (fun cdv A' outer s H vs Q E hr h => ?_)
  · obtain ⟨a, ns, rfl, _⟩ := h
    rfl
  · obtain ⟨a, ns, rfl, hS, h63, k⟩ := h
    have hu := hu_of hr
    refine ⟨_, pss_cons (ps_setLc (i := 1) (own := [("_law_cell", 2)]) (g := (gName 2)) (tt := tYes) (by rfl) scLawHand.nd rfl rfl (sw_true rfl rfl rfl (by decide +kernel)) (pi_list (pe_slice sl_list (pv 0) po_none (po_some pe_int))) (blkOk_by (own := [("_law_cell", 2)]) (N := nLawHand) (sc := defScope s_law_hand) (by decide +kernel)) (fun _ _ _ _ _ => (pg_name (i := 2) scLawHand.nd rfl (Or.inl rfl))) (fun _ _ _ _ _ => pts_nil) (fun _ _ _ _ _ => (pe_callB call_abs (by rfl) T.abs (by decide +kernel) (pa_cons (pe_callTy (r := fun xs H Q => (∃ i, xs = [.int i] ∧ Q (.int i) H) ∨ ∃ k, xs = [.bl k] ∧ Q (.int (if k then 1 else 0)) H) call_int1 (by rfl) T.int (by decide +kernel) (pa_cons (pv 2) pa_nil)) pa_nil))))
      (pss_one (ps_ret (pe_lst (pa_cons (pv 1) (pa_cons pe_int (pa_cons pe_int (pa_cons (pe_op op_add pe_int (pe_callB call_len_seq (by rfl) T.len PySem.boot_len (pa_cons (pv 1) pa_nil))) (pa_cons pe_int pa_nil)))))))), ?_⟩
    refine ⟨_, rfl, 63, rfl, a, _, rfl, hS, fun sp nsp => ?_⟩
    have h63' : (ns.map V.int).length ≤ 63 := by rw [List.length_map]; exact h63
    rw [cut63 h63']
    refine new_step nsp fun H1 s1 e1 => ?_
    refine ⟨sp, rfl, ⟨_, SqL.of e1⟩, fun D hD => ?_⟩
    refine lc_list (K := K) (a := sp) (xs := ns.map V.int) (fun i H' => Same H1 H' ∧ H' D = some (.lst (((ns.take i).map absI).map V.int))) ⟨Same.new hD, upd_same⟩ (fun i H' _ h => SqL.of (h.1 _ _ e1)) (fun i x H2 hi g => ?_) fun H2 g => ?_
    · obtain ⟨s2, d2⟩ := g
      rw [List.getElem?_map] at hi
      obtain ⟨z, hz, rfl⟩ := Option.map_eq_some_iff.mp hi
      have hil := (List.getElem?_eq_some_iff.mp hz).1
      refine ⟨rfl, _, rfl, .inl ⟨_, rfl, _, rfl, _, d2, ?_, s2.mut hD, ?_⟩⟩
      · rw [List.length_map, List.length_map, List.length_take]
        exact small1000 (by omega)
      · rw [upd_same, List.take_add_one, hz, List.map_append, List.map_append] <;> rfl
    · obtain ⟨s2, d2⟩ := g
      rw [List.length_map, List.take_length] at d2
      refine ⟨_, rfl, _, rfl, D, _, rfl, .inl (SqL.of d2), _, _, rfl, rfl, by show 5 ≤ sizeLine; decide, fun p hp => ?_⟩
      refine new_step hp fun H3 s3 e3 => ?_
      have Dp : D ≠ p := ne_of_none d2 hp
      refine k p H3 ((s1.trans s2).free hp) ((s1.trans s2).trans s3) ⟨D, ns.map absI, 0, 0, _, 0, e3, s3 _ _ d2, Dp, by rw [List.length_map]; exact h63, Nat.zero_le _, ?_, by decide, by omega, by decide⟩
      intro c hc
      obtain ⟨z, _, rfl⟩ := List.mem_map.mp hc
      exact absI_nn z
abbrev nLawDraw : List Str := ["_law_hand_here", "_law_many", "_law_cell", "_law_digit", "_law_number"]
theorem scLawDraw : FnScope nLawDraw ["_law_hand_here", "_law_many"] (defScope s_law_draw) := ⟨rfl, rfl, rfl, by decide +kernel, rfl, by decide +kernel, by decide +kernel⟩
theorem ok_draw {f : Addr} {fd : FuncData} (F : Fun K "_law_draw" "_law_draw" s_law_draw f fd) (T : NmA mg) : FnOk P w K mg base CX0 1 f fd ["_law_hand_here", "_law_many"] spDraw := by
  refine F.ok scLawDraw (fun vs H Q E h => ?_) (fun cdv A' outer s H vs Q E hr h => ?_)
  · obtain ⟨p, m, rfl, _⟩ := h
    rfl
  · obtain ⟨p, m, rfl, hm0, hm1, hH, k⟩ := h
    have hu := hu_of hr
    refine ⟨_, Evl.pss_cut (ps_if (PW.pt (pw_and (pt_cmpR op_eq (pe_ix ix_list (pv 0) pe_int (fun _ _ => rfl)) pe_int (nomark _)) (pw_and1 (pt_cmpR op_lt (pe_ix ix_list (pv 0) pe_int (fun _ _ => rfl)) (pe_callB call_len_seq (by rfl) T.len PySem.boot_len (pa_cons (pe_ix ix_list (pv 0) pe_int (fun _ _ => rfl)) pa_nil)) (nomark _)))))
        (pss_cons (ps_set (i := 2) scLawDraw.nd rfl (Or.inl rfl) (pe_ix ix_list (pe_ix ix_list (pv 0) pe_int (fun _ _ => rfl)) (pe_ix ix_list (pv 0) pe_int (fun _ _ => rfl)) (fun _ _ => rfl)))
        (pss_cons (ps_asg (pe_op op_add (pe_ix ix_list (pv 0) pe_int (fun _ _ => rfl)) pe_int) (pg_sub (pv 0) pe_int set_list))
        (pss_cons (ps_asg (pe_op op_mod (pe_callTy call_int1 (by rfl) T.int (by decide +kernel) (pa_cons (pe_op op_add (pe_op op_add (pe_op op_mul (pe_ix ix_list (pv 0) pe_int (fun _ _ => rfl)) pe_int) (pv 2)) pe_int) pa_nil)) pe_int) (pg_sub (pv 0) pe_int set_list))
        (pss_one (ps_if (pt_cmpR op_ge (pv 2) (pe_op op_pow pe_int pe_int) (nomark _))
          (pss_one (ps_asg (pv 2) (pg_sub (pv 0) pe_int set_list))) pss_nil))))) pss_nil)
      (pss_cons (ps_if (pt_cmpR op_gt (pe_ix ix_list (pv 0) pe_int (fun _ _ => rfl)) pe_int (nomark _))
        (pss_cons (ps_set (i := 3) scLawDraw.nd rfl (Or.inl rfl) (pe_op op_mod (pe_callTy call_int1 (by rfl) T.int (by decide +kernel) (pa_cons (pe_ix ix_list (pv 0) pe_int (fun _ _ => rfl)) pa_nil)) (pv 1)))
        (pss_cons (ps_asg (pe_op op_fdivW (pe_ix ix_list (pv 0) pe_int (fun _ _ => rfl)) (pv 1)) (pg_sub (pv 0) pe_int set_list))
        (pss_one (ps_ret (pv 3))))) pss_nil)
      (pss_cons (ps_asg (pe_op op_add (pe_ix ix_list (pv 0) pe_int (fun _ _ => rfl)) pe_int) (pg_sub (pv 0) pe_int set_list))
      (pss_cons (ps_set (i := 4) scLawDraw.nd rfl (Or.inl rfl) (pe_op op_mod (pe_callTy call_int1 (by rfl) T.int (by decide +kernel) (pa_cons (pe_op op_mul (pe_callTy call_int1 (by rfl) T.int (by decide +kernel) (pa_cons (pe_op op_add (pe_ix ix_list (pv 0) pe_int (fun _ _ => rfl)) (pe_op op_mul pe_int (pe_ix ix_list (pv 0) pe_int (fun _ _ => rfl)))) pa_nil)) pe_int) pa_nil)) pe_int))
      (pss_cons (ps_set (i := 4) scLawDraw.nd rfl (Or.inl rfl) (pe_op op_mod (pe_callTy call_int1 (by rfl) T.int (by decide +kernel) (pa_cons (pe_op op_mul (pv 4) (pe_op op_add (pe_op op_fdiv (pv 4) pe_int) pe_int)) pa_nil)) pe_int))
      (pss_cons (ps_set (i := 4) scLawDraw.nd rfl (Or.inl rfl) (pe_op op_mod (pe_callTy call_int1 (by rfl) T.int (by decide +kernel) (pa_cons (pe_op op_mul (pv 4) (pe_op op_add (pe_op op_fdiv (pv 4) pe_int) pe_int)) pa_nil)) pe_int))
      (pss_one (ps_ret (pe_op op_mod (pe_callTy call_int1 (by rfl) T.int (by decide +kernel) (pa_cons (pe_op op_fdiv (pv 4) pe_int) pa_nil)) (pv 1))))))))), ?_⟩
    refine ⟨fun σ' H' => ∃ cv : Option V, σ' = [some (.ref p), some (.int m), cv, none, none] ∧ Stp p H H', ?_, ?_⟩
    · obtain ⟨ca, cells, a, g, s0, t, hp, hca, npc, h63, ha, hc, hg, hs, ht⟩ := id hH
      have stop : ∃ cv : Option V, start nLawDraw [.ref p, .int m] = [some (.ref p), some (.int m), cv, none, none] ∧ Stp p H H := ⟨none, rfl, Stp.refl hH⟩
      refine ⟨_, rfl, p, _, _, _, rfl, rfl, SqL.of hp, rfl, rfl, _, rfl, ite2 (fun hg0 => ?_) (fun _ => stop)⟩
      refine ⟨_, rfl, p, _, _, _, rfl, rfl, SqL.of hp, rfl, _, rfl, p, _, _, _, rfl, rfl, SqL.of hp, rfl, ca, _, rfl, .inl (SqL.of hca), _, _, rfl, rfl, _, rfl, ite2 (fun hlt => ?_) (fun _ => stop)⟩
      have hlt' : a < cells.length := by
        have z := of_decide_eq_true hlt
        rw [List.length_map] at z
        omega
      obtain ⟨c, hc1, hc2, hc3⟩ := map_at hlt'
      have c0 := hc c hc2
      refine ⟨_, rfl, p, _, _, _, rfl, rfl, SqL.of hp, rfl, _, rfl, p, _, _, _, rfl, rfl, SqL.of hp, rfl, ca, _, _, _, rfl, rfl, SqL.of hca, hc3, ?_⟩
      refine ⟨_, rfl, p, _, _, _, rfl, rfl, SqL.of hp, rfl, _, _, rfl, rfl, _, rfl, p, _, _, 1, rfl, rfl, hp, rfl, ?_⟩
      refine ⟨_, rfl, p, _, _, _, rfl, rfl, SqL.of upd_same, rfl, _, _, rfl, rfl, .inr ⟨by decide, by decide⟩, _, rfl, _, _, rfl, rfl, _, _, rfl, rfl, .inl ⟨_, rfl, _, _, rfl, rfl, (by show (0 : Int) < 2147483629; decide), _, rfl, p, _, _, 3, rfl, rfl, upd_same, rfl, ?_⟩⟩
      rw [upd_upd]
      refine ⟨_, rfl, _, _, rfl, rfl, ⟨by decide, by decide, by decide⟩, _, _, rfl, rfl, _, rfl, ite2 (fun _ => ?_) (fun _ => ?_)⟩
      · refine ⟨_, rfl, _, rfl, p, _, _, 2, rfl, rfl, upd_same, rfl, ?_⟩
        rw [upd_upd]
        exact ⟨_, rfl, fun b o n e => by rw [upd_ne n]; exact e, cell_to hp upd_same, ca, cells, a + 1, _, _, _, upd_same, by rw [upd_ne npc]; exact hca, npc, h63, hlt', hc, c0, Int.emod_nonneg _ (by decide), ht⟩
      · exact ⟨_, rfl, fun b o n e => by rw [upd_ne n]; exact e, cell_to hp upd_same, ca, cells, a + 1, _, _, _, upd_same, by rw [upd_ne npc]; exact hca, npc, h63, hlt', hc, hg, Int.emod_nonneg _ (by decide), ht⟩
    · rintro σ' H' ⟨cv, rfl, S1⟩
      obtain ⟨ca, cells, a, g, s0, t, hp, hca, npc, h63, ha, hc, hg, hs, ht⟩ := S1.hand
      refine ⟨_, rfl, p, _, _, _, rfl, rfl, SqL.of hp, rfl, _, _, rfl, rfl, _, rfl, ite2 (fun hg0 => ?_) (fun _ => ?_)⟩
      · refine ⟨_, rfl, p, _, _, _, rfl, rfl, SqL.of hp, rfl, .inl ⟨_, rfl, _, rfl, _, _, rfl, rfl, hm0, ?_⟩⟩
        refine ⟨_, rfl, p, _, _, _, rfl, rfl, SqL.of hp, rfl, _, rfl, _, _, rfl, rfl, wide_div (b := 40) hm0 (by omega) (by decide) (by decide), _, rfl, p, _, _, 2, rfl, rfl, hp, rfl, _, rfl, ?_⟩
        exact k _ _ (Int.emod_nonneg _ (by omega)) (Int.emod_lt_of_pos _ hm0) ⟨fun b o n e => by rw [upd_ne n]; exact S1.keep b o n e, fun c hc => cell_to hp upd_same c (S1.cell c hc), ca, cells, a, _, _, _, upd_same, by rw [upd_ne npc]; exact hca, npc, h63, ha, hc, Int.ediv_nonneg hg (by omega), hs, ht⟩
      · refine ⟨_, rfl, p, _, _, _, rfl, rfl, SqL.of hp, rfl, _, _, rfl, rfl, _, rfl, p, _, _, 4, rfl, rfl, hp, rfl, ?_⟩
        refine ⟨_, rfl, p, _, _, _, rfl, rfl, SqL.of upd_same, rfl, _, rfl, p, _, _, _, rfl, rfl, SqL.of upd_same, rfl, _, _, rfl, rfl, .inl ⟨by decide, by decide⟩, _, _, rfl, rfl, .inl ⟨_, rfl, _, _, rfl, rfl, .inr ⟨by decide, by decide⟩, .inl ⟨_, rfl, _, _, rfl, rfl, (by show (0 : Int) < 2147483647; decide), ?_⟩⟩⟩
        generalize hx : ((s0 + 7919 * (t + 1)) * 48271) % 2147483647 = x
        have x0 : 0 ≤ x := by rw [← hx]; exact Int.emod_nonneg _ (by decide)
        have x1 : x < 2147483647 := by rw [← hx]; exact Int.emod_lt_of_pos _ (by decide)
        refine ⟨_, rfl, _, rfl, _, _, rfl, rfl, ⟨by decide, by decide⟩, _, _, rfl, rfl, _, _, rfl, rfl, .inl ⟨by omega, by omega⟩, .inl ⟨_, rfl, _, _, rfl, rfl, (by show (0 : Int) < 2147483647; decide), ?_⟩⟩
        generalize hy : (x * (x / 1009 + 69621)) % 2147483647 = y
        have y0 : 0 ≤ y := by rw [← hy]; exact Int.emod_nonneg _ (by decide)
        have y1 : y < 2147483647 := by rw [← hy]; exact Int.emod_lt_of_pos _ (by decide)
        refine ⟨_, rfl, _, rfl, _, _, rfl, rfl, ⟨by decide, by decide⟩, _, _, rfl, rfl, _, _, rfl, rfl, .inl ⟨by omega, by omega⟩, .inl ⟨_, rfl, _, _, rfl, rfl, (by show (0 : Int) < 2147483399; decide), ?_⟩⟩
        refine ⟨_, rfl, _, _, rfl, rfl, ⟨by decide, by decide⟩, .inl ⟨_, rfl, _, rfl, _, _, rfl, rfl, hm0, ?_⟩⟩
        exact k _ _ (Int.emod_nonneg _ (by omega)) (Int.emod_lt_of_pos _ hm0) ⟨fun b o n e => by rw [upd_ne n]; exact S1.keep b o n e, fun c hc => cell_to hp upd_same c (S1.cell c hc), ca, cells, a, _, _, _, upd_same, by rw [upd_ne npc]; exact hca, npc, h63, ha, hc, hg, hs, by omega⟩
def spAny (K : PySem.W.Frag) : Sp := fun vs H Q _ => ∃ (p l : Addr) (xs : List V), vs = [.ref p, .ref l] ∧ ((SqL K H l xs ∧ l ≠ p) ∨ SqT K H l xs) ∧ 0 < xs.length ∧ xs.length < 1073741824 ∧ HandAt H p ∧ ∀ (i : Nat) (x : V) (H' : Hp), xs[i]? = some x → Stp p H H' → Q x H'
abbrev nLawAny : List Str := ["_law_hand_here", "_law_items"]
theorem scLawAny : FnScope nLawAny ["_law_hand_here", "_law_items"] (defScope s_law_any) := ⟨rfl, rfl, rfl, by decide +kernel, rfl, by decide +kernel, by decide +kernel⟩
theorem ok_any {f : Addr} {fd : FuncData} {fD : Addr} {fdD : FuncData} (F : Fun K "_law_any" "_law_any" s_law_any f fd) (T : NmA mg) (D : Cl P w K mg base CX0 1 "_law_draw" fD fdD ["_law_hand_here", "_law_many"] spDraw) : FnOk P w K mg base CX0 2 f fd ["_law_hand_here", "_law_items"] (spAny K) := by
  refine F.ok scLawAny (fun vs H Q E h => ?_) (fun cdv A' outer s H vs Q E hr h => ?_)
  · obtain ⟨p, l, xs, rfl, _⟩ := h
    rfl
  · obtain ⟨p, l, xs, rfl, hS, h0, h1, hH, k⟩ := h
    refine ⟨_, pss_one (ps_ret (pe_ix ix_seq (pv 1) (D.call (hr.mono (by decide)) (pa_cons (pv 0) (pa_cons (pe_callB call_len_seq (by rfl) T.len PySem.boot_len (pa_cons (pv 1) pa_nil)) pa_nil))) (fun _ _ => rfl))), ?_⟩
    refine ⟨_, rfl, _, rfl, _, rfl, l, xs, rfl, hS.imp (fun h => h.1) id, p, _, rfl, by omega, by omega, hH, fun d H' d0 d1 S => ?_⟩
    obtain ⟨j, rfl⟩ := Int.eq_ofNat_of_zero_le d0
    have hj : j < xs.length := by omega
    have ha : atI xs ((j : Nat) : Int) = some xs[j] := by
      unfold atI
      rw [Evl.ixN_nat hj]
      exact List.getElem?_eq_getElem hj
    rcases hS with hS | hS
    · exact .inl ⟨l, xs, _, _, rfl, rfl, S.sqL hS.2 hS.1, ha, k j _ H' (List.getElem?_eq_getElem hj) S⟩
    · exact .inr (.inl ⟨l, xs, _, _, rfl, rfl, S.sqT hH hS, ha, k j _ H' (List.getElem?_eq_getElem hj) S⟩)
end
end Law

namespace Law
open PySem L2
/-! ### the program's own: integers, fractions -/
def Ty3 (K : PySem.W.Frag) (H : Hp) (x : V) (bi bb : Bool) : Prop := ∃ t, TyX K H x t ∧ PySem.W.kitOne K t (.type "int") = some bi ∧ PySem.W.kitOne K t (.type "bool") = some bb
theorem ty3_int {K : PySem.W.Frag} {H : Hp} (i : Int) : Ty3 K H (.int i) true false := ⟨_, .base (.int i), kit_ty (by decide +kernel), kit_ty (by decide +kernel)⟩
theorem tyx_tup {K : PySem.W.Frag} {H : Hp} {a : Addr} {xs : List V} (h : SqT K H a xs) : TyX K H (.ref a) (.type "tuple") := by
  rcases h with (h | ⟨o, h⟩) | ⟨o, its, n, hk, hc, _⟩
  · exact .base (.tup h)
  · exact .fTuple h
  · exact .kTuple hk hc
theorem kit_tt {K : PySem.W.Frag} : PySem.W.kitOne K (.type "tuple") (.type "tuple") = some true := kit_ty (by decide +kernel)
end Law
namespace Law
open PySem L2
section
variable {P : Program} {w : World} {K : PySem.W.Frag} {mg : Str → Option Value} {base : Heap}
def spIsInt (K : PySem.W.Frag) : Sp := fun vs H Q _ => ∃ x bi bb, vs = [x] ∧ Ty3 K H x bi bb ∧ Q (.bl (bi && !bb)) H
theorem scIsInt : FnScope ["thing"] ["thing"] (defScope s_is_integer) := ⟨rfl, rfl, rfl, by decide +kernel, rfl, by decide +kernel, by decide +kernel⟩
theorem ok_isint {f : Addr} {fd : FuncData} (F : Fun K "is_integer" "is_integer" s_is_integer f fd) (T : NmA mg) : FnOk P w K mg base CX0 1 f fd ["thing"] (spIsInt K) := by
  refine F.ok scIsInt (fun vs H Q E h => ?_) (fun cdv A outer s H vs Q E hr h => ?_)
  · obtain ⟨x, bi, bb, rfl, _⟩ := h
    rfl
  · obtain ⟨x, bi, bb, rfl, ⟨t, ty, h1, h2⟩, k⟩ := h
    refine ⟨_, pss_one (ps_ret (pe_and (pe_callB call_isi (by rfl) T.isi (by decide +kernel) (pa_cons (pv 0) (pa_cons (pe_bltn (v := .ty "int") (u := .type "int") (by rfl) T.int (by decide +kernel) rfl) pa_nil)))
      (pe_one (pe_not (pe_callB call_isi (by rfl) T.isi (by decide +kernel) (pa_cons (pv 0) (pa_cons (pe_bltn (v := .ty "bool") (u := .type "bool") (by rfl) T.bool (by decide +kernel) rfl) pa_nil))))))), ?_⟩
    refine ⟨_, rfl, _, _, _, _, _, rfl, .ty "int", ty, h1, _, rfl, ?_⟩
    cases bi with
    | true => exact iteT ⟨_, rfl, _, _, _, _, _, rfl, .ty "bool", ty, h2, _, rfl, k⟩
    | false => exact iteF k
def spWithin (K : PySem.W.Frag) : Sp := fun vs H Q _ => ∃ (lo hi : Int) (x : V), vs = [.int lo, .int hi, x] ∧ ((∃ i, x = .int i ∧ Q (.bl (decide (lo ≤ i) && decide (i ≤ hi))) H) ∨ ∃ bi bb, Ty3 K H x bi bb ∧ (bi && !bb) = false ∧ Q (.bl false) H)
theorem scWithin : FnScope ["low", "high", "thing"] ["low", "high", "thing"] (defScope s_is_within) := ⟨rfl, rfl, rfl, by decide +kernel, rfl, by decide +kernel, by decide +kernel⟩
theorem ok_within {f fI : Addr} {fd fdI : FuncData} (F : Fun K "is_within" "is_within" s_is_within f fd) (I : Cl P w K mg base CX0 1 "is_integer" fI fdI ["thing"] (spIsInt K)) : FnOk P w K mg base CX0 2 f fd ["low", "high", "thing"] (spWithin K) := by
  refine F.ok scWithin (fun vs H Q E h => ?_) (fun cdv A outer s H vs Q E hr h => ?_)
  · obtain ⟨lo, hi, x, rfl, _⟩ := h
    rfl
  · obtain ⟨lo, hi, x, rfl, h⟩ := h
    refine ⟨_, pss_one (ps_ret (pe_and (I.call hr (pa_cons (pv 2) pa_nil)) (pe_one (pe_chain op_le op_le (pv 0) (pv 2) (pv 1))))), ?_⟩
    rcases h with ⟨i, rfl, k⟩ | ⟨bi, bb, ty, hb, k⟩
    · refine ⟨_, rfl, _, true, false, rfl, ty3_int i, true, rfl, iteT ?_⟩
      refine ⟨_, rfl, _, rfl, _, _, rfl, rfl, _, rfl, ?_⟩
      refine ite2 (fun h1 => ?_) (fun h1 => ?_)
      · refine ⟨_, rfl, _, _, rfl, rfl, ?_⟩
        rw [h1, Bool.true_and] at k
        exact k
      · rw [Bool.not_eq_true] at h1
        rw [h1, Bool.false_and] at k
        exact k
    · refine ⟨_, rfl, x, bi, bb, rfl, ty, _, rfl, ?_⟩
      rw [hb]
      exact iteF k
def isW (lo hi : Int) : V → Bool
  | .int i => decide (lo ≤ i) && decide (i ≤ hi)
  | _ => false
def Known (K : PySem.W.Frag) (H : Hp) (x : V) : Prop := (∃ i, x = .int i) ∨ ∃ bi bb, Ty3 K H x bi bb ∧ (bi && !bb) = false ∧ ∀ lo hi, isW lo hi x = false
def spRowB (K : PySem.W.Frag) : Sp := fun vs H Q _ => ∃ (b : Int) (a : Addr) (xs : List V), vs = [.int b, .ref a] ∧ SqT K H a xs ∧ xs.length ≤ 1000 ∧ (∀ x ∈ xs, ∃ i, x = .int i) ∧ ∀ H', Same H H' → Q (.bl (xs.all (isW 0 (b - 1)))) H'
theorem scRowB : FnScope ["bound", "thing", "part"] ["bound", "thing"] (defScope s_is_row_below) := ⟨rfl, rfl, rfl, by decide +kernel, rfl, by decide +kernel, by decide +kernel⟩
theorem all_take {α : Type} (f : α → Bool) : ∀ xs : List α, (xs.map f).all id = xs.all f
  | [] => rfl
  | x :: xs => by rw [List.map_cons, List.all_cons, List.all_cons, all_take f xs] <;> rfl
theorem ok_rowb {f fW : Addr} {fd fdW : FuncData} (F : Fun K "is_row_below" "is_row_below" s_is_row_below f fd) (T : NmA mg) (W : Cl P w K mg base CX0 2 "is_within" fW fdW ["low", "high", "thing"] (spWithin K)) : FnOk P w K mg base CX0 3 f fd ["bound", "thing"] (spRowB K) := by
  refine F.ok scRowB (fun vs H Q E h => ?_) (fun cdv A outer s H vs Q E hr h => ?_)
  · obtain ⟨b, a, xs, rfl, _⟩ := h
    rfl
  · obtain ⟨b, a, xs, rfl, hS, hz, hx, k⟩ := h
    refine ⟨_, pss_one (ps_ret (pe_and (pe_callB call_isi (by rfl) T.isi (by decide +kernel) (pa_cons (pv 1) (pa_cons (pe_bltn (v := .ty "tuple") (u := .type "tuple") (by rfl) T.tuple (by decide +kernel) rfl) pa_nil)))
      (pe_one (pe_callB (cr_all rfl) (by rfl) T.all (by decide +kernel) (pa_cons (pe_lc (own := [("part", 2)]) (g := gName 2) (tt := tYes) rfl scRowB.nd (pi_tup (pv 1))
        (blkOk_by (own := [("part", 2)]) (N := ["bound", "thing", "part"]) (sc := defScope s_is_row_below) (by decide +kernel)) (fun _ _ _ _ _ => pg_name (i := 2) scRowB.nd rfl (Or.inl rfl)) (fun _ _ _ _ _ => pts_nil)
        (fun _ _ _ _ _ => W.call hr (pa_cons pe_int (pa_cons (pe_op op_sub (pv 0) pe_int) (pa_cons (pv 2) pa_nil))))) pa_nil))))), ?_⟩
    refine ⟨_, rfl, _, _, _, _, _, rfl, .ty "tuple", tyx_tup hS, kit_tt, _, rfl, iteT ?_⟩
    refine ⟨_, rfl, a, rfl, ⟨_, hS⟩, fun D hD => ?_⟩
    refine lc_tup (K := K) (a := a) (xs := xs) (fun i H' => Same H H' ∧ H' D = some (.lst (((xs.take i).map (isW 0 (b - 1))).map V.bl))) ⟨Same.new hD, upd_same⟩ (fun i H' _ h => h.1.sqT hS) ?_ ?_
    · rintro i x H' hi ⟨s1, h1⟩
      obtain ⟨z, rfl⟩ := hx x (List.mem_of_getElem? hi)
      refine ⟨rfl, _, rfl, _, _, rfl, rfl, _, rfl, _, _, _, rfl, .inl ⟨z, rfl, _, h1, ?_, s1.mut hD, ?_⟩⟩
      · rw [List.length_map, List.length_map, List.length_take]
        exact small1000 (by omega)
      · rw [upd_same, List.take_add_one, hi, List.map_append, List.map_append] <;> rfl
    · rintro H' ⟨s1, h1⟩
      rw [List.take_length] at h1
      refine ⟨D, _, rfl, SqL.of h1, ?_⟩
      rw [all_take]
      exact k H' s1
theorem dec_one (n : Nat) : decide (V.int (n : Int) = V.int 1) = (n == 1) := by
  rw [dec_int]
  by_cases e : n = 1
  · subst e
    rfl
  · rw [beq_eq_false_iff_ne.mpr e, beq_eq_false_iff_ne.mpr (by omega)]
def spFrac (K : PySem.W.Frag) : Sp := fun vs H Q _ => ∃ (a : Addr) (t b : Int), vs = [.ref a] ∧ SqT K H a [.int t, .int b] ∧ Q (.bl (decide (0 < b) && (Nat.gcd t.natAbs b.natAbs == 1))) H
theorem scFrac : FnScope ["thing", "top", "bottom"] ["thing"] (defScope s_is_fraction) := ⟨rfl, rfl, rfl, by decide +kernel, rfl, by decide +kernel, by decide +kernel⟩
theorem ok_frac {f fI : Addr} {fd fdI : FuncData} (F : Fun K "is_fraction" "is_fraction" s_is_fraction f fd) (T : NmA mg) (I : Cl P w K mg base CX0 1 "is_integer" fI fdI ["thing"] (spIsInt K)) : FnOk P w K mg base CX0 2 f fd ["thing"] (spFrac K) := by
  refine F.ok scFrac (fun vs H Q E h => ?_) (fun cdv A outer s H vs Q E hr h => ?_)
  · obtain ⟨a, t, b, rfl, _⟩ := h
    rfl
  · obtain ⟨a, t, b, rfl, hS, k⟩ := h
    refine ⟨_, pss_cons (ps_if (PW.pt (pw_or (pt_not (pt_val (pe_callB call_isi (by rfl) T.isi (by decide +kernel) (pa_cons (pv 0) (pa_cons (pe_bltn (v := .ty "tuple") (u := .type "tuple") (by rfl) T.tuple (by decide +kernel) rfl) pa_nil)))))
        (pw_or1 (pt_cmpR op_ne (pe_callB call_len_seq (by rfl) T.len PySem.boot_len (pa_cons (pv 0) pa_nil)) pe_int (nomark _))))) (pss_one (ps_ret pe_bl)) pss_nil)
      (pss_cons (ps_asg (pv 0) (pg_tup (by rfl) (pgs_cons (pg_name (i := 1) scFrac.nd rfl (Or.inl rfl)) (pgs_cons (pg_name (i := 2) scFrac.nd rfl (Or.inl rfl)) pgs_nil))))
      (pss_one (ps_ret (pe_and (I.call hr (pa_cons (pv 1) pa_nil)) (pe_and (I.call hr (pa_cons (pv 2) pa_nil)) (pe_and (pe_cmpR op_gt (pv 2) pe_int (nomark _)) (pe_one (pe_cmpR op_eq (pe_callBfun cr_gcd (by rfl) T.gcd (pa_cons (pv 1) (pa_cons (pv 2) pa_nil))) pe_int (nomark _))))))))), ?_⟩
    refine ⟨_, rfl, _, _, _, _, _, rfl, .ty "tuple", tyx_tup hS, kit_tt, _, rfl, ?_⟩
    refine iteF ⟨_, rfl, a, _, rfl, .inr hS, rfl, _, rfl, iteF ?_⟩
    refine ⟨_, rfl, a, _, rfl, hS, rfl, _, _, rfl, _, _, rfl, rfl, ?_⟩
    refine ⟨_, rfl, _, true, false, rfl, ty3_int t, _, rfl, iteT ⟨_, rfl, _, true, false, rfl, ty3_int b, _, rfl, iteT ⟨_, rfl, _, _, rfl, rfl, _, rfl, ?_⟩⟩⟩
    refine ite2 (fun h1 => ?_) (fun h1 => ?_)
    · refine ⟨_, rfl, _, rfl, t, b, rfl, rfl, ?_⟩
      rw [dec_one]
      rw [h1, Bool.true_and] at k
      exact k
    · rw [Bool.not_eq_true] at h1
      rw [h1, Bool.false_and] at k
      exact k
end
end Law

namespace L2
open PySem PySem.Spec PyProof.Rows
/-! ### math.lcm of great ints -/
theorem lcm_le (a b : Nat) (hb : 0 < b) (ha : 0 < a) : Nat.lcm a b ≤ a * b := Nat.le_of_dvd (Nat.mul_pos ha hb) (Nat.lcm_dvd_mul a b)
theorem lcm_lt {a b : Nat} (ha : a < 2 ^ 9000) (hb : b < 2 ^ 9000) : Nat.lcm a b < 2 ^ 18000 := by
  by_cases h0 : a = 0
  · subst h0
    rw [Nat.lcm_zero_left]
    exact Nat.two_pow_pos _
  by_cases h1 : b = 0
  · subst h1
    rw [Nat.lcm_zero_right]
    exact Nat.two_pow_pos _
  have h := lcm_le a b (Nat.pos_of_ne_zero h1) (Nat.pos_of_ne_zero h0)
  have h2 : a * b < 2 ^ 9000 * 2 ^ 9000 := Nat.mul_lt_mul_of_lt_of_lt ha hb
  rw [← Nat.pow_add] at h2
  exact Nat.lt_of_le_of_lt h h2
def rLcm : List V → Hp → VK → Prop := fun vs H Q => ∃ a b : Int, vs = [.int a, .int b] ∧ a.natAbs < 2 ^ 9000 ∧ b.natAbs < 2 ^ 9000 ∧ Q (.int ((Nat.lcm a.natAbs b.natAbs : Nat) : Int)) H
theorem cr_lcm {X : Cx} : CallR X (.builtin "math.lcm") rLcm := by
  intro pins s σ H vs us Q I r h
  obtain ⟨a, b, rfl, ha, hb, q⟩ := h
  obtain ⟨t, u, rfl⟩ := Vals.int2 r
  have l1 : ∀ {n : Nat}, n < 2 ^ 9000 → n.log2 < 9000 := fun h => PySem.Flt.log2_lt_of (by decide) h
  have m1 : max 1 a.natAbs < 2 ^ 9000 := by
    rw [Nat.max_def]
    split
    · exact ha
    · exact Nat.one_lt_two_pow (by decide)
  have m2 : max a.natAbs b.natAbs < 2 ^ 9000 := by
    rw [Nat.max_def]
    split
    · exact hb
    · exact ha
  have e : ((Nat.lcm 1 a.natAbs).lcm b.natAbs : Nat) = Nat.lcm a.natAbs b.natAbs := by rw [Nat.lcm_one_left]
  have hz : ((((Nat.lcm 1 a.natAbs).lcm b.natAbs : Nat) : Int)).natAbs.log2 < bitsLine := by
    rw [e, Int.natAbs_natCast]
    exact Nat.lt_of_lt_of_le (PySem.Flt.log2_lt_of (by decide) (lcm_lt ha hb)) (by decide)
  have c1 := l1 m1
  have c2 := l1 m2
  refine PySem.call_function_meets PySem.W.MGF.kind_lcm PySem.W.MGF.plain_lcm PySem.W.MGF.entry_lcm (PySem.W.MGF.args_lcm _ _) (PySem.W.mg_run_lcm a t b u (by omega) (by omega) hz).meets ?_
  exact ⟨.int _, H, I.tok _, ⟨_, rfl⟩, by rw [e]; exact q⟩
end L2

namespace Law
open PySem L2
/-! ### lists of fractions -/
abbrev Fr := Int × Int
def FrAt (K : PySem.W.Frag) (H : Hp) (v : V) (f : Fr) : Prop := ∃ s, v = .ref s ∧ SqT K H s [.int f.1, .int f.2]
def FrsIn (K : PySem.W.Frag) (H : Hp) (vs : List V) (fs : List Fr) : Prop := vs.length = fs.length ∧ ∀ (i : Nat) (v : V), vs[i]? = some v → ∃ f, fs[i]? = some f ∧ FrAt K H v f
def FrsAt (K : PySem.W.Frag) (H : Hp) (a : Addr) (fs : List Fr) : Prop := ∃ vs, SqL K H a vs ∧ FrsIn K H vs fs
/-- of moderate size -/
def FrOk (f : Fr) : Prop := 0 < f.2 ∧ f.2.natAbs < 2 ^ 62 ∧ f.1.natAbs < 2 ^ 62
theorem FrAt.same {K : PySem.W.Frag} {H H' : Hp} {v : V} {f : Fr} (e : Same H H') (h : FrAt K H v f) : FrAt K H' v f := by
  obtain ⟨s, h1, h2⟩ := h
  exact ⟨s, h1, e.sqT h2⟩
theorem FrsIn.same {K : PySem.W.Frag} {H H' : Hp} {vs : List V} {fs : List Fr} (e : Same H H') (h : FrsIn K H vs fs) : FrsIn K H' vs fs := ⟨h.1, fun i v hv => by
  obtain ⟨f, h1, h2⟩ := h.2 i v hv
  exact ⟨f, h1, h2.same e⟩⟩
theorem FrsAt.same {K : PySem.W.Frag} {H H' : Hp} {a : Addr} {fs : List Fr} (e : Same H H') (h : FrsAt K H a fs) : FrsAt K H' a fs := by
  obtain ⟨vs, h1, h2⟩ := h
  exact ⟨vs, e.seq h1, h2.same e⟩
def lcmAll (fs : List Fr) : Nat := fs.foldl (fun m f => Nat.lcm m f.2.natAbs) 1
theorem lcmAll_snoc (fs : List Fr) (f : Fr) : lcmAll (fs ++ [f]) = Nat.lcm (lcmAll fs) f.2.natAbs := by
  unfold lcmAll
  rw [List.foldl_append] <;> rfl
theorem lcm_fold : ∀ (fs : List Fr) (m : Nat), 0 < m → (∀ f ∈ fs, FrOk f) → 0 < fs.foldl (fun m f => Nat.lcm m f.2.natAbs) m ∧ fs.foldl (fun m f => Nat.lcm m f.2.natAbs) m ≤ m * 2 ^ (62 * fs.length)
  | [], m, hm, _ => ⟨hm, by simp⟩
  | f :: fs, m, hm, h => by
    obtain ⟨h1, h2, _⟩ := h f List.mem_cons_self
    have p : 0 < f.2.natAbs := by omega
    have q : 0 < Nat.lcm m f.2.natAbs := Nat.lcm_pos hm p
    obtain ⟨i1, i2⟩ := lcm_fold fs (Nat.lcm m f.2.natAbs) q fun g hg => h g (List.mem_cons_of_mem _ hg)
    refine ⟨i1, Nat.le_trans i2 ?_⟩
    have e1 : Nat.lcm m f.2.natAbs ≤ m * 2 ^ 62 := Nat.le_trans (lcm_le _ _ p hm) (Nat.mul_le_mul_left _ (Nat.le_of_lt h2))
    have e2 : m * 2 ^ (62 * (f :: fs).length) = m * 2 ^ 62 * 2 ^ (62 * fs.length) := by
      rw [List.length_cons, Nat.mul_add, Nat.mul_one, Nat.add_comm, Nat.pow_add, Nat.mul_assoc]
    rw [e2]
    exact Nat.mul_le_mul_right _ e1
theorem lcmAll_pos {fs : List Fr} (h : ∀ f ∈ fs, FrOk f) : 0 < lcmAll fs := (lcm_fold fs 1 (by decide) h).1
theorem lcmAll_lt {fs : List Fr} (h : ∀ f ∈ fs, FrOk f) (hl : fs.length ≤ 24) : lcmAll fs < 2 ^ 1489 := by
  have z := (lcm_fold fs 1 (by decide) h).2
  rw [Nat.one_mul] at z
  refine Nat.lt_of_le_of_lt z (Nat.pow_lt_pow_right (by decide) (by omega))
theorem pow_mono {n a b : Nat} (h : n < 2 ^ a) (hab : a ≤ b) : n < 2 ^ b := Nat.lt_of_lt_of_le h (Nat.pow_le_pow_right (by decide) hab)
section
variable {P : Program} {w : World} {K : PySem.W.Frag} {mg : Str → Option Value} {base : Heap}
def spComB (K : PySem.W.Frag) : Sp := fun vs H Q _ => ∃ (a : Addr) (fs : List Fr), vs = [.ref a] ∧ FrsAt K H a fs ∧ fs.length ≤ 24 ∧ (∀ f ∈ fs, FrOk f) ∧ Q (.int (lcmAll fs : Nat)) H
theorem scComB : FnScope ["fractions", "found", "_", "bottom"] ["fractions"] (defScope s_common_bottom) := ⟨rfl, rfl, rfl, by decide +kernel, rfl, by decide +kernel, by decide +kernel⟩
theorem ok_comb {f : Addr} {fd : FuncData} (F : Fun K "common_bottom" "common_bottom" s_common_bottom f fd) (T : NmA mg) : FnOk P w K mg base CX0 1 f fd ["fractions"] (spComB K) := by
  refine F.ok scComB (fun vs H Q E h => ?_) (fun cdv A outer s H vs Q E hr h => ?_)
  · obtain ⟨a, fs, rfl, _⟩ := h
    rfl
  · obtain ⟨a, fs, rfl, ⟨vs, hS, hF⟩, hl, ho, k⟩ := h
    refine ⟨_, pss_cons (ps_set (i := 1) scComB.nd rfl (Or.inl rfl) pe_int)
      (pss_cons (ps_for PassesOwn.never rfl (pi_list (pv 0)) (pg_tup (by rfl) (pgs_cons (pg_name (i := 2) scComB.nd rfl (Or.inl rfl)) (pgs_cons (pg_name (i := 3) scComB.nd rfl (Or.inl rfl)) pgs_nil)))
        (pss_one (ps_set (i := 1) scComB.nd rfl (Or.inl rfl) (pe_callBfun cr_lcm (by rfl) T.lcm (pa_cons (pv 1) (pa_cons (pv 3) pa_nil))))))
      (pss_one (ps_ret (pv 1)))), ?_⟩
    refine ⟨_, rfl, a, rfl, ⟨_, hS⟩, for_list (K := K) (a := a) (xs := vs) (fun i σ H' => H' = H ∧ ∃ u v : Option V, σ = [some (.ref a), some (.int (lcmAll (fs.take i) : Nat)), u, v]) ⟨rfl, none, none, rfl⟩ (fun i σ H' _ h => by rw [h.1]; exact hS) ?_ ?_⟩
    · rintro i x σ H' hi ⟨rfl, u, v, rfl⟩
      obtain ⟨g, hg, t, rfl, hT⟩ := hF.2 i x hi
      have gm : g ∈ fs := List.mem_of_getElem? hg
      obtain ⟨g1, g2, g3⟩ := ho g gm
      have hsub : ∀ f ∈ fs.take i, FrOk f := fun f hf => ho f (List.mem_of_mem_take hf)
      have hlt := lcmAll_lt hsub (by rw [List.length_take]; omega)
      refine ⟨t, _, rfl, hT, rfl, _, _, rfl, _, _, rfl, rfl, ?_⟩
      refine ⟨_, rfl, _, rfl, _, _, rfl, pow_mono (a := 1489) (by rw [Int.natAbs_natCast]; exact hlt) (by decide), pow_mono g2 (by decide), ?_⟩
      refine ⟨rfl, some (.int g.1), some (.int g.2), ?_⟩
      rw [List.take_add_one, hg]
      show _ = [some (V.ref a), some (V.int ((lcmAll (fs.take i ++ [g]) : Nat) : Int)), some (V.int g.1), some (V.int g.2)]
      rw [lcmAll_snoc]
      rfl
    · rintro σ H' ⟨rfl, u, v, rfl⟩
      refine ⟨_, rfl, ?_⟩
      rw [hF.1, List.take_length]
      exact k
def topsOf (fs : List Fr) (b : Int) : List Int := fs.map fun f => f.1 * (b / f.2)
def spTops (K : PySem.W.Frag) : Sp := fun vs H Q _ => ∃ (a : Addr) (fs : List Fr) (b : Int), vs = [.ref a, .int b] ∧ FrsAt K H a fs ∧ fs.length ≤ 24 ∧ (∀ f ∈ fs, FrOk f) ∧ ∀ p H', H p = none → Same H H' → H' p = some (.lst ((topsOf fs b).map V.int)) → Q (.ref p) H'
theorem scTops : FnScope ["fractions", "bottom", "top", "part"] ["fractions", "bottom"] (defScope s_tops_over) := ⟨rfl, rfl, rfl, by decide +kernel, rfl, by decide +kernel, by decide +kernel⟩
theorem ok_tops {f : Addr} {fd : FuncData} (F : Fun K "tops_over" "tops_over" s_tops_over f fd) : FnOk P w K mg base CX0 1 f fd ["fractions", "bottom"] (spTops K) := by
  refine F.ok scTops (fun vs H Q E h => ?_) (fun cdv A outer s H vs Q E hr h => ?_)
  · obtain ⟨a, fs, b, rfl, _⟩ := h
    rfl
  · obtain ⟨a, fs, b, rfl, ⟨vs, hS, hF⟩, hl, ho, k⟩ := h
    refine ⟨_, pss_one (ps_ret (pe_lc (own := [("top", 2), ("part", 3)]) (g := gTup K 2 (gCons (gName 2) (gCons (gName 3) gNil))) (tt := tYes) rfl scTops.nd (pi_list (pv 0))
        (blkOk_by (own := [("top", 2), ("part", 3)]) (N := ["fractions", "bottom", "top", "part"]) (sc := defScope s_tops_over) (by decide +kernel))
        (fun _ _ _ _ _ => pg_tup (by rfl) (pgs_cons (pg_name (i := 2) scTops.nd rfl (Or.inl rfl)) (pgs_cons (pg_name (i := 3) scTops.nd rfl (Or.inl rfl)) pgs_nil))) (fun _ _ _ _ _ => pts_nil)
        (fun _ _ _ _ _ => pe_op op_mul (pv 2) (pe_op op_fdivW (pv 1) (pv 3))))), ?_⟩
    refine ⟨_, rfl, a, rfl, ⟨_, hS⟩, fun D hD => ?_⟩
    refine lc_list (K := K) (a := a) (xs := vs) (fun i H' => Same H H' ∧ H' D = some (.lst ((topsOf (fs.take i) b).map V.int))) ⟨Same.new hD, upd_same⟩ (fun i H' _ h => h.1.seq hS) ?_ ?_
    · rintro i x H' hi ⟨s1, h1⟩
      obtain ⟨g, hg, t, rfl, hT⟩ := hF.2 i x hi
      obtain ⟨g1, g2, g3⟩ := ho g (List.mem_of_getElem? hg)
      have hil : i < fs.length := (List.getElem?_eq_some_iff.mp hg).1
      refine ⟨t, _, rfl, s1.sqT hT, rfl, _, _, rfl, _, _, rfl, rfl, ?_⟩
      refine ⟨rfl, _, rfl, _, rfl, _, rfl, _, _, rfl, rfl, wide_div g1 g2 (by decide) (by decide), _, _, rfl, rfl, .inl ⟨by omega, by omega⟩, _, h1, ?_, s1.mut hD, ?_⟩
      · unfold topsOf
        rw [List.length_map, List.length_map, List.length_take]
        exact small1000 (by omega)
      · unfold topsOf
        rw [upd_same, List.take_add_one, hg, List.map_append, List.map_append] <;> rfl
    · rintro H' ⟨s1, h1⟩
      rw [hF.1, List.take_length] at h1
      exact k D H' hD s1 h1
def spOne (K : PySem.W.Frag) : Sp := fun vs H Q _ => ∃ (a : Addr) (fs : List Fr), vs = [.ref a] ∧ FrsAt K H a fs ∧ fs.length ≤ 24 ∧ (∀ f ∈ fs, FrOk f) ∧ ∀ H', Same H H' → Q (.bl (decide ((topsOf fs (lcmAll fs : Nat)).sum = ((lcmAll fs : Nat) : Int)))) H'
theorem scOne : FnScope ["fractions", "bottom"] ["fractions"] (defScope s_are_one_together) := ⟨rfl, rfl, rfl, by decide +kernel, rfl, by decide +kernel, by decide +kernel⟩
theorem ok_one {f fC fT : Addr} {fd fdC fdT : FuncData} (F : Fun K "are_one_together" "are_one_together" s_are_one_together f fd) (T : NmA mg) (C : Cl P w K mg base CX0 1 "common_bottom" fC fdC ["fractions"] (spComB K))
    (U : Cl P w K mg base CX0 1 "tops_over" fT fdT ["fractions", "bottom"] (spTops K)) : FnOk P w K mg base CX0 2 f fd ["fractions"] (spOne K) := by
  refine F.ok scOne (fun vs H Q E h => ?_) (fun cdv A outer s H vs Q E hr h => ?_)
  · obtain ⟨a, fs, rfl, _⟩ := h
    rfl
  · obtain ⟨a, fs, rfl, hA, hl, ho, k⟩ := h
    refine ⟨_, pss_cons (ps_set (i := 1) scOne.nd rfl (Or.inl rfl) (C.call hr (pa_cons (pv 0) pa_nil)))
      (pss_one (ps_ret (pe_cmpR op_eq (pe_callB (cr_sum rfl) (by rfl) T.sum (by decide +kernel) (pa_cons (U.call hr (pa_cons (pv 0) (pa_cons (pv 1) pa_nil))) pa_nil)) (pv 1) (nomark _)))), ?_⟩
    refine ⟨_, rfl, a, fs, rfl, hA, hl, ho, ?_⟩
    refine ⟨_, rfl, _, rfl, a, fs, _, rfl, hA, hl, ho, fun p H' hp s1 h1 => ⟨p, _, rfl, SqL.of h1, _, rfl, rfl, ?_⟩⟩
    rw [dec_int]
    have z := k H' s1
    rw [show (((topsOf fs (lcmAll fs : Nat)).sum == ((lcmAll fs : Nat) : Int)) = decide ((topsOf fs (lcmAll fs : Nat)).sum = ((lcmAll fs : Nat) : Int))) from rfl]
    exact z
end
end Law



namespace PySem
namespace LawEnum
open AutoSeq1 (wpAny_loadPart')
theorem meets_enumerate_newT (l : Addr) (items : Array Value) (n : Nat) (dct : Option Addr) (sl : Array (Option Value)) :
    Meets (Builtin.«enumerate.__new__» ⟨[.type "enumerate", .ref l], []⟩) (fun _ R s => s.heap.get? l = some { cls := .type "tuple", dict := dct, data := .seq items n, slots := sl } ∧
      R (.ok (.ret (.ref (s.heap.push { cls := .type "tuple_iterator", data := .fields #[.ref l, .int 0 0] }).objs.size)))
        { s with heap := (s.heap.push { cls := .type "tuple_iterator", data := .fields #[.ref l, .int 0 0] }).push { cls := .type "enumerate", data := .fields #[.none, .bool false, .ref s.heap.objs.size, rawInt 0, .none, .none] } }) :=
  .of_wp fun prog w A R s h => by
    obtain ⟨hp, g, d, tk, os⟩ := s; obtain ⟨hl, h⟩ := h
    have hsub := sub_enumerate
    have hL : Heap.IsTuple (Shared.heap ⟨hp, g, d, tk, os⟩) l items := ⟨_, hl, rfl, n, rfl⟩
    wp_walk using wpAny_loadPart' hl
    refine wpAny_stack_any fun st => wpAny_pure ?_
    split
    · rename_i c _ _ _ _ _
      cases (c == Value.type "enumerate")
      · wp_walk using wpAny_loadPart' hl, wpAny_pyIter_tuple hL
        exact ⟨_, rfl, h⟩
      · wp_walk using wpAny_loadPart' hl, wpAny_pyIter_tuple hL
        exact ⟨_, rfl, h⟩
    · wp_walk using wpAny_loadPart' hl, wpAny_pyIter_tuple hL
      exact ⟨_, rfl, h⟩
section
variable {prog : Program} {w : World} {A : Around} {E : Value → Shared → Prop} {s : Shared}
theorem call_enumerate_tuple {l : Addr} {items : Array Value} {Q : Value → Shared → Prop} (hL : s.heap.IsTuple l items)
    (h : ∀ h', IsEnum h' (s.heap.objs.size + 1) s.heap.objs.size 0 .none → h'.IsTupleIter s.heap.objs.size l 0 → h'.objs.size = s.heap.objs.size + 2 →
      (∀ b o, s.heap.get? b = some o → h'.get? b = some o) → Q (.ref (s.heap.objs.size + 1)) { s with heap := h' }) :
    wpAny (model prog w) A (call (.type "enumerate") [.ref l]) Q E s := by
  obtain ⟨⟨c, dct, dt, sl⟩, hl, hc, n, hd⟩ := hL
  replace hc : c = .type "tuple" := hc
  replace hd : dt = .seq items n := hd
  subst hc hd
  refine callType_new F.called_enumerate (by decide) (F.typeCall_enumerate_1 _) (F.newCall_enumerate_1 _) (fun obj => F.args_object_init_2 obj _) F.entry_enumerate_new
    (meets_enumerate_newT l items n dct sl) ⟨hl, ?_⟩
  have hz : (s.heap.push { cls := .type "tuple_iterator", data := .fields #[.ref l, .int 0 0] }).objs.size = s.heap.objs.size + 1 := Heap.size_push ..
  show _ ∧ _
  rw [hz]
  have he : IsEnum ((s.heap.push { cls := .type "tuple_iterator", data := .fields #[.ref l, .int 0 0] }).push
      { cls := .type "enumerate", data := .fields #[.none, .bool false, .ref s.heap.objs.size, rawInt 0, .none, .none] }) (s.heap.objs.size + 1) s.heap.objs.size 0 .none := by
    have := Heap.get?_push_size (s.heap.push { cls := .type "tuple_iterator", data := .fields #[.ref l, .int 0 0] })
      (o := { cls := .type "enumerate", data := .fields #[.none, .bool false, .ref s.heap.objs.size, rawInt 0, .none, .none] }) rfl
    rw [hz] at this; exact this
  refine ⟨⟨_, he, rfl⟩, h _ he ⟨_, Heap.get?_push_of_some _ (Heap.get?_push_size _ rfl), rfl, rfl⟩ (by rw [Heap.size_push, hz]) fun b o x => Heap.get?_push_of_some _ (Heap.get?_push_of_some _ x)⟩
end
theorem draws_end {prog : Program} {w : World} {A : Around} (hh : A.handled = none) (it t : Addr) (items : Array Value) (i : Nat) (hx : items[i]? = none) :
    Draws prog w A it [it, t] 0 (fun _ _ => True) (fun _ h => h.IsTupleIter it t i ∧ h.IsTuple t items) where
  live := fun _ _ st => let ⟨o, ho, _⟩ := st.1; ⟨o, ho⟩
  frame := fun _ _ _ st hk => ⟨st.1.at fun o e => hk it (by simp) o e, st.2.at fun o e => hk t (by simp) o e⟩
  item := fun i s Q E hi st hQ => absurd hi (Nat.not_lt_zero i)
  done := fun s Q E st hE => wpAny_nextOf_tuple_end hh st.1 st.2 hx hE
end LawEnum
end PySem
namespace L2
open PySem PySem.Spec PyProof.Rows
/-- the tuple at a, item by item, each in a new pair with its number -/
def IteT (K : PySem.W.Frag) (a : Addr) : It :=
  ⟨fun i H => ∃ (xs : List V) (x : V), SqT K H a xs ∧ xs[i]? = some x, fun i H v H' => ∃ T x, v = .ref T ∧ H T = none ∧ H' = upd H T (.tup [.int (i : Nat), x]) ∧ ∀ xs, SqT K H a xs → xs[i]? = some x, fun i H => ∃ xs : List V, SqT K H a xs ∧ xs.length ≤ i⟩
theorem turn_enumT {P : Program} {w : World} {K : PySem.W.Frag} {elts : List Expr} {kk : Nat} {tpos : Pos} (a e it : Addr) :
    Turn P w K (.Tuple elts kk tpos) (IteT K a) [e, it] e (fun i h => (∃ old, IsEnum h e it ((i : Nat) : Int) old) ∧ h.IsTupleIter it a i ∧ e ≠ it ∧ a ≠ it ∧ e ≠ a) where
  mem := by simp
  obj := fun i h st b hb => by
    obtain ⟨⟨old, he⟩, ⟨o, ho, hc, hd⟩, _⟩ := st
    have e' : b = e ∨ b = it := by simpa using hb
    rcases e' with z | z
    · rw [z]; exact ⟨_, he, fun v q => nomatch q⟩
    · rw [z]; exact ⟨o, ho, fun v q => by rw [hd] at q; cases q⟩
  keep := fun i h h' st k => let ⟨⟨old, he⟩, hi, hne, h1, h2⟩ := st; ⟨⟨old, k e (by simp) _ he⟩, hi.at fun o q => k it (by simp) o q, hne, h1, h2⟩
  item := by
    intro X hP hw hK hc i pins s σ H E I hf st hg
    subst hP hw hK
    obtain ⟨⟨old, he⟩, hit, hne, hai, hea⟩ := st
    obtain ⟨xs, x, hq, hx⟩ := hg
    obtain ⟨its, rv, p, hz⟩ := I.tuple hq
    obtain ⟨u, hu, ru⟩ := rv.get hx
    have hel : e < s.heap.objs.size := Heap.lt_size he
    have hil : it < s.heap.objs.size := by obtain ⟨_, q, _⟩ := hit; exact Heap.lt_size q
    have hlt : i < its.toArray.size := by
      have z := (List.getElem?_eq_some_iff.mp hu).1
      simpa using z
    have D := Draws.tuple (prog := X.prog) (w := X.w) (A := X.A.in1) (I.ok.hd hc) it a hai its.toArray
    refine wpAny_pyNext_enum_itemD D he ⟨hit, p⟩ hlt hne (by simp [hne, hea]) fun x' h' tk hPx ho hit' hT hsz hk => ?_
    have ex : x' = u := by
      have z : its.toArray[i]? = some x' := hPx
      have z2 : its.toArray[i]? = some u := by simpa using hu
      rw [z2] at z
      exact (Option.some.inj z).symm
    subst ex
    refine ⟨_, rfl, wpAny_letOwnedTupleGo_enum (s := { s with heap := h', toks := tk + 1 }) ho fun h'' he' sb => ?_⟩
    have hT2 : h''.get? s.heap.objs.size = some { cls := .type "tuple", data := .seq #[.int i tk, x'] } := (sb.2 _ (Nat.ne_of_gt hel)).trans hT
    have new : ObjOk X.prog X.w (upd H s.heap.objs.size (.tup [.int (i : Nat), x])) h'' s.heap.objs.size (.tup [.int (i : Nat), x]) :=
      ⟨by show 2 ≤ sizeLine; decide, [.int i tk, x'], .cons ⟨_, rfl⟩ (.cons ru .nil), ⟨_, hT2, rfl, _, rfl⟩⟩
    have I1 : Inv X pins σ (upd H s.heap.objs.size (.tup [.int (i : Nat), x])) { s with heap := h'', toks := tk + 1 } :=
      I.turnedNew (ch := [e, it]) (fun b ob hb q => (sb.2 b (fun z => hb (by simp [z]))).trans (hk b ob (fun z => hb (by simp [z])) (fun z => hb (by simp [z])) q)) hf (Nat.le_refl _) new
    refine ⟨.ref s.heap.objs.size, _, I1, rfl, ⟨_, x, rfl, I.hok.fresh (Nat.le_refl _), rfl, fun ys hy => by rw [I.tuple_inj hy hq]; exact hx⟩, ⟨⟨x', ?_⟩, hit'.1.at fun o q => (sb.2 it (Ne.symm hne)).trans q, hne, hai, hea⟩, fun b hb => ?_⟩
    · have e1 : ((i + 1 : Nat) : Int) = (i : Int) + 1 := by omega
      rw [e1]; exact he'
    · have hb' : b < s.heap.objs.size := by
        have e' : b = e ∨ b = it := by simpa using hb
        rcases e' with z | z
        · rw [z]; exact hel
        · rw [z]; exact hil
      rw [upd_ne (Nat.ne_of_lt hb')]
      exact (hf b hb).1
  done := by
    intro X hP hw hK hc i pins s σ H E I hf st hg
    subst hP hw hK
    obtain ⟨⟨old, he⟩, hit, hne, hai, hea⟩ := st
    obtain ⟨xs, hq, hx⟩ := hg
    obtain ⟨its, rv, p, hz⟩ := I.tuple hq
    obtain ⟨f0, f1, f2, f3, f4, f5⟩ := hf it (by simp)
    have hl := rv.length
    have D := LawEnum.draws_end (prog := X.prog) (w := X.w) (A := X.A.in1) (I.ok.hd hc) it a its.toArray i (by simp; omega)
    exact wpAny_pyNext_enum_endD D he ⟨hit, p⟩ fun h' eb => ⟨rfl, I.turned (t' := s.toks) (fun b o hb q => eb b o hb q) f0 f1 f3 f4 f5⟩
  self := fun A i s Q E st h => let ⟨⟨_, he⟩, _⟩ := st; wpAny_pyIter_enum he h
def iEnumT (K : PySem.W.Frag) (ta : TA) : TI := fun σ H R => ta σ H fun vs H1 => ∃ a xs, vs = [.ref a] ∧ SqT K H1 a xs ∧ R (IteT K a) H1
theorem pi_enumT {X : Cx} {e : Expr} {ta : TA} {p pos tpos : Pos} {elts : List Expr} {kk : Nat} (hg : Gl X "enumerate") (hm : X.mg "enumerate" = none) (ha : PA X [e] ta) (hs : starEach [e] X.env = [(false, eval e X.env)] := by rfl) :
    PI X (.Tuple elts kk tpos) (.Call (.Name "enumerate" p) [e] [] pos) (iEnumT X.K ta) := by
  refine ⟨fun pins s σ H R I h => ?_⟩
  refine Call_ (ld_blt I hg hm boot_enumerate (PyProof.Rows.callWith_type1 (thn (ha.run pos pins s σ H _ I h) fun us s1 ⟨vs, H1, I1, r1, q1⟩ => ?_) hs rfl))
  obtain ⟨a, xs, ex, hq, q⟩ := q1
  subst ex
  cases r1 with
  | cons r rr =>
    cases rr
    cases r
    obtain ⟨its, rv, p', hz⟩ := I1.tuple hq
    have hal : a < s1.heap.objs.size := by obtain ⟨o, ho, _⟩ := p'; exact Heap.lt_size ho
    refine LawEnum.call_enumerate_tuple p' fun h' he hit hsz hk => wpAny_pyIter_enum he ?_
    have I2 : Inv X pins σ H1 { s1 with heap := h' } := I1.kept (t' := s1.toks) hk
    refine ⟨s1.heap.objs.size + 1, [s1.heap.objs.size + 1, s1.heap.objs.size], _, _, H1, rfl, I2, turn_enumT a (s1.heap.objs.size + 1) s1.heap.objs.size, ⟨⟨.none, he⟩, hit, Nat.succ_ne_self _, Nat.ne_of_lt hal, Nat.ne_of_gt (Nat.lt_succ_of_lt hal)⟩, fun b hb => ?_, q⟩
    have e' : b = s1.heap.objs.size + 1 ∨ b = s1.heap.objs.size := by simpa using hb
    have hle : s1.heap.objs.size ≤ b := by
      rcases e' with z | z
      · rw [z]; exact Nat.le_add_right _ _
      · rw [z]; exact Nat.le_refl _
    exact I1.fpOk hle (I1.hok.fresh hle)
theorem walk_enumT {K : PySem.W.Frag} {a : Addr} {xs : List V} : Walk (IteT K a) xs.length (fun H => SqT K H a xs) (fun i H v H' => ∃ T x, v = .ref T ∧ H T = none ∧ H' = upd H T (.tup [.int (i : Nat), x]) ∧ xs[i]? = some x) where
  goes := fun i H hi h => ⟨xs, xs[i], h, List.getElem?_eq_getElem hi⟩
  stops := fun H h => ⟨xs, h, Nat.le_refl _⟩
  yields := fun i H x H' hi h ⟨T, y, h1, h2, h3, h4⟩ => ⟨T, y, h1, h2, h3, h4 xs h⟩
end L2

namespace Law
open PySem L2
/-! ### data: ints, tuples of ints, moves -/
def tupD (l : List Int) : PyData := .tuple (l.map .int)
def frD (f : Fr) : PyData := .tuple [.int f.1, .int f.2]
abbrev Mv := Fr × List Int
def mvD (m : Mv) : PyData := .tuple [frD m.1, tupD m.2]
def mvsD (ms : List Mv) : PyData := .tuple (ms.map mvD)
theorem eqvAll_map {α : Type} [DecidableEq α] (g : α → PyData) (hg : ∀ a b, PyData.eqv (g a) (g b) = decide (a = b)) : ∀ xs ys : List α, PyData.eqvAll (xs.map g) (ys.map g) = decide (xs = ys)
  | [], [] => by simp [PyData.eqvAll]
  | [], _ :: _ => by simp [PyData.eqvAll]
  | _ :: _, [] => by simp [PyData.eqvAll]
  | x :: xs, y :: ys => by
    rw [List.map_cons, List.map_cons, PyData.eqvAll, hg, eqvAll_map g hg xs ys]
    by_cases h1 : x = y <;> by_cases h2 : xs = ys <;> simp [h1, h2]
theorem eqv_int (a b : Int) : PyData.eqv (.int a) (.int b) = decide (a = b) := by
  rw [PyData.eqv]
  rfl
theorem eqv_tupD (a b : List Int) : PyData.eqv (tupD a) (tupD b) = decide (a = b) := by
  unfold tupD
  rw [PyData.eqv]
  exact eqvAll_map PyData.int eqv_int a b
theorem eqv_frD (a b : Fr) : PyData.eqv (frD a) (frD b) = decide (a = b) := by
  obtain ⟨a1, a2⟩ := a
  obtain ⟨b1, b2⟩ := b
  unfold frD
  rw [PyData.eqv, PyData.eqvAll, PyData.eqvAll, PyData.eqvAll, eqv_int, eqv_int]
  by_cases h1 : a1 = b1 <;> by_cases h2 : a2 = b2 <;> simp [h1, h2]
theorem eqv_mvD (a b : Mv) : PyData.eqv (mvD a) (mvD b) = decide (a = b) := by
  obtain ⟨a1, a2⟩ := a
  obtain ⟨b1, b2⟩ := b
  unfold mvD
  rw [PyData.eqv, PyData.eqvAll, PyData.eqvAll, PyData.eqvAll, eqv_frD, eqv_tupD]
  by_cases h1 : a1 = b1 <;> by_cases h2 : a2 = b2 <;> simp [h1, h2]
theorem eqv_mvsD (a b : List Mv) : PyData.eqv (mvsD a) (mvsD b) = decide (a = b) := by
  unfold mvsD
  rw [PyData.eqv]
  exact eqvAll_map mvD eqv_mvD a b
theorem lay_all {α : Type} (g : α → PyData) (n : Nat) (hg : ∀ a, (g a).canLay0 = true ∧ (g a).depth ≤ n) : ∀ xs : List α, PyData.canLayAll0 (xs.map g) = true ∧ PyData.depthAll (xs.map g) ≤ n
  | [] => by simp [PyData.canLayAll0, PyData.depthAll]
  | x :: xs => by
    obtain ⟨h1, h2⟩ := hg x
    obtain ⟨h3, h4⟩ := lay_all g n hg xs
    rw [List.map_cons, PyData.canLayAll0, PyData.depthAll, h1, h3]
    exact ⟨rfl, Nat.max_le.mpr ⟨h2, h4⟩⟩
theorem lay_int (a : Int) : (PyData.int a).canLay0 = true ∧ (PyData.int a).depth ≤ 0 := by simp [PyData.canLay0, PyData.depth]
theorem lay_tupD (a : List Int) : (tupD a).canLay0 = true ∧ (tupD a).depth ≤ 1 := by
  have h := lay_all PyData.int 0 lay_int a
  unfold tupD
  rw [PyData.canLay0, PyData.depth]
  exact ⟨h.1, by omega⟩
theorem lay_frD (a : Fr) : (frD a).canLay0 = true ∧ (frD a).depth ≤ 1 := by simp [frD, PyData.canLay0, PyData.canLayAll0, PyData.depth, PyData.depthAll]
theorem lay_mvD (a : Mv) : (mvD a).canLay0 = true ∧ (mvD a).depth ≤ 2 := by
  have h1 := lay_frD a.1
  have h2 := lay_tupD a.2
  unfold mvD
  rw [PyData.canLay0, PyData.canLayAll0, PyData.canLayAll0, PyData.canLayAll0, PyData.depth, PyData.depthAll, PyData.depthAll, PyData.depthAll, h1.1, h2.1]
  exact ⟨rfl, by omega⟩
theorem lay_mvsD (a : List Mv) : (mvsD a).canLay0 = true ∧ (mvsD a).depth ≤ 3 := by
  have h := lay_all mvD 2 lay_mvD a
  unfold mvsD
  rw [PyData.canLay0, PyData.depth]
  exact ⟨h.1, by omega⟩
theorem shaped_of {d : PyData} {n : Nat} (h : d.canLay0 = true ∧ d.depth ≤ n) (hn : n ≤ 64) : SeqAt.shaped d = true := by
  unfold SeqAt.shaped
  rw [h.1, Bool.true_and, decide_eq_true (Nat.le_trans h.2 hn)]
theorem dp_ints {K : PySem.W.Frag} {H : Hp} : ∀ l : List Int, DpAll K H (l.map V.int) (l.map PyData.int)
  | [] => .nil
  | x :: l => .cons (.int x) (dp_ints l)
/-! ### moves and systems -/
def MvAt (K : PySem.W.Frag) (H : Hp) (v : V) (m : Mv) : Prop := ∃ a s l, v = .ref a ∧ SqT K H a [.ref s, .ref l] ∧ SqT K H s [.int m.1.1, .int m.1.2] ∧ SqT K H l (m.2.map V.int)
def MvsIn (K : PySem.W.Frag) (H : Hp) (vs : List V) (ms : List Mv) : Prop := vs.length = ms.length ∧ ∀ (i : Nat) (v : V), vs[i]? = some v → ∃ m, ms[i]? = some m ∧ MvAt K H v m
def MvsAt (K : PySem.W.Frag) (H : Hp) (a : Addr) (ms : List Mv) : Prop := ∃ vs, SqT K H a vs ∧ MvsIn K H vs ms
theorem MvAt.same {K : PySem.W.Frag} {H H' : Hp} {v : V} {m : Mv} (e : Same H H') (h : MvAt K H v m) : MvAt K H' v m := by
  obtain ⟨a, s, l, h1, h2, h3, h4⟩ := h
  exact ⟨a, s, l, h1, e.sqT h2, e.sqT h3, e.sqT h4⟩
theorem MvsIn.same {K : PySem.W.Frag} {H H' : Hp} {vs : List V} {ms : List Mv} (e : Same H H') (h : MvsIn K H vs ms) : MvsIn K H' vs ms := ⟨h.1, fun i v hv => by
  obtain ⟨m, h1, h2⟩ := h.2 i v hv
  exact ⟨m, h1, h2.same e⟩⟩
theorem MvsAt.same {K : PySem.W.Frag} {H H' : Hp} {a : Addr} {ms : List Mv} (e : Same H H') (h : MvsAt K H a ms) : MvsAt K H' a ms := by
  obtain ⟨vs, h1, h2⟩ := h
  exact ⟨vs, e.sqT h1, h2.same e⟩
theorem dp_mv {K : PySem.W.Frag} {H : Hp} {v : V} {m : Mv} (h : MvAt K H v m) : Dp K H v (mvD m) := by
  obtain ⟨a, s, l, rfl, h2, h3, h4⟩ := h
  exact .tup h2 (.cons (.tup h3 (.cons (.int _) (.cons (.int _) .nil))) (.cons (.tup h4 (dp_ints _)) .nil))
theorem dp_mvs {K : PySem.W.Frag} {H : Hp} : ∀ {vs : List V} {ms : List Mv}, MvsIn K H vs ms → DpAll K H vs (ms.map mvD)
  | [], [], _ => .nil
  | [], _ :: _, h => absurd h.1 (by simp)
  | _ :: _, [], h => absurd h.1 (by simp)
  | v :: vs, m :: ms, h => by
    obtain ⟨m', e, hm⟩ := h.2 0 v rfl
    cases e
    exact .cons (dp_mv hm) (dp_mvs ⟨by simpa using h.1, fun i x hx => h.2 (i + 1) x (by simpa using hx)⟩)
theorem dp_mvsAt {K : PySem.W.Frag} {H : Hp} {a : Addr} {ms : List Mv} (h : MvsAt K H a ms) : Dp K H (.ref a) (mvsD ms) := by
  obtain ⟨vs, h1, h2⟩ := h
  exact .tup h1 (dp_mvs h2)
def MvOk (many : Nat) (m : Mv) : Prop := FrOk m.1 ∧ 0 < m.1.1 ∧ Nat.gcd m.1.1.natAbs m.1.2.natAbs = 1 ∧ m.2.length = many ∧ ∀ x ∈ m.2, 0 ≤ x ∧ x < (many : Int)
abbrev OneOk (fs : List Fr) : Prop := (topsOf fs (lcmAll fs : Nat)).sum = ((lcmAll fs : Nat) : Int)
structure SysOk (many : Nat) (ms : List Mv) : Prop where
  m1 : 1 ≤ many
  m2 : many ≤ 12
  l1 : 1 ≤ ms.length
  l2 : ms.length ≤ 24
  mv : ∀ m ∈ ms, MvOk many m
  one : OneOk (ms.map (·.1))
theorem nMM : ¬ (("many" : Str) = "moves") := by decide +kernel
def sysF (many : Nat) (mv : Addr) : List (Str × V) := putF "moves" (.ref mv) (putF "many" (.int (many : Int)) [])
theorem sysF_eq (many : Nat) (mv : Addr) : sysF many mv = ([("many", V.int (many : Int)), ("moves", V.ref mv)] : List (Str × V)) := by
  show (if ("many" : Str) = "moves" then [(("many" : Str), V.ref mv)] else (("many" : Str), V.int (many : Int)) :: putF "moves" (V.ref mv) []) = _
  rw [if_neg nMM] <;> rfl
theorem sysF_many (many : Nat) (mv : Addr) : (sysF many mv).lookup ("many" : Str) = some (.int (many : Int)) := by
  unfold sysF
  rw [lookup_putF, if_neg nMM, lookup_putF, if_pos rfl]
theorem sysF_moves (many : Nat) (mv : Addr) : (sysF many mv).lookup ("moves" : Str) = some (.ref mv) := by
  unfold sysF
  rw [lookup_putF, if_pos rfl]
/-- a System stands at p -/
def SysAt (K : PySem.W.Frag) (C : Addr) (H : Hp) (p : Addr) (many : Nat) (ms : List Mv) : Prop := ∃ dx mv, H p = some (.ins C dx (sysF many mv)) ∧ MvsAt K H mv ms
theorem SysAt.same {K : PySem.W.Frag} {C : Addr} {H H' : Hp} {p : Addr} {many : Nat} {ms : List Mv} (e : Same H H') (h : SysAt K C H p many ms) : SysAt K C H' p many ms := by
  obtain ⟨dx, mv, h1, h2⟩ := h
  exact ⟨dx, mv, e _ _ h1, h2.same e⟩
/-- the class System, as the top has made it -/
structure SysT (K : PySem.W.Frag) (mg : Str → Option Value) (C : Addr) : Prop where
  cl : Cls K C
  nK : NoAttr K C "many"
  nM : NoAttr K C "moves"
  mgC : mg "System" = some (.ref C)
  ha : PySem.W.findIn K (.ref C) "__class__" = some (some (.builtin "object.__class__"))
  hn : PySem.W.specialIn K (.builtin "object.__class__") "__get__" = some (some (.builtin "getset_descriptor.__get__"))
  ht : PySem.W.takesIn K (.builtin "object.__class__") = some true
  hm : PySem.W.mroIn K C (.type "object") = some true
theorem SysAt.ty {K : PySem.W.Frag} {mg : Str → Option Value} {C : Addr} {H : Hp} {p : Addr} {many : Nat} {ms : List Mv} (T : SysT K mg C) (h : SysAt K C H p many ms) : TyX K H (.ref p) (.ref C) := by
  obtain ⟨dx, mv, h1, _⟩ := h
  exact .base (.ins h1 T.cl T.ha T.hn T.ht T.hm)
theorem kit_self {K : PySem.W.Frag} {v : Value} (h : (v == v) = true) : PySem.W.kitOne K v v = some true := by
  unfold PySem.W.kitOne
  rw [if_pos h]
theorem at0 (x y : V) : atI [x, y] (0 : Int) = some x := by
  unfold atI
  rw [show ixN [x, y].length (0 : Int) = some 0 from Evl.ixN_nat (n := 2) (j := 0) (by decide)]
  rfl
section
variable {P : Program} {w : World} {K : PySem.W.Frag} {mg : Str → Option Value} {base : Heap}
def spMove (K : PySem.W.Frag) : Sp := fun vs H Q _ => ∃ (many : Nat) (v : V) (m : Mv), vs = [.int (many : Int), v] ∧ many ≤ 12 ∧ MvAt K H v m ∧ MvOk many m ∧ ∀ H', Same H H' → Q (.bl true) H'
theorem scMove : FnScope ["many", "thing", "share", "leads"] ["many", "thing"] (defScope s_is_move) := ⟨rfl, rfl, rfl, by decide +kernel, rfl, by decide +kernel, by decide +kernel⟩
theorem ok_move {f fF fR : Addr} {fd fdF fdR : FuncData} (F : Fun K "is_move" "is_move" s_is_move f fd) (T : NmA mg) (G : Cl P w K mg base CX0 2 "is_fraction" fF fdF ["thing"] (spFrac K))
    (R : Cl P w K mg base CX0 3 "is_row_below" fR fdR ["bound", "thing"] (spRowB K)) : FnOk P w K mg base CX0 4 f fd ["many", "thing"] (spMove K) := by
  refine F.ok scMove (fun vs H Q E h => ?_) (fun cdv A outer s H vs Q E hr h => ?_)
  · obtain ⟨many, v, m, rfl, _⟩ := h
    rfl
  · obtain ⟨many, v, m, rfl, h12, ⟨a, t, l, rfl, hA, hT, hL⟩, ⟨⟨f1, f2, f3⟩, f4, f5, f6, f7⟩, k⟩ := h
    refine ⟨_, pss_cons (ps_if (PW.pt (pw_or (pt_not (pt_val (pe_callB call_isi (by rfl) T.isi (by decide +kernel) (pa_cons (pv 1) (pa_cons (pe_bltn (v := .ty "tuple") (u := .type "tuple") (by rfl) T.tuple (by decide +kernel) rfl) pa_nil)))))
        (pw_or1 (pt_cmpR op_ne (pe_callB call_len_seq (by rfl) T.len PySem.boot_len (pa_cons (pv 1) pa_nil)) pe_int (nomark _))))) (pss_one (ps_ret pe_bl)) pss_nil)
      (pss_cons (ps_asg (pv 1) (pg_tup (by rfl) (pgs_cons (pg_name (i := 2) scMove.nd rfl (Or.inl rfl)) (pgs_cons (pg_name (i := 3) scMove.nd rfl (Or.inl rfl)) pgs_nil))))
      (pss_one (ps_ret (pe_and (G.call (hr.mono (by decide)) (pa_cons (pv 2) pa_nil)) (pe_and (pe_cmpR op_gt (pe_ix ix_tup (pv 2) pe_int (fun _ _ => rfl)) pe_int (nomark _)) (pe_and (R.call hr (pa_cons (pv 0) (pa_cons (pv 3) pa_nil)))
        (pe_one (pe_cmpR op_eq (pe_callB call_len_seq (by rfl) T.len PySem.boot_len (pa_cons (pv 3) pa_nil)) (pv 0) (nomark _))))))))), ?_⟩
    refine ⟨_, rfl, _, _, _, _, _, rfl, .ty "tuple", tyx_tup hA, kit_tt, _, rfl, ?_⟩
    refine iteF ⟨_, rfl, a, _, rfl, .inr hA, rfl, _, rfl, iteF ?_⟩
    refine ⟨_, rfl, a, _, rfl, hA, rfl, _, _, rfl, _, _, rfl, rfl, ?_⟩
    refine ⟨_, rfl, t, _, _, rfl, hT, _, rfl, ?_⟩
    rw [decide_eq_true f1, f5]
    refine iteT ⟨_, rfl, t, _, _, _, rfl, rfl, hT, at0 _ _, _, _, rfl, rfl, _, rfl, ?_⟩
    rw [decide_eq_true f4]
    refine iteT ⟨_, rfl, _, rfl, _, l, _, rfl, hL, ?_, ?_, fun H' s1 => ⟨_, rfl, ?_⟩⟩
    · rw [List.length_map]
      omega
    · intro x hx
      obtain ⟨i, _, rfl⟩ := List.mem_map.mp hx
      exact ⟨i, rfl⟩
    · have hall : (m.2.map V.int).all (isW 0 ((many : Int) - 1)) = true := by
        rw [List.all_eq_true]
        intro x hx
        obtain ⟨i, hi, rfl⟩ := List.mem_map.mp hx
        obtain ⟨g1, g2⟩ := f7 i hi
        show (decide (0 ≤ i) && decide (i ≤ (many : Int) - 1)) = true
        rw [decide_eq_true g1, decide_eq_true (show i ≤ (many : Int) - 1 by omega)] <;> rfl
      rw [hall]
      refine iteT ⟨_, rfl, l, _, rfl, .inr (s1.sqT hL), _, rfl, rfl, ?_⟩
      rw [List.length_map, f6, decide_eq_true rfl]
      exact k H' s1
def spSInit (K : PySem.W.Frag) (C : Addr) : Sp := fun vs H Q _ => ∃ (p dx : Addr) (many : Nat) (mv : Addr) (ms : List Mv), vs = [.ref p, .int (many : Int), .ref mv] ∧ H p = some (.ins C dx []) ∧ MvsAt K H mv ms ∧ SysOk many ms ∧
  ∀ H', (∀ b o, b ≠ p → H b = some o → H' b = some o) → H' p = some (.ins C dx (sysF many mv)) → Q .non H'
theorem scSInit : FnScope ["self", "many", "moves", "number", "move", "share", "_"] ["self", "many", "moves"] (defScope s_System_init) := ⟨rfl, rfl, rfl, by decide +kernel, rfl, by decide +kernel, by decide +kernel⟩
theorem ok_sinit {f C fW fM fO : Addr} {fd fdW fdM fdO : FuncData} (F : Fun K "__init__" "System.__init__" s_System_init f fd) (T : NmA mg) (S : SysT K mg C) (W : Cl P w K mg base CX0 2 "is_within" fW fdW ["low", "high", "thing"] (spWithin K))
    (M : Cl P w K mg base CX0 4 "is_move" fM fdM ["many", "thing"] (spMove K)) (O : Cl P w K mg base CX0 2 "are_one_together" fO fdO ["fractions"] (spOne K)) : FnOk P w K mg base CX0 5 f fd ["self", "many", "moves"] (spSInit K C) := by
  refine F.ok scSInit (fun vs H Q E h => ?_) (fun cdv A outer s H vs Q E hr h => ?_)
  · obtain ⟨p, dx, many, mv, ms, rfl, _⟩ := h
    rfl
  · obtain ⟨p, dx, many, mv, ms, rfl, hp, ⟨vs, hV, hM⟩, ok, k⟩ := h
    have hvl : vs.length = ms.length := hM.1
    refine ⟨_, pss_cons (ps_if (pt_not (pt_val (W.call (hr.mono (by decide)) (pa_cons pe_int (pa_cons pe_int (pa_cons (pv 1) pa_nil)))))) pss_never pss_nil)
      (pss_cons (ps_if (PW.pt (pw_or (pt_not (pt_val (pe_callB call_isi (by rfl) T.isi (by decide +kernel) (pa_cons (pv 2) (pa_cons (pe_bltn (v := .ty "tuple") (u := .type "tuple") (by rfl) T.tuple (by decide +kernel) rfl) pa_nil)))))
        (pw_or1 (pt_not (pt_chain op_le op_le pe_int (pe_callB call_len_seq (by rfl) T.len PySem.boot_len (pa_cons (pv 2) pa_nil)) pe_int))))) pss_never pss_nil)
      (pss_cons (ps_for PassesOwn.never rfl (pi_enumT (by rfl) T.enum (pa_cons (pv 2) pa_nil)) (pg_tup (by rfl) (pgs_cons (pg_name (i := 3) scSInit.nd rfl (Or.inl rfl)) (pgs_cons (pg_name (i := 4) scSInit.nd rfl (Or.inl rfl)) pgs_nil)))
        (pss_one (ps_if (pt_not (pt_val (M.call hr (pa_cons (pv 1) (pa_cons (pv 4) pa_nil))))) pss_never pss_nil)))
      (pss_cons (ps_if (pt_not (pt_val (O.call (hr.mono (by decide)) (pa_cons (pe_lc (own := [("share", 5), ("_", 6)]) (g := gTup K 2 (gCons (gName 5) (gCons (gName 6) gNil))) (tt := tYes) rfl scSInit.nd (pi_tup (pv 2))
          (blkOk_by (own := [("share", 5), ("_", 6)]) (N := ["self", "many", "moves", "number", "move", "share", "_"]) (sc := defScope s_System_init) (by decide +kernel))
          (fun _ _ _ _ _ => pg_tup (by rfl) (pgs_cons (pg_name (i := 5) scSInit.nd rfl (Or.inl rfl)) (pgs_cons (pg_name (i := 6) scSInit.nd rfl (Or.inl rfl)) pgs_nil))) (fun _ _ _ _ _ => pts_nil) (fun _ _ _ _ _ => pv 5)) pa_nil)))) pss_never pss_nil)
      (pss_cons (ps_fld (pv 0) (pv 1) rfl) (pss_one (ps_fld (pv 0) (pv 2) rfl)))))), ?_⟩
    -- is_within(1, 12, many)
    refine ⟨_, rfl, 1, 12, _, rfl, .inl ⟨(many : Int), rfl, _, rfl, ?_⟩⟩
    rw [decide_eq_true (show (1 : Int) ≤ (many : Int) by have := ok.m1; omega), decide_eq_true (show (many : Int) ≤ 12 by have := ok.m2; omega)]
    -- isinstance(moves, tuple), 1 <= len(moves) <= 24
    refine iteF ⟨_, rfl, _, _, _, _, _, rfl, .ty "tuple", tyx_tup hV, kit_tt, _, rfl, iteF ⟨_, rfl, mv, _, rfl, .inr hV, _, _, rfl, rfl, _, rfl, ?_⟩⟩
    rw [decide_eq_true (show (1 : Int) ≤ ((vs.length : Nat) : Int) by have := ok.l1; omega)]
    refine iteT ⟨_, _, rfl, rfl, _, rfl, ?_⟩
    rw [decide_eq_true (show ((vs.length : Nat) : Int) ≤ 24 by have := ok.l2; omega)]
    refine iteF ?_
    -- for number, move in enumerate(moves)
    refine ⟨_, rfl, mv, vs, rfl, hV, for_it walk_enumT (fun i σ H' => Same H H' ∧ ∃ u v : Option V, σ = [some (.ref p), some (.int (many : Int)), some (.ref mv), u, v, none, none]) ⟨Same.refl H, none, none, rfl⟩ (fun i σ H' _ h => h.1.sqT hV) ?_ ?_⟩
    · rintro i x σ H1 H2 hi ⟨s1, u, v, rfl⟩ ⟨t, y, rfl, ht, rfl, hy⟩
      obtain ⟨m, hm, hA⟩ := hM.2 i y hy
      have s2 : Same H (upd H1 t (.tup [.int (i : Nat), y])) := fun b o e => Same.new ht b o (s1 b o e)
      refine ⟨t, _, rfl, SqT.of upd_same, rfl, _, _, rfl, _, _, rfl, rfl, ?_⟩
      refine ⟨_, rfl, _, rfl, many, _, m, rfl, ok.m2, hA.same s2, ok.mv m (List.mem_of_getElem? hm), fun H3 s3 => ⟨_, rfl, iteF ⟨s2.trans s3, _, _, rfl⟩⟩⟩
    · rintro σ H1 ⟨s1, u, v, rfl⟩
      -- the shares
      refine ⟨_, rfl, mv, rfl, ⟨_, s1.sqT hV⟩, fun D hD => ?_⟩
      refine lc_tup (K := K) (a := mv) (xs := vs) (fun i H' => Same H1 H' ∧ ∃ acc, H' D = some (.lst acc) ∧ FrsIn K H' acc ((ms.take i).map (·.1))) ⟨Same.new hD, [], upd_same, rfl, fun i v hv => by simp at hv⟩ (fun i H' _ h => (s1.trans h.1).sqT hV) ?_ ?_
      · rintro i x H2 hi ⟨s2, acc, h1, h2⟩
        obtain ⟨m, hm, a, t, l, rfl, hA, hT, hL⟩ := hM.2 i x hi
        have hil : i < ms.length := (List.getElem?_eq_some_iff.mp hm).1
        have s3 := s1.trans s2
        have hz : acc.length = i := by
          have z := h2.1
          rw [List.length_map, List.length_take] at z
          omega
        refine ⟨a, _, rfl, s3.sqT hA, rfl, _, _, rfl, _, _, rfl, rfl, ?_⟩
        have s4 : Same H1 (upd H2 D (.lst (acc ++ [.ref t]))) := s2.mut hD
        refine ⟨rfl, _, rfl, acc, h1, small1000 (by have := ok.l2; omega), s4, _, upd_same, ?_, fun j v hj => ?_⟩
        · rw [List.length_append, List.length_map, List.length_take]
          simp
          omega
        · by_cases hji : j < acc.length
          · rw [List.getElem?_append_left hji] at hj
            obtain ⟨f, g1, g2⟩ := h2.2 j v hj
            obtain ⟨q, g3, g4⟩ := g2
            refine ⟨f, ?_, q, g3, ?_⟩
            · rw [List.take_add_one, hm]
              simp only [Option.toList, List.map_append]
              rw [List.getElem?_append_left (by rw [List.length_map, List.length_take]; omega)]
              exact g1
            · rcases g4 with (z | ⟨o, z⟩) | z
              · refine .inl (.inl ?_)
                rw [upd_ne (ne_of z h1 (by intro y; cases y))]
                exact z
              · refine .inl (.inr ⟨o, ?_⟩)
                rw [upd_ne (ne_of z h1 (by intro y; cases y))]
                exact z
              · exact .inr z
          · have e : j = acc.length := by
              have z := (List.getElem?_eq_some_iff.mp hj).1
              rw [List.length_append] at z
              simp at z
              omega
            subst e
            rw [List.getElem?_append_right (Nat.le_refl _), Nat.sub_self] at hj
            have ev : V.ref t = v := Option.some.inj hj
            refine ⟨m.1, ?_, t, ev.symm, s4.sqT (s1.sqT hT)⟩
            rw [List.take_add_one, hm, hz]
            simp only [Option.toList, List.map_append]
            rw [List.getElem?_append_right (by rw [List.length_map, List.length_take]; omega), List.length_map, List.length_take, show i - min i ms.length = 0 by omega]
            rfl
      · rintro H2 ⟨s2, acc, h1, h2⟩
        rw [hvl, List.take_length] at h2
        refine ⟨D, ms.map (·.1), rfl, ⟨acc, SqL.of h1, h2⟩, by rw [List.length_map]; exact ok.l2, ?_, fun H3 s3 => ⟨_, rfl, ?_⟩⟩
        · intro f hf
          obtain ⟨m, hm, rfl⟩ := List.mem_map.mp hf
          exact (ok.mv m hm).1
        rw [decide_eq_true ok.one]
        have s4 := (s1.trans s2).trans s3
        refine iteF ⟨_, rfl, _, rfl, p, C, dx, [], rfl, s4 _ _ hp, S.cl, S.nK, (by show 0 < 1000; decide), _, rfl, _, rfl, p, C, dx, _, rfl, upd_same, S.cl, S.nM, (by show 1 < 1000; decide), ?_⟩
        rw [upd_upd]
        exact k _ (fun b o n e => by rw [upd_ne n]; exact s4 b o e) upd_same
def spSEq (K : PySem.W.Frag) (C : Addr) : Sp := fun vs H Q _ => ∃ (p q : Addr) (m1 m2 : Nat) (ms1 ms2 : List Mv), vs = [.ref p, .ref q] ∧ SysAt K C H p m1 ms1 ∧ SysAt K C H q m2 ms2 ∧ Q (.bl (decide (m1 = m2) && decide (ms1 = ms2))) H
theorem scSEq : FnScope ["self", "other"] ["self", "other"] (defScope s_System_eq) := ⟨rfl, rfl, rfl, by decide +kernel, rfl, by decide +kernel, by decide +kernel⟩
theorem ok_seq {f C : Addr} {fd : FuncData} (F : Fun K "__eq__" "System.__eq__" s_System_eq f fd) (T : NmA mg) (S : SysT K mg C) : FnOk P w K mg base CX0 1 f fd ["self", "other"] (spSEq K C) := by
  refine F.ok scSEq (fun vs H Q E h => ?_) (fun cdv A outer s H vs Q E hr h => ?_)
  · obtain ⟨p, q, m1, m2, ms1, ms2, rfl, _⟩ := h
    rfl
  · obtain ⟨p, q, m1, m2, ms1, ms2, rfl, h1, h2, k⟩ := h
    obtain ⟨d1, v1, a1, b1⟩ := id h1
    obtain ⟨d2, v2, a2, b2⟩ := id h2
    refine ⟨_, pss_one (ps_ret (pe_and (pe_callB call_isi (by rfl) T.isi (by decide +kernel) (pa_cons (pv 1) (pa_cons (pe_glob (v := .ref C) (u := .ref C) rfl S.mgC rfl) pa_nil)))
      (pe_and (pe_cmpR op_eq (pe_fld (pv 0) rfl) (pe_fld (pv 1) rfl) (nomark _)) (pe_one (pe_cmpR (op_eqD hr.units) (pe_fld (pv 0) rfl) (pe_fld (pv 1) rfl) (nomark _)))))), ?_⟩
    refine ⟨_, rfl, _, _, _, _, _, rfl, .own C, h2.ty S, kit_self (by simp), _, rfl, iteT ?_⟩
    refine ⟨_, rfl, p, C, d1, _, _, rfl, a1, S.cl, S.nK, sysF_many _ _, _, rfl, q, C, d2, _, _, rfl, a2, S.cl, S.nK, sysF_many _ _, rfl, _, rfl, ?_⟩
    have e1 : decide (V.int (m1 : Int) = V.int (m2 : Int)) = decide (m1 = m2) := by
      by_cases e : m1 = m2
      · subst e
        rw [decide_eq_true rfl, decide_eq_true rfl]
      · rw [decide_eq_false e, decide_eq_false (fun z => e (by have := V.int.inj z; omega))]
    rw [e1]
    refine ite2 (fun h => ?_) (fun h => ?_)
    · refine ⟨_, rfl, p, C, d1, _, _, rfl, a1, S.cl, S.nM, sysF_moves _ _, _, rfl, q, C, d2, _, _, rfl, a2, S.cl, S.nM, sysF_moves _ _, mvsD ms1, mvsD ms2, dp_mvsAt b1, dp_mvsAt b2, shaped_of (lay_mvsD _) (by decide), shaped_of (lay_mvsD _) (by decide), ?_⟩
      rw [eqv_mvsD]
      rw [h, Bool.true_and] at k
      exact k
    · rw [Bool.not_eq_true] at h
      rw [h, Bool.false_and] at k
      exact k
end
end Law

namespace L2
open PySem PySem.Spec PyProof.Rows HT
/-! ### t[::-1] of a tuple; set(xs) and len(set(xs)) of a list of ints -/
theorem places_rev (n : Nat) : Builtin.Slice.slicePlaces ((n : Int) - 1) (-1) (-1) = n := by
  unfold Builtin.Slice.slicePlaces
  have h1 : ¬ ((-1 : Int) > 0) := by decide
  simp only [h1, if_false]
  by_cases h : (n : Int) - 1 > -1
  · simp only [h, if_true]
    rw [show (- -1 : Int) = 1 by decide, Int.ediv_one]
    omega
  · simp only [h, if_false]
    omega
theorem adjust_rev (n : Nat) : Builtin.Slice.sliceAdjust none none (-1) (n : Int) = ((n : Int) - 1, -1) := by
  first
  | rfl
  | simp [Builtin.Slice.sliceAdjust]
theorem fmap_congr {α β : Type} {f g : α → Option β} : ∀ l : List α, (∀ a ∈ l, f a = g a) → l.filterMap f = l.filterMap g
  | [], _ => rfl
  | a :: l, h => by rw [List.filterMap_cons, List.filterMap_cons, h a List.mem_cons_self, fmap_congr l fun b hb => h b (List.mem_cons_of_mem _ hb)]
theorem pick_rev (xs : Array Value) : ((List.range xs.size).filterMap fun (m : Nat) => xs[(((xs.size : Nat) : Int) - 1 + (m : Int) * (-1)).toNat]?).toArray = xs.toList.reverse.toArray := by
  congr 1
  have e : (List.range xs.size).filterMap (fun (m : Nat) => xs[(((xs.size : Nat) : Int) - 1 + (m : Int) * (-1)).toNat]?) = ((List.range xs.size).map fun k => xs.size - 1 - k).filterMap (xs[·]?) := by
    rw [List.filterMap_map]
    refine fmap_congr _ fun m hm => ?_
    have := List.mem_range.mp hm
    show xs[(((xs.size : Nat) : Int) - 1 + (m : Int) * (-1)).toNat]? = xs[xs.size - 1 - m]?
    rw [show (((xs.size : Nat) : Int) - 1 + (m : Int) * (-1)).toNat = xs.size - 1 - m by omega]
  rw [e, PySem.W.krv_range, List.filterMap_reverse, PySem.W.krv_all]
section
variable {prog : Program} {w : World} {A : Around} {E : Value → Shared → Prop} {s : Shared}
theorem applied_rev {sl : Addr} {vs : Value} {n : Nat} {Q : Int × Int × Nat → Shared → Prop} (hs : s.heap.IsSliceOf sl .none .none vs) (ps : IsPart vs (some (-1))) (h : Q ((n : Int) - 1, -1, n) s) :
    wpAny (model prog w) A (Builtin.Slice.sliceApplied (.ref sl) (pure (n : Int))) Q E s := by
  obtain ⟨os, hos, hcs, hds⟩ := id hs
  unfold Builtin.Slice.sliceApplied; unfold Builtin.Slice.sliceFields
  refine wpAny_bind (wpAny_bind (wpAny_field hos hds (x := .none) rfl (wpAny_bind (wpAny_field hos hds (x := .none) rfl (wpAny_bind (wpAny_field hos hds (x := vs) rfl (wpAny_pure ?_)))))))
  refine wpAny_bind (slicePart_ ps ?_)
  show wpAny _ _ (if ((-1 : Int) == 0) = true then _ else _) _ _ s
  rw [if_neg (show ¬ ((-1 : Int) == 0) = true by decide)]
  refine wpAny_bind (slicePart_ .none (wpAny_bind (slicePart_ .none (wpAny_bind (wpAny_pure ?_)))))
  show wpAny _ _ (match Builtin.Slice.sliceAdjust none none (-1) (n : Int) with | (lo, hi) => pure (lo, (-1 : Int), Builtin.Slice.slicePlaces lo hi (-1))) _ _ s
  rw [adjust_rev n]
  show wpAny _ _ (pure ((n : Int) - 1, (-1 : Int), Builtin.Slice.slicePlaces ((n : Int) - 1) (-1) (-1))) _ _ s
  rw [places_rev]
  exact wpAny_pure h
theorem getItem_tuple_rev {t sl : Addr} {items : Array Value} {vs : Value} {Q : Value → Shared → Prop} (ht : IsTup s.heap t items) (hs : s.heap.IsSliceOf sl .none .none vs) (ps : IsPart vs (some (-1)))
    (h : Q (.ref s.heap.objs.size) { s with heap := s.heap.push { cls := .type "tuple", data := .seq items.toList.reverse.toArray } }) (hsz : items.size ≤ sizeLine) : wpAny (model prog w) A (getItem (.ref t) (.ref sl)) Q E s := by
  have hr : sizeOk (.seq items.toList.reverse.toArray) := by
    show items.toList.reverse.toArray.size ≤ sizeLine
    rw [List.size_toArray, List.length_reverse, Array.length_toList]
    exact hsz
  obtain ⟨os, hos, hcs, hds⟩ := id hs
  have hTs : s.TypeIs (.ref sl) "slice" := ⟨os, hos, hcs⟩; unfold getItem
  try with_reducible refine wpAny_holding ?_
  first | (refine wpAny_bind (wpAny_pure ?_)) | (skip)
  refine wpAny_bind (wpAny_sequenceKey ht.typeIs (show _ by decide) ?_)
  refine wpAny_bind (wpAny_callSpecial?_slot (name := Str.ofString "__getitem__") ht.typeIs PyProof.Rows.slot_tuple_getitem (wpAny_call_entry PyProof.Rows.slot_tuple_getitem ht.typeIs entry_tuple_getitem ?_ (args_tuple_getitem _ _)))
  show wpAny _ _ (Builtin.Tuple.tupleItemsOf (Value.ref t) >>= _) _ _ s
  refine wpAny_bind (tupleItemsOf_ ht ?_); refine wpAny_bind (wpAny_typeOf hTs ?_)
  rw [if_pos (show _ by decide)]
  refine wpAny_bind (applied_rev (n := items.size) hs ps ?_)
  have hno : ¬ (((((items.size : Nat) : Int) - 1) == 0 && (-1 : Int) == 1 && items.size == items.size) = true) := by
    rw [show ((-1 : Int) == 1) = false by decide, Bool.and_false, Bool.false_and]
    exact Bool.false_ne_true
  show wpAny _ _ (if ((((items.size : Nat) : Int) - 1) == 0 && (-1 : Int) == 1 && items.size == items.size) = true then _ else _) _ _ s
  rw [if_neg hno, pick_rev]
  first
    | exact wpAny_bind (m := Builtin.Tuple.tupleExact _) (wpAny_newObj_type (wpAny_pure ⟨_, rfl, wpAny_pure h⟩) hr)
    | exact wpAny_bind (m := Builtin.Tuple.tupleExact _) (wpAny_newObj_type (wpAny_bind (wpAny_pure (wpAny_pure ⟨_, rfl, wpAny_pure h⟩))) hr)
    | exact wpAny_bind (wpAny_bind (m := Builtin.Tuple.tupleExact _) (wpAny_newObj_type (wpAny_pure (wpAny_pure ⟨_, rfl, wpAny_pure h⟩)) hr))
    | exact wpAny_bind (wpAny_bind (m := Builtin.Tuple.tupleExact _) (wpAny_newObj_type (wpAny_pure ⟨_, rfl, wpAny_pure h⟩) hr))
end
def tRevT (K : PySem.W.Frag) (te : TE) : TE := fun σ H Q => te σ H fun x H1 => ∃ a xs, x = .ref a ∧ SqT K H1 a xs ∧ ∀ p, H1 p = none → Q (.ref p) (upd H1 p (.tup xs.reverse))
theorem pe_revT {X : Cx} {e : Expr} {te : TE} {k : Nat} {p1 p2 p3 pos : Pos} (he : PE X e te) : PE X (.Subscript e (.Slice none none (some (.UnaryOp .USub (.Constant (.int 1) k p1) p2)) p3) pos) (tRevT X.K te) := by
  refine ⟨fun pins s σ H Q I h => Subscript_ (thn (he.run pins s σ H _ I h) fun v s1 ⟨x, H1, I1, r1, q1⟩ => ?_)⟩
  obtain ⟨a, xs, rfl, hx, q⟩ := q1
  cases r1
  have hst : PO X (some (.UnaryOp .USub (.Constant (.int 1) k p1) p2)) (tPart (tUn (rU fun i => .int (-i)) (tC (.int 1)))) := po_some (pe_un un_neg pe_int)
  refine wpAny_Slice (thn (po_none.run pins s1 σ H1 (fun o H2 => o = none ∧ H2 = H1) I1 ⟨rfl, rfl⟩) fun vl s2 ⟨l, H2, I2, pl, el, e2⟩ => ?_)
  subst el; subst e2
  refine thn (po_none.run pins s2 σ H2 (fun o H3 => o = none ∧ H3 = H2) I2 ⟨rfl, rfl⟩) fun vu s3 ⟨u, H3, I3, pu, eu, e3⟩ => ?_
  subst eu; subst e3
  refine thn (hst.run pins s3 σ H3 (fun o H4 => o = some (-1) ∧ H4 = H3) I3 ⟨1, rfl, -1, rfl, rfl, rfl⟩) fun vs s4 ⟨o, H4, I4, ps, eo, e4⟩ => ?_
  subst eo; subst e4
  cases pl
  cases pu
  have I5 : Inv X pins σ H4 { s4 with heap := s4.heap.push { cls := .type "slice", data := .fields #[.none, .none, vs] } } := I4.kept (t' := s4.toks) fun b ob q => Heap.get?_push_of_some _ q
  obtain ⟨its, r, ht, hz⟩ := I5.tuple hx
  have hlen := r.length
  show wpAny (model X.prog X.w) X.A (subscriptTail e (.Slice none none (some (.UnaryOp .USub (.Constant (.int 1) k p1) p2)) p3) (.ref a) (.ref s4.heap.objs.size)) (EP X pins σ Q) X.xe { s4 with heap := s4.heap.push { cls := .type "slice", data := .fields #[.none, .none, vs] } }
  refine tail_any (ops := [.ref a, .ref s4.heap.objs.size]) ht.typeIs (PyProof.Rows.slot_tuple_getitem.lookup) ?_ (by with_unfolding_all rfl)
  refine getItem_tuple_rev ht (Heap.IsSliceOf.new _ .none .none vs) ps ?_ (by rw [List.size_toArray]; omega)
  refine ⟨.ref _, _, I5.laid (t' := s4.toks) (o := .tup xs.reverse) (fun b ob q => Heap.get?_push_of_some _ q) (Nat.le_refl _) ?_, rfl, q _ (I5.hok.fresh (Nat.le_refl _))⟩
  refine ⟨by rw [List.length_reverse]; exact hz, its.reverse, ?_, IsTup.new _ _⟩
  exact r.reverse
end L2
namespace L2
open PySem PySem.Spec PyProof.Rows
def freshSet (w : World) : Obj := { cls := .type "set", dict := none, data := .set #[] 0 (.fresh 0 0 (!w.params.followText "set-order")) }
section
variable {P : Program} {w : World} {A : Around} {E : Value → Shared → Prop} {s : Shared}
set_option maxRecDepth 100000 in
set_option maxHeartbeats 3200000 in
/-- set(xs), xs a list of ints -/
theorem call_setLst {l : Addr} {items : Array Value} (ns : List Int) {Q : Value → Shared → Prop} (hh : A.handled = none) (hl : s.heap.IsList l items) (hit : IntsAre items.toList ns) (hb : ns.length + 1 < scanBound)
    (h : ∀ (h' : Heap) (tk c : Nat), SetR w h' s.heap.objs.size (fun j => decide (j ∈ ns)) c → c ≤ ns.length → (∀ b o, s.heap.get? b = some o → h'.get? b = some o) → Q (.ref s.heap.objs.size) { s with heap := h', toks := tk }) :
    wpAny (model P w) A (call (.type "set") [Value.ref l]) Q E s := by
  have hisz : items.size = ns.length := by
    have q := IntsAre.length hit; rw [Array.length_toList] at q; exact q
  obtain ⟨c, tl, hmro⟩ := F.called_set.mro; have hmade := F.called_set.made; have hsub := F.called_set.sub
  refine wpAny_call (codeAny_of_tree ?_)
  show wpAny _ _ (callAny (.type "set") _) _ _ _
  refine wpAny_pure ⟨Code.quiet_builtin _ (show _ by decide +kernel), codeAny_builtin F.entry_type_call ?_⟩
  rw [Around.under_plain (weight_type_call_type "set" [Value.ref l] []) rfl]
  have h1 := F.called_set.notType; have h2 := F.called_set.canCreate; have hct := F.typeCall_set_1 (.ref l)
  repeat (any_goals (first | (assumption) | (wp_step)))
  refine codeAny_mono (code_set_led1 (.ref l) (E := E) (Q₁ := fun obj s₁ => obj = .ref s.heap.objs.size ∧ s₁ = { s with heap := s.heap.push (freshSet w) }) ⟨rfl, rfl⟩) fun r s₁ hr => ?_
  rcases r with e | fl
  · exact hr
  · cases fl with
    | ret obj =>
      obtain ⟨rfl, rfl⟩ := hr
      have hS : (s.heap.push (freshSet w)).get? s.heap.objs.size = some (freshSet w) := Heap.get?_push_size _ rfl
      have hT : Shared.TypeIs { s with heap := s.heap.push (freshSet w) } (.ref s.heap.objs.size) "set" := ⟨_, hS, rfl⟩
      have hli := F.called_set.init.lookup; have hbi := F.called_set.init.bind (.ref s.heap.objs.size)
      repeat (any_goals (first | (assumption) | (wp_step)))
      refine codeAny_mono (codeAny_call_builtin (R := wants (fun r s₂ => r = .none ∧ ∃ h' tk c, s₂ = { s with heap := h', toks := tk } ∧ SetR w h' s.heap.objs.size (fun j => decide (j ∈ ns)) c ∧ c ≤ ns.length ∧ (∀ b o, s.heap.get? b = some o → h'.get? b = some o)) E)
        F.called_set.init.plain F.entry_set_init (check_set_init_1 hT ?_)) fun r₂ s₂ hr₂ => ?_
      · obtain ⟨⟨ocls, odict, odata, oslots⟩, hol, hcl, nl, hdl⟩ := hl
        simp only at hcl hdl
        subst hcl hdl
        have hol' : (s.heap.push (freshSet w)).get? l = some { cls := .type "list", dict := odict, data := .seq items nl, slots := oslots } := Heap.get?_push_of_some _ hol
        have hsls := F.sub_list_set; have hslf := F.sub_list_frozenset
        have hne : (Value.type "list" == Value.type "dict") = false := show _ by decide
        have hl1 : (s.heap.push (freshSet w)).IsList l items := ⟨_, hol', rfl, nl, rfl⟩
        unfold Builtin.«set.__init__»; unfold noKeywords; unfold Builtin.Frozenset.updateFrom
        generalize hPI : pyIter = PI
        wp_walk; subst hPI
        refine wpAny_pyIter_list hl1 ?_; refine wpAny_bind (wpAny_runValue ?_)
        have hlS : l < s.heap.objs.size := Heap.lt_size hol
        have hh3 : A.in1.in1.in1.handled = none := by simp [hh]
        have hneI : l ≠ (s.heap.push (freshSet w)).objs.size := by
          rw [Heap.size_push]; exact (Nat.ne_of_lt (Nat.lt_succ_of_lt hlS))
        have hSf : s.heap.objs.size ∉ [(s.heap.push (freshSet w)).objs.size, l] := by
          rw [Heap.size_push]; simp only [List.mem_cons, List.mem_singleton, List.not_mem_nil, or_false, not_or]; exact ⟨Nat.ne_of_lt (Nat.lt_succ_self _), Nat.ne_of_gt hlS⟩
        have hval : ∀ (i : Nat) (v : Value), items[i]? = some v → ∃ k t, ns[i]? = some k ∧ v = .int k t := fun i v hv => by
          have hi : i < ns.length := hisz ▸ (Array.getElem?_eq_some_iff.mp hv).1
          obtain ⟨t, e⟩ := PyProof.Rows.IntsAre.int_at hit i v (by rw [Array.getElem?_toList] <;> exact hv)
          exact ⟨ns[i], t, List.getElem?_eq_getElem hi, by rw [e, List.getD_eq_getElem?_getD, List.getElem?_eq_getElem hi] <;> rfl⟩
        refine set_update_ints ((Walks.list hh3 _ l hneI items).toS) s.heap.objs.size hSf ns hisz hb hval (items.size - 0) 0 _ (by omega) (Nat.zero_le _) ⟨⟨_, Heap.get?_push_size _ rfl, rfl, rfl⟩, (hl1.push _)⟩ ?hS0 ?hR
        case hS0 =>
          have hget : ((s.heap.push (freshSet w)).push { cls := .type "list_iterator", data := .fields #[.ref l, .int 0 0] }).get? s.heap.objs.size = some (freshSet w) := Heap.get?_push_of_some _ hS
          exact ⟨0, (Nat.le_refl 0), setR_new_at hget⟩
        case hR =>
          intro s' c' hm hc' hS'
          obtain ⟨h', g2, d', tk', os'⟩ := s'
          have eg : g2 = s.gens := hm.gens; have ed : d' = s.drawn := hm.drawn; have eo : os' = s.os := hm.os
          subst eg ed eo
          show wpAny _ _ _ _ _ _; refine wpAny_pure ?_
          show wpAny _ _ (ret Value.none) _ _ _; rw [hisz] at hc'
          refine wpAny_pure ⟨rfl, h', tk', c', rfl, hS', hc', fun b o e => hm.heap b o ?_ (Heap.get?_push_of_some _ (Heap.get?_push_of_some _ e))⟩
          have hb0 : b < s.heap.objs.size := Heap.lt_size e
          simp only [List.mem_cons, List.mem_singleton, List.not_mem_nil, or_false, not_or, Heap.size_push]
          exact ⟨Nat.ne_of_lt hb0, Nat.ne_of_lt (Nat.lt_succ_of_lt hb0)⟩
      · rcases r₂ with e | fl₂
        · exact hr₂
        · cases fl₂ with
          | ret r =>
            obtain ⟨rfl, h', tk, c', rfl, hS', hc', hk'⟩ := hr₂
            repeat (any_goals (first | (assumption) | (wp_step)))
            exact (h _ _ _ hS' hc' hk')
          | _ => exact (hr₂.elim)
    | _ => exact (hr.elim)
end
def rSetLst (K : PySem.W.Frag) (w : World) : List V → Hp → VK → Prop := fun vs H Q => ∃ (a : Addr) (ns : List Int), vs = [V.ref a] ∧ SqL K H a (ns.map V.int) ∧ ns.length ≤ 1000 ∧
  ∀ (p : Addr) (c : Nat), H p = none → c ≤ ns.length → Q (.ref p) (upd H p (SetO w p (fun j => decide (j ∈ ns)) c))
theorem cr_setL {X : Cx} (hc : X.calm = true) : CallR X (.type "set") (rSetLst X.K X.w) := by
  intro pins s σ H xs us Q I r h
  obtain ⟨a, ns, rfl, hq, hl, q⟩ := h
  rw [Vals.ref1 r]
  obtain ⟨its, rv, pt, hz⟩ := I.list hq
  have hi : IntsAre its.toArray.toList ns := ints_of_vals rv
  refine call_setLst ns (I.ok.hd hc) pt.isList hi (by unfold scanBound; omega) fun h' tk c R1 hcn k => ?_
  exact ⟨.ref _, upd H s.heap.objs.size (SetO X.w s.heap.objs.size (fun j => decide (j ∈ ns)) c), I.laid (t' := tk) k (Nat.le_refl _) (setO_new R1), rfl, q _ c (I.hok.fresh (Nat.le_refl _)) hcn⟩
/-- len(s) of a set of ints: so many unlike members -/
def rLenSet (w : World) : List V → Hp → VK → Prop := fun vs H Q => ∃ (a : Addr) (S : Int → Bool) (n : Nat), vs = [V.ref a] ∧ H a = some (SetO w a S n) ∧ ((∃ ms : List Int, ms.Nodup ∧ ms.length = n ∧ ∀ k, S k = true ↔ k ∈ ms) → Q (.int (n : Nat)) H)
theorem cr_lenSet {X : Cx} : CallR X (.builtin "len") (rLenSet X.w) := by
  intro pins s σ H vs us Q I r h
  obtain ⟨a, S, n, rfl, ha, q⟩ := h
  obtain ⟨o, es, ep, t, ho, hx, hd, g, nd, hm, hb, hf, hn, _⟩ := setO_get I ha
  rw [Vals.ref1 r]
  refine call_len_set ho hx hd hf (by unfold scanBound at hb; omega) ⟨.int (n : Nat), H, I.tok _, ⟨_, by rw [hn]⟩, q ⟨es.toList.map keyOf, nd, by rw [List.length_map, Array.length_toList]; exact hn, hm⟩⟩
end L2


namespace L2
open PySem PySem.Spec PyProof.Rows
/-! ### (x,) * n for every n; t.count(k); set(t) of a tuple of ints -/
theorem tuple_mul0 (l : Addr) (items : Array Value) (n : Nat) (dd : Option Addr) (sl : Array (Option Value)) (u : Tok) (hi : items.isEmpty = false) :
    Meets (Builtin.«tuple.__mul__» ⟨[.ref l, .int 0 u], []⟩) (fun _ R s => s.heap.get? l = some { cls := .type "tuple", dict := dd, data := .seq items n, slots := sl } ∧
      R (.ok (.ret (Value.ref s.heap.objs.size))) { s with heap := s.heap.push { cls := Value.type "tuple", data := Data.seq #[] }, toks := s.toks }) :=
  .of_wp fun prog w A R s h => by
    obtain ⟨hp, g, d, tk, os⟩ := s
    obtain ⟨hl, h⟩ := h
    have f1 := AutoSeq1.idx_int
    have c1 : (items.isEmpty || (0 : Int) == 1) = false := by rw [hi] <;> rfl
    wp_walk using wpAny_loadPart' hl
    repeat (first
      | (refine wpAny_ite_false (decide_eq_false (by decide)) ?_; wp_walk using wpAny_loadPart' hl)
      | (refine wpAny_ite_false (decide_eq_false (by rw [c1]; exact Bool.false_ne_true)) ?_; wp_walk using wpAny_loadPart' hl)
      | (refine wpAny_ite_true (decide_eq_true (by simp)) ?_; wp_walk using wpAny_loadPart' hl))
    exact ⟨_, rfl, h⟩
theorem tuple_mul1 (l : Addr) (items : Array Value) (n : Nat) (dd : Option Addr) (sl : Array (Option Value)) (u : Tok) :
    Meets (Builtin.«tuple.__mul__» ⟨[.ref l, .int 1 u], []⟩) (fun _ R s => s.heap.get? l = some { cls := .type "tuple", dict := dd, data := .seq items n, slots := sl } ∧ R (.ok (.ret (Value.ref l))) s) :=
  .of_wp fun prog w A R s h => by
    obtain ⟨hp, g, d, tk, os⟩ := s
    obtain ⟨hl, h⟩ := h
    have f1 := AutoSeq1.idx_int
    have c1 : (items.isEmpty || (1 : Int) == 1) = true := by simp
    wp_walk using wpAny_loadPart' hl
    repeat (first
      | (refine wpAny_ite_false (decide_eq_false (by decide)) ?_; wp_walk using wpAny_loadPart' hl)
      | (refine wpAny_ite_true (decide_eq_true (by rw [c1])) ?_; wp_walk using wpAny_loadPart' hl, wpAny_typeOf' ⟨_, hl, rfl⟩))
    exact ⟨_, rfl, h⟩
def rCntT (K : PySem.W.Frag) : V → List V → Hp → VK → Prop := fun x xs H Q => ∃ (p : Addr) (ns : List Int) (k : Int), x = .ref p ∧ xs = [.int k] ∧ SqT K H p (ns.map V.int) ∧ Q (.int (ns.count k : Nat)) H
def rSetI (K : PySem.W.Frag) (w : World) : List V → Hp → VK → Prop := fun vs H Q => ∃ (a : Addr) (ns : List Int), vs = [V.ref a] ∧ SqT K H a (ns.map V.int) ∧ ns.length ≤ 1000 ∧
  ∀ (p : Addr) (c : Nat), H p = none → c ≤ ns.length → Q (.ref p) (upd H p (SetO w p (fun j => decide (j ∈ ns)) c))
section
variable {X : Cx}
theorem mt_tcount : MtR X "tuple.count" (rCntT X.K) := by
  intro pins s σ H x xs v us Q I rx rxs h
  obtain ⟨p, ns, k, rfl, rfl, hs, q⟩ := h
  cases rx
  obtain ⟨u, rfl, ru⟩ := rxs.one
  obtain ⟨t, rfl⟩ := ru
  obtain ⟨its, rv, ⟨⟨cls, dd, data, sl⟩, ho, hc, n, hd⟩, hlen⟩ := I.tuple hs
  simp only at hc hd
  subst hc hd
  have hi := ints_of_vals rv
  refine call_meets PySem.F.slot_tuple_count ⟨_, ho, rfl⟩ PySem.F.entry_tuple_count (PySem.F.args_tuple_count_2 _ _)
    (SeqAt.tuple_countAt p its.toArray n dd sl (.int k t) (eqk k)) ⟨ho, fun y hy => (eqk_gives hi y (by simpa using hy)).at _ _, ?_⟩
  have ec : its.toArray.toList.countP (eqk k) = ns.count k := eqk_count hi
  refine ⟨.int (ns.count k : Nat), H, I.tok _, ⟨s.toks, ?_⟩, q⟩
  show Value.int ((its.toArray.toList.countP (eqk k) : Nat) : Int) s.toks = Value.int ((ns.count k : Nat) : Int) s.toks
  rw [ec]
theorem cr_setI (hc : X.calm = true) : CallR X (.type "set") (rSetI X.K X.w) := by
  intro pins s σ H xs us Q I r h
  obtain ⟨a, ns, rfl, hq, hl, q⟩ := h
  rw [Vals.ref1 r]
  obtain ⟨its, rv, pt, hz⟩ := I.tuple hq
  have hi : IntsAre its.toArray.toList ns := ints_of_vals rv
  refine call_set_tupI ns (I.ok.hd hc) (show s.heap.IsTuple a its.toArray from pt) hi (by unfold scanBound; omega) fun h' tk c R1 hcn k => ?_
  exact ⟨.ref _, upd H s.heap.objs.size (SetO X.w s.heap.objs.size (fun j => decide (j ∈ ns)) c), I.laid (t' := tk) k (Nat.le_refl _) (setO_new R1), rfl, q _ c (I.hok.fresh (Nat.le_refl _)) hcn⟩
def rRepI (K : PySem.W.Frag) : R2 := fun x y H Q => ∃ l k xs, x = .ref l ∧ y = .int k ∧ SqT K H l xs ∧ xs ≠ [] ∧ 0 ≤ k ∧ k ≤ 1000 ∧ xs.length ≤ 1000 ∧
  (k = 0 → ∀ p, H p = none → Q (.ref p) (upd H p (.tup []))) ∧ (k = 1 → Q (.ref l) H) ∧ (2 ≤ k → ∀ p, H p = none → Q (.ref p) (upd H p (.tup (List.replicate k.toNat xs).flatten)))
theorem op_repI : OpR X (binaryOp .Mult) (rRepI X.K) := by
  intro pins s σ H x y v u Q I rx ry h
  obtain ⟨l, k, xs, rfl, rfl, hT, hne, h1, h2, hz, q0, q1, q2⟩ := h
  by_cases k2 : 2 ≤ k
  · exact op_repT pins s σ H _ _ v u Q I rx ry ⟨l, k, xs, rfl, rfl, hT, hne, k2, h2, hz, q2 k2⟩
  cases rx
  obtain ⟨t, rfl⟩ := ry
  obtain ⟨its, r, ⟨⟨cls, dd, data, sl⟩, ho, hc, n, hd⟩, hs⟩ := I.tuple hT
  simp only at hc hd
  subst hc hd
  have hle : its.length = xs.length := r.length.symm
  have hn : its ≠ [] := fun e => hne (by
    rw [e] at hle
    exact List.eq_nil_of_length_eq_zero hle.symm)
  have hi : its.toArray.isEmpty = false := by
    cases its with
    | nil => exact absurd rfl hn
    | cons a b => rfl
  by_cases k0 : k = 0
  · subst k0
    refine wpAny_binaryOp_repeat_ref (T := "tuple") (U := "int") (by decide) ⟨_, ho, rfl⟩ (fun s' => typeIs_int s' 0 t) noFill_tuple_mul F.fills_int_mul F.slot_int_rmul repeat_tuple F.slot_int_index.lookup
      (call_meets F.slot_int_rmul (typeIs_int s 0 t) F.entry_int_rmul (F.args_int_rmul_2 _ _) (int_rmul_tuple 0 t l its.toArray n dd sl)
        ⟨ho, rfl, ⟨_, ho, rfl⟩, call_meets F.slot_tuple_mul ⟨_, ho, rfl⟩ F.entry_tuple_mul (F.args_tuple_mul_2 _ _) (tuple_mul0 l its.toArray n dd sl t hi) ⟨ho, ?_⟩⟩)
    refine ⟨.ref s.heap.objs.size, _, I.laid (t' := s.toks) (o := .tup []) (fun b ob q => Heap.get?_push_of_some _ q) (Nat.le_refl _) ?_, rfl, q0 rfl _ (I.hok.fresh (Nat.le_refl _))⟩
    exact ⟨Nat.zero_le _, [], .nil, IsTup.new _ _⟩
  · have k1 : k = 1 := by omega
    subst k1
    exact wpAny_binaryOp_repeat_ref (T := "tuple") (U := "int") (by decide) ⟨_, ho, rfl⟩ (fun s' => typeIs_int s' 1 t) noFill_tuple_mul F.fills_int_mul F.slot_int_rmul repeat_tuple F.slot_int_index.lookup
      (call_meets F.slot_int_rmul (typeIs_int s 1 t) F.entry_int_rmul (F.args_int_rmul_2 _ _) (int_rmul_tuple 1 t l its.toArray n dd sl)
        ⟨ho, rfl, ⟨_, ho, rfl⟩, call_meets F.slot_tuple_mul ⟨_, ho, rfl⟩ F.entry_tuple_mul (F.args_tuple_mul_2 _ _) (tuple_mul1 l its.toArray n dd sl t) ⟨ho, ⟨.ref l, H, I, rfl, q1 rfl⟩⟩⟩)
end
end L2
namespace L2
open PySem PySem.Spec PyProof.Rows
/-- set(xs), xs a list or tuple of ints -/
def rSetA (K : PySem.W.Frag) (w : World) : List V → Hp → VK → Prop := fun vs H Q => ∃ (a : Addr) (ns : List Int), vs = [V.ref a] ∧ (SqL K H a (ns.map V.int) ∨ SqT K H a (ns.map V.int)) ∧ ns.length ≤ 1000 ∧
  ∀ (p : Addr) (c : Nat), H p = none → c ≤ ns.length → Q (.ref p) (upd H p (SetO w p (fun j => decide (j ∈ ns)) c))
theorem cr_setA {X : Cx} (hc : X.calm = true) : CallR X (.type "set") (rSetA X.K X.w) := by
  intro pins s σ H xs us Q I r h
  obtain ⟨a, ns, e, hq | hq, hl, q⟩ := h
  · exact cr_setL hc pins s σ H xs us Q I r ⟨a, ns, e, hq, hl, q⟩
  · exact cr_setI hc pins s σ H xs us Q I r ⟨a, ns, e, hq, hl, q⟩
end L2


namespace Law
open PySem L2
/-! ### lots -/
def upto (n : Nat) : List Int := (List.range n).map fun i : Nat => (i : Int)
theorem mem_upto {n : Nat} {x : Int} : x ∈ upto n ↔ 0 ≤ x ∧ x < (n : Int) := by
  unfold upto
  rw [List.mem_map]
  constructor
  · rintro ⟨i, hi, rfl⟩
    have := List.mem_range.mp hi
    omega
  · rintro ⟨h1, h2⟩
    exact ⟨x.toNat, List.mem_range.mpr (by omega), by omega⟩
theorem upto_len (n : Nat) : (upto n).length = n := by unfold upto; rw [List.length_map, List.length_range]
theorem upto_asc (n : Nat) : (upto n).Pairwise (· < ·) := by
  unfold upto
  rw [List.pairwise_map]
  exact List.Pairwise.imp (fun h => by omega) List.pairwise_lt_range
theorem upto_get {n i : Nat} (h : i < n) : (upto n)[i]? = some (i : Int) := by
  unfold upto
  rw [List.getElem?_map, List.getElem?_range h] <;> rfl
theorem upto_snoc (n : Nat) : upto (n + 1) = upto n ++ [(n : Int)] := by
  unfold upto
  rw [List.range_succ, List.map_append] <;> rfl
def lotF (e : List Int) : List Int := (upto 12).filter fun x => decide (x ∈ e)
def In12 (e : List Int) : Prop := ∀ x ∈ e, 0 ≤ x ∧ x < 12
theorem lot_asc (e : List Int) : (lotF e).Pairwise (· < ·) := List.Pairwise.filter _ (upto_asc 12)
theorem lot_mem {e : List Int} (h : In12 e) (x : Int) : x ∈ lotF e ↔ x ∈ e := by
  unfold lotF
  rw [List.mem_filter, mem_upto, decide_eq_true_iff]
  exact ⟨fun z => z.2, fun z => ⟨h x z, z⟩⟩
theorem asc_ext : ∀ {a b : List Int}, a.Pairwise (· < ·) → b.Pairwise (· < ·) → (∀ k, k ∈ a ↔ k ∈ b) → a = b
  | [], [], _, _, _ => rfl
  | [], y :: b, _, _, h => absurd ((h y).mpr List.mem_cons_self) List.not_mem_nil
  | x :: a, [], _, _, h => absurd ((h x).mp List.mem_cons_self) List.not_mem_nil
  | x :: a, y :: b, ha, hb, h => by
    rw [List.pairwise_cons] at ha hb
    have exy : x = y := by
      rcases List.mem_cons.mp ((h x).mp List.mem_cons_self) with e | e
      · exact e
      rcases List.mem_cons.mp ((h y).mpr List.mem_cons_self) with e2 | e2
      · exact e2.symm
      have := hb.1 x e
      have := ha.1 y e2
      omega
    subst exy
    rw [asc_ext ha.2 hb.2 fun k => ⟨fun hk => ?_, fun hk => ?_⟩]
    · rcases List.mem_cons.mp ((h k).mp (List.mem_cons_of_mem _ hk)) with e | e
      · have := ha.1 k hk
        omega
      · exact e
    · rcases List.mem_cons.mp ((h k).mpr (List.mem_cons_of_mem _ hk)) with e | e
      · have := hb.1 k hk
        omega
      · exact e
theorem lot_eq {e ns : List Int} (h : In12 e) (p : ns.Pairwise (· < ·)) (q : ∀ k, k ∈ ns ↔ k ∈ e) : ns = lotF e := asc_ext p (lot_asc e) fun k => by rw [q k, lot_mem h]
theorem lot_len {e ms : List Int} (h : In12 e) (n : ms.Nodup) (q : ∀ k, k ∈ e ↔ k ∈ ms) : ms.length = (lotF e).length := by
  have nl : (lotF e).Nodup := List.Pairwise.imp (fun h => Int.ne_of_lt h) (lot_asc e)
  exact ((List.perm_ext_iff_of_nodup n nl).mpr fun k => by rw [lot_mem h, q k]).length_eq
theorem lot_congr {a b : List Int} (ha : In12 a) (hb : In12 b) (h : ∀ k, k ∈ a ↔ k ∈ b) : lotF a = lotF b := lot_eq hb (lot_asc a) fun k => by rw [lot_mem ha, h k]
theorem lot_one {e : List Int} (h : In12 e) (h1 : (lotF e).length = 1) : ∃ z, lotF e = [z] ∧ (∀ x ∈ e, x = z) ∧ z ∈ e := by
  match hl : lotF e, h1 with
  | [z], _ =>
    refine ⟨z, rfl, fun x hx => ?_, ?_⟩
    · have := (lot_mem h x).mpr hx
      rw [hl] at this
      exact List.mem_singleton.mp this
    · exact (lot_mem h z).mp (by rw [hl]; exact List.mem_singleton_self z)
section
variable {P : Program} {w : World} {K : PySem.W.Frag} {mg : Str → Option Value} {base : Heap}
def spLotOf (K : PySem.W.Frag) : Sp := fun vs H Q _ => ∃ (a : Addr) (e : List Int), vs = [.ref a] ∧ (SqL K H a (e.map V.int) ∨ SqT K H a (e.map V.int)) ∧ e.length ≤ 63 ∧ In12 e ∧ ∀ l H', Same H H' → H' l = some (.tup ((lotF e).map V.int)) → Q (.ref l) H'
abbrev nLotOf : List Str := ["things"]
theorem scLotOf : FnScope nLotOf ["things"] (defScope s_lot_of) := ⟨rfl, rfl, rfl, by decide +kernel, rfl, by decide +kernel, by decide +kernel⟩
theorem ok_lot_of {f : Addr} {fd : FuncData} (F : Fun K "lot_of" "lot_of" s_lot_of f fd) (T : NmA mg) : FnOk P w K mg base CX0 1 f fd ["things"] (spLotOf K) := by
  refine F.ok scLotOf (fun vs H Q E h => ?_) (fun cdv A' outer s H vs Q E hr h => ?_)
  · obtain ⟨a, e, rfl, _⟩ := h
    rfl
  · obtain ⟨a, e, rfl, hS, h63, h12, k⟩ := h
    refine ⟨_, pss_one (ps_ret (pe_callTy call_tuple_of (by rfl) T.tuple (by decide +kernel) (pa_cons (pe_callB (cr_sortedSet (by rfl)) (by rfl) T.sorted (by decide +kernel) (pa_cons (pe_callTy (cr_setA (by rfl)) (by rfl) T.set (by decide +kernel) (pa_cons (pv 0) pa_nil)) pa_nil)) pa_nil))), ?_⟩
    refine ⟨_, rfl, a, e, rfl, hS, by omega, fun q c hq hc => ?_⟩
    refine ⟨q, _, c, rfl, upd_same, by omega, fun ns r p1 p2 p3 hr' => ?_⟩
    refine ⟨r, _, rfl, .inl ⟨SqL.of upd_same, fun l hl => ?_⟩⟩
    refine k l _ (((Same.new hq).trans (Same.new hr')).trans (Same.new hl)) ?_
    rw [upd_same, lot_eq h12 p1 fun z => by rw [p2 z, decide_eq_true_iff]]
end
end Law

namespace Law
open PySem L2
/-! ### a state led along a row; products along a row, and by counting -/
def leadOf (ms : List Mv) (r s : Int) : Int := match ms[r.toNat]? with
  | some m => (m.2[s.toNat]?).getD 0
  | none => 0
def goneF (ms : List Mv) (row : List Int) (s : Int) : Int := row.foldl (fun s r => leadOf ms r s) s
def RowOk (n : Nat) (row : List Int) : Prop := row.length ≤ 400 ∧ ∀ r ∈ row, 0 ≤ r ∧ r < (n : Int)
theorem lead_at {many : Nat} {ms : List Mv} (h : ∀ m ∈ ms, MvOk many m) {r s : Int} (hr : 0 ≤ r ∧ r < (ms.length : Nat)) (hs : 0 ≤ s ∧ s < (many : Int)) : ∃ m, ms[r.toNat]? = some m ∧ m.2[s.toNat]? = some (leadOf ms r s) ∧ 0 ≤ leadOf ms r s ∧ leadOf ms r s < (many : Int) := by
  have h1 : r.toNat < ms.length := by omega
  refine ⟨ms[r.toNat], List.getElem?_eq_getElem h1, ?_⟩
  obtain ⟨_, _, _, h2, h3⟩ := h _ (List.getElem_mem h1)
  have h4 : s.toNat < ms[r.toNat].2.length := by rw [h2]; omega
  have e : leadOf ms r s = ms[r.toNat].2[s.toNat] := by
    unfold leadOf
    rw [List.getElem?_eq_getElem h1]
    show (ms[r.toNat].2[s.toNat]?).getD 0 = _
    rw [List.getElem?_eq_getElem h4] <;> rfl
  rw [e]
  exact ⟨List.getElem?_eq_getElem h4, h3 _ (List.getElem_mem h4)⟩
theorem gone_in {many : Nat} {ms : List Mv} (h : ∀ m ∈ ms, MvOk many m) : ∀ (row : List Int) (s : Int), (∀ r ∈ row, 0 ≤ r ∧ r < ((ms.length : Nat) : Int)) → 0 ≤ s ∧ s < (many : Int) → 0 ≤ goneF ms row s ∧ goneF ms row s < (many : Int)
  | [], _, _, hs => hs
  | r :: row, s, hr, hs => by
    obtain ⟨m, _, _, z⟩ := lead_at h (hr r List.mem_cons_self) hs
    exact gone_in h row _ (fun x hx => hr x (List.mem_cons_of_mem _ hx)) z
theorem gone_snoc (ms : List Mv) (row : List Int) (r s : Int) : goneF ms (row ++ [r]) s = leadOf ms r (goneF ms row s) := by
  unfold goneF
  rw [List.foldl_append] <;> rfl
theorem gone_app (ms : List Mv) (a b : List Int) (s : Int) : goneF ms (a ++ b) s = goneF ms b (goneF ms a s) := by
  unfold goneF
  rw [List.foldl_append]
end Law
namespace Law
open PySem L2
theorem at_len {xs : List V} {i : Nat} (h : i < xs.length) : ∃ x, xs[i]? = some x ∧ x ∈ xs ∧ atI xs ((i : Nat) : Int) = some x := ⟨xs[i], List.getElem?_eq_getElem h, List.getElem_mem h, atI_nat (List.getElem?_eq_getElem h)⟩
theorem mv_ix {K : PySem.W.Frag} {H : Hp} {vs : List V} {ms : List Mv} {r : Int} (h : MvsIn K H vs ms) (hr : 0 ≤ r ∧ r < ((ms.length : Nat) : Int)) :
    ∃ m aa s l, atI vs r = some (.ref aa) ∧ ms[r.toNat]? = some m ∧ SqT K H aa [.ref s, .ref l] ∧ SqT K H s [.int m.1.1, .int m.1.2] ∧ SqT K H l (m.2.map V.int) := by
  obtain ⟨j, rfl⟩ := Int.eq_ofNat_of_zero_le hr.1
  have hj : j < vs.length := by
    have := h.1
    omega
  obtain ⟨v, hv, _, hat⟩ := at_len hj
  obtain ⟨m, hm, aa, s, l, rfl, h2, h3, h4⟩ := h.2 j v hv
  exact ⟨m, aa, s, l, hat, by rw [Int.toNat_natCast]; exact hm, h2, h3, h4⟩
theorem ints_ix {xs : List Int} {s z : Int} (hs : 0 ≤ s) (e : xs[s.toNat]? = some z) : atI (xs.map V.int) s = some (.int z) := by
  obtain ⟨j, rfl⟩ := Int.eq_ofNat_of_zero_le hs
  rw [Int.toNat_natCast] at e
  exact atI_nat (by rw [List.getElem?_map, e] <;> rfl)
def rLenK (K : PySem.W.Frag) : List V → Hp → VK → Prop := fun xs H Q => ∃ p ys, xs = [.ref p] ∧ (SqL K H p ys ∨ SqT K H p ys) ∧ Q (.int (ys.length : Nat)) H
end Law
namespace Law
open PySem L2
/-! ### the program: rows, states led -/
section
variable {P : Program} {w : World} {K : PySem.W.Frag} {mg : Str → Option Value} {base : Heap}
def spIsRow (K : PySem.W.Frag) (C : Addr) : Sp := fun vs H Q _ => ∃ (p b : Addr) (many : Nat) (ms : List Mv) (row : List Int), vs = [.ref p, .ref b] ∧ SysAt K C H p many ms ∧ SqT K H b (row.map V.int) ∧ RowOk ms.length row ∧ ∀ H', Same H H' → Q (.bl true) H'
theorem scIsRow : FnScope ["system", "thing"] ["system", "thing"] (defScope s_is_row) := ⟨rfl, rfl, rfl, by decide +kernel, rfl, by decide +kernel, by decide +kernel⟩
theorem ok_isrow {f C fR : Addr} {fd fdR : FuncData} (F : Fun K "is_row" "is_row" s_is_row f fd) (T : NmA mg) (S : SysT K mg C) (R : Cl P w K mg base CX0 3 "is_row_below" fR fdR ["bound", "thing"] (spRowB K)) : FnOk P w K mg base CX0 4 f fd ["system", "thing"] (spIsRow K C) := by
  refine F.ok scIsRow (fun vs H Q E h => ?_) (fun cdv A' outer s H vs Q E hr h => ?_)
  · obtain ⟨p, b, many, ms, row, rfl, _⟩ := h
    rfl
  · obtain ⟨p, b, many, ms, row, rfl, ⟨dx, mv, hp, vs, hV, hM⟩, hR, ⟨rl, rb⟩, k⟩ := h
    have hvl : vs.length = ms.length := hM.1
    refine ⟨_, pss_one (ps_ret (pe_and (R.call hr (pa_cons (pe_callB call_len_seq (by rfl) T.len PySem.boot_len (pa_cons (pe_fld (pv 0) rfl) pa_nil)) (pa_cons (pv 1) pa_nil)))
      (pe_one (pe_cmpR op_le (pe_callB call_len_seq (by rfl) T.len PySem.boot_len (pa_cons (pv 1) pa_nil)) pe_int (nomark _))))), ?_⟩
    refine ⟨_, rfl, p, C, dx, _, _, rfl, hp, S.cl, S.nM, sysF_moves _ _, mv, _, rfl, .inr hV, _, rfl, ((vs.length : Nat) : Int), b, _, rfl, hR, by rw [List.length_map]; omega, fun x hx => ?_, fun H1 s1 => ?_⟩
    · obtain ⟨i, _, rfl⟩ := List.mem_map.mp hx
      exact ⟨i, rfl⟩
    · have hall : (row.map V.int).all (isW 0 (((vs.length : Nat) : Int) - 1)) = true := by
        rw [List.all_eq_true]
        intro x hx
        obtain ⟨i, hi, rfl⟩ := List.mem_map.mp hx
        obtain ⟨g1, g2⟩ := rb i hi
        show (decide (0 ≤ i) && decide (i ≤ ((vs.length : Nat) : Int) - 1)) = true
        rw [decide_eq_true g1, decide_eq_true (show i ≤ ((vs.length : Nat) : Int) - 1 by omega)] <;> rfl
      rw [hall]
      refine ⟨_, rfl, iteT ⟨_, rfl, b, _, rfl, .inr (s1.sqT hR), _, _, rfl, rfl, ?_⟩⟩
      rw [List.length_map]
      show Q (.bl (decide (((row.length : Nat) : Int) ≤ 400))) H1
      rw [decide_eq_true (show ((row.length : Nat) : Int) ≤ 400 by omega)]
      exact k H1 s1
def spLed (K : PySem.W.Frag) (C : Addr) : Sp := fun vs H Q _ => ∃ (p b : Addr) (many : Nat) (ms : List Mv) (row : List Int) (s : Int), vs = [.ref p, .ref b, .int s] ∧ SysAt K C H p many ms ∧ SqT K H b (row.map V.int) ∧ SysOk many ms ∧ RowOk ms.length row ∧ 0 ≤ s ∧ s < (many : Int) ∧
  ∀ H', Same H H' → Q (.int (goneF ms row s)) H'
theorem scLed : FnScope ["system", "row", "state", "number", "_", "leads"] ["system", "row", "state"] (defScope s_led) := ⟨rfl, rfl, rfl, by decide +kernel, rfl, by decide +kernel, by decide +kernel⟩
theorem ok_led {f C fR fW : Addr} {fd fdR fdW : FuncData} (F : Fun K "led" "led" s_led f fd) (S : SysT K mg C) (R : Cl P w K mg base CX0 4 "is_row" fR fdR ["system", "thing"] (spIsRow K C)) (W : Cl P w K mg base CX0 2 "is_within" fW fdW ["low", "high", "thing"] (spWithin K)) : FnOk P w K mg base CX0 5 f fd ["system", "row", "state"] (spLed K C) := by
  refine F.ok scLed (fun vs H Q E h => ?_) (fun cdv A' outer s H vs Q E hr h => ?_)
  · obtain ⟨p, b, many, ms, row, z, rfl, _⟩ := h
    rfl
  · obtain ⟨p, b, many, ms, row, z, rfl, hS, hR, ok, rok, z0, z1, k⟩ := h
    refine ⟨_, pss_cons (ps_if (pt_not (pt_val (R.call hr (pa_cons (pv 0) (pa_cons (pv 1) pa_nil))))) pss_never pss_nil)
      (pss_cons (ps_if (pt_not (pt_val (W.call (hr.mono (by decide)) (pa_cons pe_int (pa_cons (pe_op op_sub (pe_fld (pv 0) rfl) pe_int) (pa_cons (pv 2) pa_nil)))))) pss_never pss_nil)
      (pss_cons (ps_for PassesOwn.never rfl (pi_tup (pv 1)) (pg_name (i := 3) scLed.nd rfl (Or.inl rfl))
        (pss_cons (ps_asg (pe_ix ix_tup (pe_fld (pv 0) rfl) (pv 3) (fun _ _ => rfl)) (pg_tup (by rfl) (pgs_cons (pg_name (i := 4) scLed.nd rfl (Or.inl rfl)) (pgs_cons (pg_name (i := 5) scLed.nd rfl (Or.inl rfl)) pgs_nil))))
        (pss_one (ps_set (i := 2) scLed.nd rfl (Or.inl rfl) (pe_ix ix_tup (pv 5) (pv 2) (fun _ _ => rfl))))))
      (pss_one (ps_ret (pv 2))))), ?_⟩
    refine ⟨_, rfl, _, rfl, p, b, many, ms, row, rfl, hS, hR, rok, fun H1 s1 => ⟨_, rfl, iteF ?_⟩⟩
    have hS1 := hS.same s1
    obtain ⟨dx, mv, hp, vs, hV, hM⟩ := id hS1
    refine ⟨_, rfl, p, C, dx, _, _, rfl, hp, S.cl, S.nK, sysF_many _ _, _, _, rfl, rfl, _, rfl, 0, (many : Int) - 1, _, rfl, .inl ⟨z, rfl, _, rfl, ?_⟩⟩
    rw [decide_eq_true z0, decide_eq_true (show z ≤ (many : Int) - 1 by omega)]
    refine iteF ⟨_, rfl, b, rfl, ⟨_, s1.sqT hR⟩, for_tup (K := K) (a := b) (xs := row.map V.int) (fun i σ H' => H' = H1 ∧ ∃ u v x : Option V, σ = [some (.ref p), some (.ref b), some (.int (goneF ms (row.take i) z)), u, v, x]) ⟨rfl, none, none, none, rfl⟩ (fun i σ H' _ h => by rw [h.1]; exact s1.sqT hR) ?_ ?_⟩
    · rintro i x σ H' hi ⟨rfl, u, v, y, rfl⟩
      rw [List.getElem?_map] at hi
      obtain ⟨r, hri, rfl⟩ := Option.map_eq_some_iff.mp hi
      have rb := rok.2 r (List.mem_of_getElem? hri)
      have sb := gone_in ok.mv (row.take i) z (fun x hx => rok.2 x (List.mem_of_mem_take hx)) ⟨z0, z1⟩
      obtain ⟨m, aa, sa, la, h1, h2, h3, h4, h5⟩ := mv_ix hM rb
      obtain ⟨m', e1, e2, _⟩ := lead_at ok.mv rb sb
      rw [h2] at e1
      cases e1
      refine ⟨_, rfl, p, C, dx, _, _, rfl, hp, S.cl, S.nM, sysF_moves _ _, _, rfl, mv, _, _, _, rfl, rfl, hV, h1, aa, _, rfl, h3, rfl, _, _, rfl, _, _, rfl, rfl, ?_⟩
      refine ⟨_, rfl, _, rfl, la, _, _, _, rfl, rfl, h5, ints_ix sb.1 e2, ?_⟩
      refine ⟨rfl, some (.int r), some (.ref sa), some (.ref la), ?_⟩
      rw [List.take_add_one, hri]
      show _ = [some (V.ref p), some (V.ref b), some (V.int (goneF ms (row.take i ++ [r]) z)), some (V.int r), some (V.ref sa), some (V.ref la)]
      rw [gone_snoc]
      rfl
    · rintro σ H' ⟨rfl, u, v, y, rfl⟩
      refine ⟨_, rfl, ?_⟩
      rw [List.length_map, List.take_length]
      exact k H' s1
/-- where all states are led -/
def allF (ms : List Mv) (many : Nat) (row : List Int) : List Int := (List.range many).map fun s : Nat => goneF ms row (s : Int)
def spAll (K : PySem.W.Frag) (C : Addr) : Sp := fun vs H Q _ => ∃ (p b : Addr) (many : Nat) (ms : List Mv) (row : List Int), vs = [.ref p, .ref b] ∧ SysAt K C H p many ms ∧ SqT K H b (row.map V.int) ∧ SysOk many ms ∧ RowOk ms.length row ∧
  ∀ l H', Same H H' → H' l = some (.tup ((allF ms many row).map V.int)) → Q (.ref l) H'
theorem scAll : FnScope ["system", "row", "state"] ["system", "row"] (defScope s_led_all) := ⟨rfl, rfl, rfl, by decide +kernel, rfl, by decide +kernel, by decide +kernel⟩
theorem all_snoc (ms : List Mv) (row : List Int) (i : Nat) : allF ms (i + 1) row = allF ms i row ++ [goneF ms row (i : Int)] := by
  unfold allF
  rw [List.range_succ, List.map_append] <;> rfl
theorem ok_all {f C fR fL : Addr} {fd fdR fdL : FuncData} (F : Fun K "led_all" "led_all" s_led_all f fd) (T : NmA mg) (S : SysT K mg C) (R : Cl P w K mg base CX0 4 "is_row" fR fdR ["system", "thing"] (spIsRow K C)) (L : Cl P w K mg base CX0 5 "led" fL fdL ["system", "row", "state"] (spLed K C)) : FnOk P w K mg base CX0 6 f fd ["system", "row"] (spAll K C) := by
  refine F.ok scAll (fun vs H Q E h => ?_) (fun cdv A' outer s H vs Q E hr h => ?_)
  · obtain ⟨p, b, many, ms, row, rfl, _⟩ := h
    rfl
  · obtain ⟨p, b, many, ms, row, rfl, hS, hR, ok, rok, k⟩ := h
    refine ⟨_, pss_cons (ps_if (pt_not (pt_val (R.call (hr.mono (by decide)) (pa_cons (pv 0) (pa_cons (pv 1) pa_nil))))) pss_never pss_nil)
      (pss_one (ps_ret (pe_callTy call_tuple_of (by rfl) T.tuple (by decide +kernel) (pa_cons (pe_lc (own := [("state", 2)]) (g := gName 2) (tt := tYes) rfl scAll.nd (pi_range1 (by rfl) T.range (pa_cons (pe_fld (pv 0) rfl) pa_nil))
        (blkOk_by (own := [("state", 2)]) (N := ["system", "row", "state"]) (sc := defScope s_led_all) (by decide +kernel)) (fun _ _ _ _ _ => pg_name (i := 2) scAll.nd rfl (Or.inl rfl)) (fun _ _ _ _ _ => pts_nil)
        (fun _ _ _ _ _ => L.call hr (pa_cons (pv 0) (pa_cons (pv 1) (pa_cons (pv 2) pa_nil))))) pa_nil)))), ?_⟩
    refine ⟨_, rfl, _, rfl, p, b, many, ms, row, rfl, hS, hR, rok, fun H1 s1 => ⟨_, rfl, iteF ?_⟩⟩
    have hS1 := hS.same s1
    obtain ⟨dx, mv, hp, _⟩ := id hS1
    have m12 := ok.m2
    refine ⟨_, rfl, p, C, dx, _, _, rfl, hp, S.cl, S.nK, sysF_many _ _, (many : Int), rfl, by omega, by omega, fun D hD => ?_⟩
    refine lc_range (lo := 0) (n := many) (fun i H' => Same H1 H' ∧ H' D = some (.lst ((allF ms i row).map V.int))) ⟨Same.new hD, upd_same⟩ (fun i H' hi g => ?_) fun H' g => ?_
    · obtain ⟨t1, h1⟩ := g
      rw [Int.zero_add]
      refine ⟨rfl, _, rfl, _, rfl, _, rfl, p, b, many, ms, row, (i : Int), rfl, hS1.same t1, t1.sqT (s1.sqT hR), ok, rok, by omega, by omega, fun H2 t2 => ⟨_, t2 _ _ h1, ?_, (t1.trans t2).mut hD, ?_⟩⟩
      · unfold allF
        rw [List.length_map, List.length_map, List.length_range]
        exact small1000 (by omega)
      · rw [upd_same, all_snoc, List.map_append] <;> rfl
    · obtain ⟨t1, h1⟩ := g
      refine ⟨D, _, rfl, .inl ⟨SqL.of h1, fun l hl => ?_⟩⟩
      exact k l _ ((s1.trans t1).trans (Same.new hl)) upd_same
end
end Law

namespace L2
open PySem PySem.Spec PyProof.Rows
section
variable {X : Cx} {tg : Expr}
/-- range(n), as a value -/
theorem cr_range1 : CallR X (.type "range") (fun vs H Q => ∃ j, vs = [V.int j] ∧ ∀ p, H p = none → Q (.ref p) (upd H p (.rng 0 j))) := by
  intro pins s σ H vs us Q I r h
  obtain ⟨j, rfl, q⟩ := h
  obtain ⟨u1, rfl, rj⟩ := vals1 r
  obtain ⟨u, rfl⟩ := rj
  refine call_range_1 ⟨.ref s.heap.objs.size, upd H s.heap.objs.size (.rng 0 j), I.laid (t' := s.toks + 1 + 1) (fun b o e => Heap.get?_push_of_some _ e) (Nat.le_refl _) ?_, rfl, q _ (I.hok.fresh (Nat.le_refl _))⟩
  exact ⟨s.toks, u, s.toks + 1, Heap.get?_push_size _ rfl⟩
/-- over a range that stands -/
def iRngV (te : TE) : TI := fun σ H R => te σ H fun x H1 => ∃ (a : Addr) (lo hi : Int), x = .ref a ∧ H1 a = some (.rng lo hi) ∧ (-(2 ^ 62) ≤ lo ∧ lo < 2 ^ 62 ∧ -(2 ^ 62) ≤ hi ∧ hi < 2 ^ 62) ∧ R (Itr lo (hi - lo).toNat) H1
theorem pi_rngV {l : Expr} {tl : TE} (hl : PE X l tl) : PI X tg l (iRngV tl) := by
  refine ⟨fun pins s σ H R I h => ?_⟩
  refine thn (hl.run pins s σ H _ I h) fun v s1 ⟨x, H1, I1, r1, q1⟩ => ?_
  obtain ⟨a, lo, hi, e, ha, ⟨h1, h2, h3, h4⟩, q⟩ := q1
  subst e
  cases r1
  obtain ⟨t, u, w, ho⟩ := I1.hok a _ ha
  refine wpAny_pyIter_range ho (small_one h1 h2 h3 h4) ?_
  refine ⟨s1.heap.objs.size, [s1.heap.objs.size], _, _, H1, rfl, I1.kept (t' := s1.toks) fun b o e => Heap.get?_push_of_some _ e, turn_range _ lo (hi - lo).toNat, ?_, fun b hb => ?_, q⟩
  · have e1 : lo + ((0 : Nat) : Int) * 1 = lo := by simp
    have e2 : (((hi - lo).toNat : Nat) : Int) - ((0 : Nat) : Int) = Builtin.Range.rangeSize lo hi 1 := by rw [rangeSize_one]; split <;> omega
    show IsRangeIter _ _ (lo + ((0 : Nat) : Int) * 1) ((((hi - lo).toNat : Nat) : Int) - ((0 : Nat) : Int)) 1
    rw [e1, e2]
    exact Heap.get?_push_size _ rfl
  · have e : b = s1.heap.objs.size := by simpa using hb
    subst e
    exact I1.fpOk (Nat.le_refl _) (I1.hok.fresh (Nat.le_refl _))
end
end L2
namespace Law
open PySem L2
def leadsF (xs e : List Int) : List Int := lotF (e.map fun s => xs.getD s.toNat 0)
section
variable {P : Program} {w : World} {K : PySem.W.Frag} {mg : Str → Option Value} {base : Heap}
def spLotLed (K : PySem.W.Frag) : Sp := fun vs H Q _ => ∃ (la ea : Addr) (xs e : List Int), vs = [.ref la, .ref ea] ∧ SqT K H la (xs.map V.int) ∧ SqT K H ea (e.map V.int) ∧ e.length ≤ 12 ∧ (∀ s ∈ e, 0 ≤ s ∧ s < (xs.length : Nat)) ∧ (∀ x ∈ xs, 0 ≤ x ∧ x < 12) ∧
  ∀ l H', Same H H' → H' l = some (.tup ((leadsF xs e).map V.int)) → Q (.ref l) H'
abbrev nLotLed : List Str := ["leads", "lot", "state"]
theorem scLotLed : FnScope nLotLed ["leads", "lot"] (defScope s_lot_led) := ⟨rfl, rfl, rfl, by decide +kernel, rfl, by decide +kernel, by decide +kernel⟩
theorem ok_lot_led {f : Addr} {fd : FuncData} {fcLotOf : Addr} {fdcLotOf : FuncData} (F : Fun K "lot_led" "lot_led" s_lot_led f fd) (T : NmA mg) (cLotOf : Cl P w K mg base CX0 1 "lot_of" fcLotOf fdcLotOf ["things"] (spLotOf K)) : FnOk P w K mg base CX0 2 f fd ["leads", "lot"] (spLotLed K) := by
  refine F.ok scLotLed (fun vs H Q E h => ?_) (fun cdv A' outer s H vs Q E hr h => ?_)
  · obtain ⟨la, ea, xs, e, rfl, _⟩ := h
    rfl
  · obtain ⟨la, ea, xs, e, rfl, hX, hE, el, ei, xi, k⟩ := h
    have hu := hu_of hr
    refine ⟨_, pss_one (ps_ret (cLotOf.call (hr.mono (by decide)) (pa_cons (pe_lc (own := [("state", 2)]) (g := (gName 2)) (tt := tYes) rfl scLotLed.nd  (pi_tup (pv 1)) (blkOk_by (own := [("state", 2)]) (N := nLotLed) (sc := defScope s_lot_led) (by decide +kernel)) (fun _ _ _ _ _ => (pg_name (i := 2) scLotLed.nd rfl (Or.inl rfl))) (fun _ _ _ _ _ => pts_nil) (fun _ _ _ _ _ => (pe_ix (r := rIxT K) (show IxR _ (rIxT K) from ix_tup) (pv 0) (pv 2) (fun _ _ => rfl)))) pa_nil))), ?_⟩
    refine ⟨_, rfl, ea, rfl, ⟨_, hE⟩, fun D hD => ?_⟩
    refine lc_tup (K := K) (a := ea) (xs := e.map V.int) (fun i H' => Same H H' ∧ H' D = some (.lst (((e.take i).map fun s => xs.getD s.toNat 0).map V.int))) ⟨Same.new hD, upd_same⟩ (fun i H' _ h => h.1.sqT hE) (fun i x H1 hi g => ?_) fun H1 g => ?_
    · obtain ⟨s1, d1⟩ := g
      rw [List.getElem?_map] at hi
      obtain ⟨z, hz, rfl⟩ := Option.map_eq_some_iff.mp hi
      have il := (List.getElem?_eq_some_iff.mp hz).1
      obtain ⟨z0, z1⟩ := ei z (List.mem_of_getElem? hz)
      have za : xs[z.toNat]? = some (xs.getD z.toNat 0) := by
        rw [List.getD_eq_getElem?_getD, List.getElem?_eq_getElem (show z.toNat < xs.length by omega)] <;> rfl
      refine ⟨rfl, _, rfl, _, rfl, la, _, _, _, rfl, rfl, s1.sqT hX, ints_ix z0 za, _, d1, by rw [List.length_map, List.length_map, List.length_take]; exact small1000 (by omega), s1.mut hD, ?_⟩
      rw [upd_same, List.take_add_one, hz, List.map_append, List.map_append] <;> rfl
    · obtain ⟨s1, d1⟩ := g
      rw [List.length_map, List.take_length] at d1
      refine ⟨D, e.map fun s : Int => xs.getD s.toNat 0, rfl, .inl (SqL.of d1), by rw [List.length_map]; omega, fun y hy => ?_, fun l H2 s2 h2 => k l H2 (s1.trans s2) h2⟩
      obtain ⟨s, hs, rfl⟩ := List.mem_map.mp hy
      obtain ⟨z0, z1⟩ := ei s hs
      refine xi _ ?_
      rw [List.getD_eq_getElem?_getD, List.getElem?_eq_getElem (show s.toNat < xs.length by omega)]
      exact List.getElem_mem _
end
end Law

namespace L2
open PySem PySem.Spec PyProof.Rows Law
/-! ### rows grown move by move: one after another (the program), level by level (the law) -/
abbrev Nd := List Int × List Int
/-- the lots that one lot leads to, those not known put behind -/
def exp1 (Ls : List (List Int)) (n : Nd) : Nat → List (List Int) → List (List Int) × List Nd
  | 0, K => (K, [])
  | i + 1, K =>
    let (K1, nw) := exp1 Ls n i K
    let o := leadsF (Ls.getD i []) n.2
    if o ∈ K1 then (K1, nw) else (K1 ++ [o], nw ++ [(n.1 ++ [(i : Int)], o)])
def expA (Ls : List (List Int)) (n : Nd) (K : List (List Int)) : List (List Int) × List Nd := exp1 Ls n Ls.length K
def expL (Ls : List (List Int)) : List Nd → List (List Int) → List (List Int) × List Nd
  | [], K => (K, [])
  | n :: L, K => ((expL Ls L (expA Ls n K).1).1, (expA Ls n K).2 ++ (expL Ls L (expA Ls n K).1).2)
inductive PR (Ls : List (List Int)) : List (List Int) → List Nd → Option (List Int) → Prop
  | nil (K) : PR Ls K [] none
  | hit (K) (n : Nd) (W) : n.2.length = 1 → PR Ls K (n :: W) (some n.1)
  | step (K) (n : Nd) (W) (r) : n.2.length ≠ 1 → PR Ls (expA Ls n K).1 (W ++ (expA Ls n K).2) r → PR Ls K (n :: W) r
inductive LR (Ls : List (List Int)) : List (List Int) → List Nd → Option (List Int) → Prop
  | nil (K) : LR Ls K [] none
  | hit (K) (pre : List Nd) (n : Nd) (post) : (∀ m ∈ pre, m.2.length ≠ 1) → n.2.length = 1 → LR Ls K (pre ++ n :: post) (some n.1)
  | step (K) (L : List Nd) (r) : L ≠ [] → (∀ n ∈ L, n.2.length ≠ 1) → LR Ls (expL Ls L K).1 (expL Ls L K).2 r → LR Ls K L r
theorem PR.run {Ls : List (List Int)} {r : Option (List Int)} : ∀ (L : List Nd) (acc : List Nd) (K : List (List Int)), (∀ n ∈ L, n.2.length ≠ 1) → PR Ls (expL Ls L K).1 (acc ++ (expL Ls L K).2) r → PR Ls K (L ++ acc) r
  | [], acc, K, _, h => by
    have h : PR Ls K (acc ++ []) r := h
    rw [List.append_nil] at h
    exact h
  | n :: L, acc, K, hn, h => by
    refine .step K n (L ++ acc) r (hn n List.mem_cons_self) ?_
    rw [List.append_assoc]
    refine PR.run L (acc ++ (expA Ls n K).2) _ (fun m hm => hn m (List.mem_cons_of_mem _ hm)) ?_
    rw [List.append_assoc]
    exact h
theorem PR.to {Ls : List (List Int)} {n : Nd} : ∀ (pre W : List Nd) (K : List (List Int)), (∀ m ∈ pre, m.2.length ≠ 1) → n.2.length = 1 → PR Ls K (pre ++ n :: W) (some n.1)
  | [], W, K, _, h => .hit K n W h
  | m :: pre, W, K, hm, h => by
    refine .step K m (pre ++ n :: W) _ (hm m List.mem_cons_self) ?_
    rw [List.append_assoc]
    exact PR.to pre (W ++ (expA Ls m K).2) _ (fun q hq => hm q (List.mem_cons_of_mem _ hq)) h
theorem LR.pr {Ls : List (List Int)} {K : List (List Int)} {L : List Nd} {r : Option (List Int)} (h : LR Ls K L r) : PR Ls K L r := by
  induction h with
  | nil K => exact .nil K
  | hit K pre n post h1 h2 => exact PR.to pre post K h1 h2
  | step K L r ne h1 _ ih =>
    have z := PR.run (Ls := Ls) (r := r) L [] K h1 (by rw [List.nil_append]; exact ih)
    rw [List.append_nil] at z
    exact z
theorem PR.one {Ls : List (List Int)} {K : List (List Int)} {W : List Nd} {r q : Option (List Int)} (h : PR Ls K W r) (g : PR Ls K W q) : r = q := by
  induction h with
  | nil K => cases g; rfl
  | hit K n W h1 =>
    cases g with
    | hit => rfl
    | step _ _ _ _ h2 => exact absurd h1 h2
  | step K n W r h1 _ ih =>
    cases g with
    | hit _ _ _ h2 => exact absurd h2 h1
    | step _ _ _ _ _ g2 => exact ih g2
end L2
namespace Law
open PySem L2
section
variable {P : Program} {w : World} {K : PySem.W.Frag} {mg : Str → Option Value} {base : Heap}
abbrev nLawLed : List Str := ["_law_leads_here", "_law_lot", "_law_state"]
theorem scLawLed : FnScope nLawLed ["_law_leads_here", "_law_lot"] (defScope s_law_led) := ⟨rfl, rfl, rfl, by decide +kernel, rfl, by decide +kernel, by decide +kernel⟩
theorem ok_led0 {f : Addr} {fd : FuncData} (F : Fun K "_law_led" "_law_led" s_law_led f fd) (T : NmA mg) : FnOk P w K mg base CX0 1 f fd ["_law_leads_here", "_law_lot"] (spLotLed K) := by
  refine F.ok scLawLed (fun vs H Q E h => ?_) (fun cdv A' outer s H vs Q E hr h => ?_)
  · obtain ⟨la, ea, xs, e, rfl, _⟩ := h
    rfl
  · obtain ⟨la, ea, xs, e, rfl, hX, hE, el, ei, xi, k⟩ := h
    have hu := hu_of hr
    refine ⟨_, pss_one (ps_ret (pe_callTy call_tuple_of (by rfl) T.tuple (by decide +kernel) (pa_cons (pe_callB (cr_sortedSet (by rfl)) (by rfl) T.sorted (by decide +kernel) (pa_cons (pe_callTy (cr_setA (by rfl)) (by rfl) T.set (by decide +kernel) (pa_cons (pe_lc (own := [("_law_state", 2)]) (g := (gName 2)) (tt := tYes) rfl scLawLed.nd  (pi_tup (pv 1)) (blkOk_by (own := [("_law_state", 2)]) (N := nLawLed) (sc := defScope s_law_led) (by decide +kernel)) (fun _ _ _ _ _ => (pg_name (i := 2) scLawLed.nd rfl (Or.inl rfl))) (fun _ _ _ _ _ => pts_nil) (fun _ _ _ _ _ => (pe_ix (r := rIxT K) (show IxR _ (rIxT K) from ix_tup) (pv 0) (pv 2) (fun _ _ => rfl)))) pa_nil)) pa_nil)) pa_nil))), ?_⟩
    refine ⟨_, rfl, ea, rfl, ⟨_, hE⟩, fun D hD => ?_⟩
    refine lc_tup (K := K) (a := ea) (xs := e.map V.int) (fun i H' => Same H H' ∧ H' D = some (.lst (((e.take i).map fun s => xs.getD s.toNat 0).map V.int))) ⟨Same.new hD, upd_same⟩ (fun i H' _ h => h.1.sqT hE) (fun i x H1 hi g => ?_) fun H1 g => ?_
    · obtain ⟨s1, d1⟩ := g
      rw [List.getElem?_map] at hi
      obtain ⟨z, hz, rfl⟩ := Option.map_eq_some_iff.mp hi
      have il := (List.getElem?_eq_some_iff.mp hz).1
      obtain ⟨z0, z1⟩ := ei z (List.mem_of_getElem? hz)
      have za : xs[z.toNat]? = some (xs.getD z.toNat 0) := by
        rw [List.getD_eq_getElem?_getD, List.getElem?_eq_getElem (show z.toNat < xs.length by omega)] <;> rfl
      refine ⟨rfl, _, rfl, _, rfl, la, _, _, _, rfl, rfl, s1.sqT hX, ints_ix z0 za, _, d1, by rw [List.length_map, List.length_map, List.length_take]; exact small1000 (by omega), s1.mut hD, ?_⟩
      rw [upd_same, List.take_add_one, hz, List.map_append, List.map_append] <;> rfl
    · obtain ⟨s1, d1⟩ := g
      rw [List.length_map, List.take_length] at d1
      have ml : (e.map fun s : Int => xs.getD s.toNat 0).length ≤ 12 := by rw [List.length_map]; exact el
      have h12 : In12 (e.map fun s : Int => xs.getD s.toNat 0) := fun y hy => by
        obtain ⟨s, hs, rfl⟩ := List.mem_map.mp hy
        obtain ⟨z0, z1⟩ := ei s hs
        refine xi _ ?_
        rw [List.getD_eq_getElem?_getD, List.getElem?_eq_getElem (show s.toNat < xs.length by omega)]
        exact List.getElem_mem _
      refine ⟨D, e.map fun s : Int => xs.getD s.toNat 0, rfl, .inl (SqL.of d1), by omega, fun q c hq hc => ?_⟩
      refine ⟨q, _, c, rfl, upd_same, by omega, fun ns r p1 p2 p3 hr' => ?_⟩
      refine ⟨r, _, rfl, .inl ⟨SqL.of upd_same, fun l hl => ?_⟩⟩
      refine k l _ (((s1.trans (Same.new hq)).trans (Same.new hr')).trans (Same.new hl)) ?_
      rw [upd_same, lot_eq h12 p1 fun z => by rw [p2 z, decide_eq_true_iff]] <;> rfl
/-- a tuple of n ints below n -/
def spHalved (K : PySem.W.Frag) : Sp := fun vs H Q _ => ∃ (la : Addr) (xs : List Int), vs = [.ref la] ∧ SqT K H la (xs.map V.int) ∧ xs.length ≤ 12 ∧ (∀ x ∈ xs, 0 ≤ x ∧ x < (xs.length : Nat)) ∧
  ∀ (l : Addr) (ys : List Int) (H' : Hp), Same H H' → SqT K H' l (ys.map V.int) → ys.length = xs.length → (∀ y ∈ ys, 0 ≤ y ∧ y < (xs.length : Nat)) → Q (.ref l) H'
abbrev nLawHalved : List Str := ["_law_leads_here", "_law_found", "_law_state", "_law_there"]
theorem scLawHalved : FnScope nLawHalved ["_law_leads_here"] (defScope s_law_halved) := ⟨rfl, rfl, rfl, by decide +kernel, rfl, by decide +kernel, by decide +kernel⟩
theorem ok_halved {f : Addr} {fd : FuncData} (F : Fun K "_law_halved" "_law_halved" s_law_halved f fd) (T : NmA mg) : FnOk P w K mg base CX0 1 f fd ["_law_leads_here"] (spHalved K) := by
  refine F.ok scLawHalved (fun vs H Q E h => ?_) (fun cdv A' outer s H vs Q E hr h => ?_)
  · obtain ⟨la, xs, rfl, _⟩ := h
    rfl
  · obtain ⟨la, xs, rfl, hX, xl, xi, k⟩ := h
    have hu := hu_of hr
    refine ⟨_, pss_cons (ps_set (i := 1) scLawHalved.nd rfl (Or.inl rfl) (pe_lst pa_nil))
      (pss_cons (ps_for PassesOwn.never rfl (pi_range1 (by rfl) T.range (pa_cons (pe_callB call_len_seq (by rfl) T.len PySem.boot_len (pa_cons (pv 0) pa_nil)) pa_nil)) (pg_name (i := 2) scLawHalved.nd rfl (Or.inl rfl))
        (pss_cons (ps_set (i := 3) scLawHalved.nd rfl (Or.inl rfl) (pe_op op_add (pe_op op_mul (pe_op op_fdiv (pe_ix ix_tup (pv 0) (pv 2) (fun _ _ => rfl)) pe_int) pe_int) (pe_op op_mod (pe_callTy call_int1 (by rfl) T.int (by decide +kernel) (pa_cons (pv 2) pa_nil)) pe_int)))
        (pss_one (ps_expr (pe_bm PySem.F.plainAttrs_list PySem.F.slot_list_append PySem.F.type_list_append mt_append (pv 1) (pa_cons (pe_ifExp (pt_cmpR op_lt (pv 3) (pe_callB call_len_seq (by rfl) T.len PySem.boot_len (pa_cons (pv 0) pa_nil)) (nomark _)) (pv 3) (pv 2)) pa_nil))))))
      (pss_one (ps_ret (pe_callTy call_tuple_of (by rfl) T.tuple (by decide +kernel) (pa_cons (pv 1) pa_nil))))), ?_⟩
    refine ⟨by show 0 ≤ sizeLine; decide, fun F hF => ?_⟩
    refine new_step hF fun H1 s1 e1 => ?_
    refine ⟨_, rfl, la, _, rfl, .inr (s1.sqT hX), _, rfl, by rw [List.length_map]; omega, by rw [List.length_map]; omega, ?_⟩
    rw [List.length_map, Int.toNat_natCast]
    refine for_range (lo := 0) (n := xs.length) (fun i σ H' => (Same H H' ∧ ∃ ys : List Int, H' F = some (.lst (ys.map V.int)) ∧ ys.length = i ∧ ∀ y ∈ ys, 0 ≤ y ∧ y < (xs.length : Nat)) ∧ ∃ u v : Option V, σ = [some (.ref la), some (.ref F), u, v]) ⟨⟨s1, [], e1, rfl, fun y hy => absurd hy List.not_mem_nil⟩, none, none, rfl⟩ ?_ ?_
    · rintro i σ H2 hi ⟨⟨s2, ys, f2, l2, b2⟩, u, v, rfl⟩
      rw [Int.zero_add]
      have hX2 := s2.sqT hX
      have za : xs[i]? = some xs[i] := List.getElem?_eq_getElem hi
      obtain ⟨x0, x1⟩ := xi xs[i] (List.getElem_mem hi)
      have zb : atI (xs.map V.int) ((i : Nat) : Int) = some (.int xs[i]) := ints_ix (by omega) (by rw [Int.toNat_natCast]; exact za)
      refine ⟨_, rfl, _, rfl, la, _, _, _, rfl, rfl, hX2, zb, _, _, rfl, rfl, ⟨by decide, by decide⟩, _, _, rfl, rfl, .inr ⟨by decide, by decide⟩, _, rfl, .inl ⟨_, rfl, _, _, rfl, rfl, by show (0 : Int) < 2; decide, _, _, rfl, rfl, ?_⟩⟩
      have t0 : 0 ≤ xs[i] / 2 * 2 + (i : Int) % 2 := by omega
      have put : ∀ y : Int, 0 ≤ y → y < (xs.length : Nat) → ∃ (a : Addr) (acc : List V) (v : V), V.ref F = .ref a ∧ [V.int y] = [v] ∧ H2 a = some (.lst acc) ∧ acc.length < sizeLine ∧ ((Same H (upd H2 a (.lst (acc ++ [v]))) ∧ ∃ ys : List Int, upd H2 a (.lst (acc ++ [v])) F = some (.lst (ys.map V.int)) ∧ ys.length = i + 1 ∧ ∀ y ∈ ys, 0 ≤ y ∧ y < (xs.length : Nat)) ∧ ∃ u v : Option V, [some (.ref la), some (.ref F), some (.int (i : Nat)), some (.int (xs[i] / 2 * 2 + (i : Int) % 2))] = ([some (.ref la), some (.ref F), u, v] : L2.St)) := fun y y0 y1 =>
        ⟨F, ys.map V.int, .int y, rfl, rfl, f2, by rw [List.length_map, l2]; exact small1000 (by omega), ⟨s2.mut hF, ys ++ [y], by rw [upd_same, List.map_append] <;> rfl, by rw [List.length_append, l2] <;> rfl, fun z hz => by
          rcases List.mem_append.mp hz with h | h
          · exact b2 z h
          · rw [List.mem_singleton.mp h]
            exact ⟨y0, y1⟩⟩, _, _, rfl⟩
      refine ⟨_, rfl, .inl ⟨rfl, _, SqL.of f2⟩, _, rfl, _, rfl, la, _, rfl, .inr hX2, _, _, rfl, rfl, _, rfl, ite2 (fun c => ?_) (fun _ => ?_)⟩
      · have c := of_decide_eq_true c
        rw [List.length_map] at c
        exact ⟨_, rfl, put _ t0 c⟩
      · exact ⟨_, rfl, put (i : Nat) (by omega) (by omega)⟩
    · rintro σ H2 ⟨⟨s2, ys, f2, l2, b2⟩, u, v, rfl⟩
      refine ⟨_, rfl, F, _, rfl, .inl ⟨SqL.of f2, fun T hT => ?_⟩⟩
      refine new_step hT fun H3 s3 e3 => ?_
      exact k T ys H3 (s2.trans s3) (SqT.of e3) l2 b2
end
end Law

namespace Law
open PySem L2
def gI (t b : Int) : Int := ((Nat.gcd t.natAbs b.natAbs : Nat) : Int)
theorem gI_pos {t b : Int} (h : 0 < b) : 0 < gI t b := by
  have z : 0 < Nat.gcd t.natAbs b.natAbs := Nat.gcd_pos_of_pos_right _ (by omega)
  unfold gI
  omega
def lowP (t b : Int) : Fr := (t / gI t b, b / gI t b)
theorem gI_le {t b : Int} (hb : 0 < b) : gI t b ≤ b := by
  have z : Nat.gcd t.natAbs b.natAbs ≤ b.natAbs := Nat.gcd_le_right _ (by omega)
  unfold gI
  omega
theorem gI_step {x y : Int} (hx : 0 ≤ x) (hy : 0 < y) : gI y (x % y) = gI x y := by
  obtain ⟨a, rfl⟩ := Int.eq_ofNat_of_zero_le hx
  obtain ⟨c, rfl⟩ := Int.eq_ofNat_of_zero_le (Int.le_of_lt hy)
  unfold gI
  rw [← Int.natCast_emod, Int.natAbs_natCast, Int.natAbs_natCast, Int.natAbs_natCast, Nat.gcd_comm c, ← Nat.gcd_rec, Nat.gcd_comm]
theorem gI_zero {x : Int} (hx : 0 ≤ x) : gI x 0 = x := by
  unfold gI
  rw [show (0 : Int).natAbs = 0 from rfl, Nat.gcd_zero_right]
  omega
section
variable {P : Program} {w : World} {K : PySem.W.Frag} {mg : Str → Option Value} {base : Heap}
def spLowS : Sp := fun vs H Q _ => ∃ (t b : Int), vs = [.int t, .int b] ∧ 0 ≤ t ∧ 0 < b ∧ b < 2 ^ 41 ∧ ∀ p, H p = none → Q (.ref p) (upd H p (.tup [.int (lowP t b).1, .int (lowP t b).2]))
abbrev nLawLow : List Str := ["_law_top", "_law_bottom", "_law_one", "_law_other"]
theorem scLawLow : FnScope nLawLow ["_law_top", "_law_bottom"] (defScope s_law_low) := ⟨rfl, rfl, rfl, by decide +kernel, rfl, by decide +kernel, by decide +kernel⟩
theorem ok_low {f : Addr} {fd : FuncData} (F : Fun K "_law_low" "_law_low" s_law_low f fd) (T : NmA mg) : FnOk P w K mg base CX0 1 f fd ["_law_top", "_law_bottom"] spLowS := by
  refine F.ok scLawLow (fun vs H Q E h => ?_) (fun cdv A' outer s H vs Q E hr h => ?_)
  · obtain ⟨t, b, rfl, _⟩ := h
    rfl
  · obtain ⟨t, b, rfl, ht, hb, hb2, k⟩ := h
    have hu := hu_of hr
    refine ⟨_, pss_cons (ps_par (i := 2) (j := 3) (by rfl) scLawLow.nd rfl rfl (by decide) rfl rfl (pa_cons (pe_callB call_abs (by rfl) T.abs (by decide +kernel) (pa_cons (pv 0) pa_nil)) (pa_cons (pv 1) pa_nil)) (by rfl))
      (pss_cons (ps_while PassesOwn.never (pt_cmpR op_gt (pv 3) pe_int (nomark _))
        (pss_one (ps_par (i := 2) (j := 3) (by rfl) scLawLow.nd rfl rfl (by decide) rfl rfl (pa_cons (pv 3) (pa_cons (pe_op op_mod (pe_callTy call_int1 (by rfl) T.int (by decide +kernel) (pa_cons (pv 2) pa_nil)) (pv 3)) pa_nil)) (by rfl))))
      (pss_one (ps_ret (pe_tup (pa_cons (pe_op op_fdivW (pv 0) (pv 2)) (pa_cons (pe_op op_fdivW (pv 1) (pv 2)) pa_nil)))))), ?_⟩
    have gp : (0 : Int) < gI t b := gI_pos hb
    have gl : gI t b ≤ b := gI_le hb
    refine ⟨_, rfl, t, rfl, _, rfl, _, _, rfl, ?_⟩
    rw [if_neg (show ¬ t < 0 by omega)]
    refine ⟨fun m σ H' => H' = H ∧ ∃ x y : Int, σ = [some (.int t), some (.int b), some (.int x), some (.int y)] ∧ 0 ≤ x ∧ 0 ≤ y ∧ gI x y = gI t b ∧ m = y.toNat, ⟨_, rfl, t, b, rfl, ht, by omega, rfl, rfl⟩, ?_⟩
    rintro m σ H' ⟨rfl, x, y, rfl, hx, hy, e, rfl⟩
    refine ⟨_, rfl, _, _, rfl, rfl, _, rfl, ite2 (fun h1 => ?_) (fun h1 => ?_)⟩
    · have y0 : 0 < y := of_decide_eq_true h1
      refine ⟨fun σ' H1 => H1 = H' ∧ ∃ x' y' : Int, σ' = [some (.int t), some (.int b), some (.int x'), some (.int y')] ∧ 0 ≤ x' ∧ 0 ≤ y' ∧ gI x' y' = gI t b ∧ y'.toNat < y.toNat, ?_, ?_⟩
      · rintro σ' H1 ⟨rfl, x', y', rfl, a1, a2, a3, a4⟩
        exact ⟨_, a4, rfl, x', y', rfl, a1, a2, a3, rfl⟩
      · refine ⟨_, rfl, _, rfl, .inl ⟨_, rfl, _, rfl, _, _, rfl, rfl, y0, _, _, rfl, ?_⟩⟩
        have r0 := Int.emod_nonneg x (show y ≠ 0 by omega)
        have r1 := Int.emod_lt_of_pos x y0
        exact ⟨rfl, y, x % y, rfl, by omega, r0, by rw [gI_step hx y0]; exact e, by omega⟩
    · have y0 : y = 0 := by
        have z : ¬ 0 < y := fun q => h1 (decide_eq_true q)
        omega
      subst y0
      rw [gI_zero hx] at e
      subst e
      refine ⟨_, rfl, _, rfl, _, _, rfl, rfl, wide_div (b := 41) gp (by omega) (by decide) (by decide), _, rfl, _, rfl, _, _, rfl, rfl, wide_div (b := 41) gp (by omega) (by decide) (by decide), ?_⟩
      exact ⟨(by show 2 ≤ sizeLine; decide), fun p hp => k p hp⟩
end
end Law
namespace Law
open PySem L2
section
variable {P : Program} {w : World} {K : PySem.W.Frag} {mg : Str → Option Value} {base : Heap}
def spLeads (K : PySem.W.Frag) : Sp := fun vs H Q _ => ∃ (p : Addr) (n : Nat), vs = [.ref p, .int (n : Nat)] ∧ HandAt H p ∧ 1 ≤ n ∧ n ≤ 12 ∧
  ∀ (l : Addr) (xs : List Int) (H' : Hp), Stp p H H' → SqT K H' l (xs.map V.int) → xs.length = n → (∀ x ∈ xs, 0 ≤ x ∧ x < (n : Nat)) → Q (.ref l) H'
abbrev nLawLeads : List Str := ["_law_hand_here", "_law_many", "_law_kind", "_law_states", "_law_found", "_law_turn", "_law_at", "_law_by", "_law_state"]
theorem scLawLeads : FnScope nLawLeads ["_law_hand_here", "_law_many"] (defScope s_law_leads) := ⟨rfl, rfl, rfl, by decide +kernel, rfl, by decide +kernel, by decide +kernel⟩
theorem ok_leads {f : Addr} {fd : FuncData} {fD : Addr} {fdD : FuncData} (F : Fun K "_law_leads" "_law_leads" s_law_leads f fd) (T : NmA mg) (D : Cl P w K mg base CX0 1 "_law_draw" fD fdD ["_law_hand_here", "_law_many"] spDraw) : FnOk P w K mg base CX0 2 f fd ["_law_hand_here", "_law_many"] (spLeads K) := by
  refine F.ok scLawLeads (fun vs H Q E h => ?_) (fun cdv A' outer s H vs Q E hr h => ?_)
  · obtain ⟨p, n, rfl, _⟩ := h
    rfl
  · obtain ⟨p, n, rfl, hH, n1, n12, k⟩ := h
    have hu := hu_of hr
    refine ⟨_, pss_cons (ps_par (i := 2) (j := 3) (by rfl) scLawLeads.nd rfl rfl (by decide) rfl rfl (pa_cons (D.call (hr.mono (by decide)) (pa_cons (pv 0) (pa_cons pe_int pa_nil))) (pa_cons (pe_listRg (by rfl) (by rfl) T.list (prg_1 (by rfl) T.range (pv 1))) pa_nil)) (by rfl))
      (pss_cons (ps_if (pt_cmpR op_eq (pv 2) pe_int (nomark _))
        (pss_cons (ps_set (i := 4) scLawLeads.nd rfl (Or.inl rfl) (pe_lst pa_nil))
        (pss_cons (ps_for PassesOwn.never rfl (pi_range1 (by rfl) T.range (pa_cons (pv 1) pa_nil)) (pg_name (i := 5) scLawLeads.nd rfl (Or.inl rfl))
          (pss_one (ps_expr (pe_bm PySem.F.plainAttrs_list PySem.F.slot_list_append PySem.F.type_list_append mt_append (pv 4) (pa_cons (pe_bm PySem.F.plainAttrs_list PySem.F.slot_list_pop PySem.F.type_list_pop mt_popAt (pv 3) (pa_cons (D.call (hr.mono (by decide)) (pa_cons (pv 0) (pa_cons (pe_callB call_len_seq (by rfl) T.len PySem.boot_len (pa_cons (pv 3) pa_nil)) pa_nil))) pa_nil)) pa_nil)))))
        (pss_one (ps_ret (pe_callTy call_tuple_of (by rfl) T.tuple (by decide +kernel) (pa_cons (pv 4) pa_nil)))))) pss_nil)
      (pss_cons (ps_if (pt_cmpR op_eq (pv 2) pe_int (nomark _))
        (pss_cons (ps_par (i := 4) (j := 6) (by rfl) scLawLeads.nd rfl rfl (by decide) rfl rfl (pa_cons (pv 3) (pa_cons (D.call (hr.mono (by decide)) (pa_cons (pv 0) (pa_cons (pv 1) pa_nil))) pa_nil)) (by rfl))
        (pss_cons (ps_asg (D.call (hr.mono (by decide)) (pa_cons (pv 0) (pa_cons (pv 1) pa_nil))) (pg_sub (pv 4) (pv 6) set_list))
        (pss_one (ps_ret (pe_callTy call_tuple_of (by rfl) T.tuple (by decide +kernel) (pa_cons (pv 4) pa_nil)))))) pss_nil)
      (pss_cons (ps_if (pt_cmpR op_eq (pv 2) pe_int (nomark _))
        (pss_cons (ps_set (i := 7) scLawLeads.nd rfl (Or.inr rfl) (pe_op op_sub (D.call (hr.mono (by decide)) (pa_cons (pv 0) (pa_cons pe_int pa_nil))) pe_int))
        (pss_one (ps_ret (pe_callTy call_tuple_of (by rfl) T.tuple (by decide +kernel) (pa_cons (pe_lc (own := [("_law_state", 8)]) (g := (gName 8)) (tt := tYes) rfl scLawLeads.nd  (pi_list (pv 3)) (blkOk_by (own := [("_law_state", 8)]) (N := nLawLeads) (sc := defScope s_law_leads) (by decide +kernel)) (fun _ _ _ _ _ => (pg_name (i := 8) scLawLeads.nd rfl (Or.inl rfl))) (fun _ _ _ _ _ => pts_nil) (fun _ _ _ _ _ => (pe_callB (call_min2 rfl) (by rfl) T.min (by decide +kernel) (pa_cons (pe_callB (call_max2 rfl) (by rfl) T.max (by decide +kernel) (pa_cons (pe_op op_add (pv 8) (pv 7)) (pa_cons pe_int pa_nil))) (pa_cons (pe_op op_sub (pv 1) pe_int) pa_nil))))) pa_nil))))) pss_nil)
      (pss_one (ps_ret (pe_callTy call_tuple_of (by rfl) T.tuple (by decide +kernel) (pa_cons (pe_lc (own := [("_law_state", 8)]) (g := (gName 8)) (tt := tYes) rfl scLawLeads.nd  (pi_list (pv 3)) (blkOk_by (own := [("_law_state", 8)]) (N := nLawLeads) (sc := defScope s_law_leads) (by decide +kernel)) (fun _ _ _ _ _ => (pg_name (i := 8) scLawLeads.nd rfl (Or.inl rfl))) (fun _ _ _ _ _ => pts_nil) (fun _ _ _ _ _ => (D.call (hr.mono (by decide)) (pa_cons (pv 0) (pa_cons (pv 1) pa_nil))))) pa_nil))))))), ?_⟩
    refine ⟨_, rfl, p, 4, rfl, by decide, by decide, hH, fun kd H1 _ _ S1 => ?_⟩
    refine ⟨_, rfl, (n : Int), rfl, RgOk.of_le (by decide) (by omega) (by decide) (by omega), fun q hq => ⟨_, _, rfl, ?_⟩⟩
    refine new_step hq fun H2 s2 e2 => ?_
    have S2 := S1.post s2
    have qH : H q = none := S1.free hq
    have nq : q ≠ p := ne_hand S1.hand hq
    have e2 : H2 q = some (.lst ((upto n).map V.int)) := by
      rw [e2]
      unfold rgV upto
      rw [List.map_map, show ((n : Int) - 0).toNat = n by omega]
      refine congrArg (fun z => some (HO.lst z)) (List.map_congr_left fun i _ => ?_)
      show V.int (0 + (i : Nat)) = V.int (i : Int)
      rw [Int.zero_add]
    have uin : ∀ x ∈ upto n, 0 ≤ x ∧ x < (n : Int) := fun x hx => mem_upto.mp hx
    refine ⟨_, rfl, rfl, _, rfl, ?_⟩
    refine ite2 (fun _ => ?_) (fun _ => ?_)
    · refine ⟨by show 0 ≤ sizeLine; decide, fun r hr' => ?_⟩
      have qr : q ≠ r := ne_of_none e2 hr'
      have hrH : H r = none := S2.free hr'
      refine new_step hr' fun H3 s3 e3 => ?_
      have S3 := S2.post s3
      have nr : r ≠ p := ne_hand S2.hand hr'
      refine ⟨_, rfl, (n : Int), rfl, by omega, by omega, ?_⟩
      rw [Int.toNat_natCast]
      refine for_range (lo := 0) (n := n) (fun i σ H' => Stp p H H' ∧ ∃ (ls ws : List Int) (u : Option V), H' q = some (.lst (ls.map V.int)) ∧ H' r = some (.lst (ws.map V.int)) ∧ ls.length + i = n ∧ ws.length = i ∧ (∀ x ∈ ls, 0 ≤ x ∧ x < (n : Int)) ∧ (∀ x ∈ ws, 0 ≤ x ∧ x < (n : Int)) ∧
        σ = [some (.ref p), some (.int (n : Int)), some (.int kd), some (.ref q), some (.ref r), u, none, none, none]) ⟨S3, upto n, [], none, s3 _ _ e2, e3, by rw [upto_len] <;> rfl, rfl, uin, fun x hx => absurd hx List.not_mem_nil, rfl⟩ ?_ ?_
      · rintro i σ H' hi ⟨S4, ls, ws, u, h1, h2, h3, h4, h5, h6, rfl⟩
        refine ⟨_, rfl, .inl ⟨rfl, _, SqL.of h2⟩, _, rfl, .inl ⟨rfl, _, SqL.of h1⟩, _, rfl, _, rfl, q, _, rfl, .inl (SqL.of h1), p, _, rfl, ?_, ?_, S4.hand, fun d2 H5 e0 e1 S5 => ?_⟩
        · rw [List.length_map]
          omega
        · rw [List.length_map]
          omega
        · rw [List.length_map] at e1
          obtain ⟨j, rfl⟩ := Int.eq_ofNat_of_zero_le e0
          have hj : j < ls.length := by omega
          have h1' := S5.keep _ _ nq h1
          have h2' := S5.keep _ _ nr h2
          refine ⟨q, _, (j : Int), j, V.int ls[j], rfl, rfl, h1', by omega, by omega, ?_, ?_, ?_⟩
          · unfold seqIndex?
            rw [if_neg (show ¬ ((j : Int) < 0) by omega), List.length_map]
            simp
            omega
          · rw [List.getElem?_map, List.getElem?_eq_getElem hj] <;> rfl
          · have S6 : Stp p H (upd H5 q (.lst ((ls.map V.int).eraseIdx j))) := (S4.trans S5).mut hH qH
            refine ⟨r, _, _, rfl, rfl, by rw [upd_ne (Ne.symm qr)]; exact h2', by rw [List.length_map, h4]; exact small1000 (by omega), S6.mut hH hrH, ls.eraseIdx j, ws ++ [ls[j]], _, ?_, ?_, ?_, ?_, ?_, ?_, rfl⟩
            · rw [upd_ne qr, upd_same, erase_mapI]
            · rw [upd_same, List.map_append] <;> rfl
            · rw [List.length_eraseIdx, if_pos hj]
              omega
            · rw [List.length_append, h4] <;> rfl
            · exact fun x hx => h5 x (List.mem_of_mem_eraseIdx hx)
            · intro x hx
              rcases List.mem_append.mp hx with h | h
              · exact h6 x h
              · rw [List.mem_singleton.mp h]
                exact h5 _ (List.getElem_mem hj)
      · rintro σ H' ⟨S4, ls, ws, u, h1, h2, h3, h4, h5, h6, rfl⟩
        refine ⟨_, rfl, r, _, rfl, .inl ⟨SqL.of h2, fun T hT => ?_⟩⟩
        refine new_step hT fun H5 s5 e5 => ?_
        exact k T ws H5 (S4.post s5) (SqT.of e5) h4 h6
    refine ⟨_, rfl, rfl, _, rfl, ?_⟩
    refine ite2 (fun _ => ?_) (fun _ => ?_)
    · refine ⟨_, rfl, _, rfl, _, rfl, p, (n : Int), rfl, by omega, by omega, S2.hand, fun a H3 a0 a1 S3 => ⟨_, _, rfl, ?_⟩⟩
      obtain ⟨j, rfl⟩ := Int.eq_ofNat_of_zero_le a0
      refine ⟨_, rfl, _, rfl, p, (n : Int), rfl, by omega, by omega, S3.hand, fun v H4 v0 v1 S4 => ?_⟩
      have q4 := S4.keep _ _ nq (S3.keep _ _ nq e2)
      have S14 := (S2.trans S3).trans S4
      refine ⟨_, rfl, _, rfl, q, _, _, j, rfl, rfl, q4, Evl.ixN_nat (by rw [List.length_map, upto_len]; omega), ?_⟩
      have S5 : Stp p H (upd H4 q (.lst (((upto n).map V.int).set j (.int v)))) := S14.mut hH qH
      refine ⟨_, rfl, q, _, rfl, .inl ⟨SqL.of upd_same, fun T hT => ?_⟩⟩
      refine new_step hT fun H6 s6 e6 => ?_
      rw [← List.map_set] at e6
      refine k T ((upto n).set j v) H6 (S5.post s6) (SqT.of e6) (by rw [List.length_set, upto_len]) fun x hx => ?_
      rcases List.mem_or_eq_of_mem_set hx with h | h
      · exact uin x h
      · rw [h]
        exact ⟨v0, v1⟩
    have fin : ∀ (D : Addr) (H' : Hp) (ws : List Int), Stp p H H' → H' D = some (.lst (ws.map V.int)) → ws.length = n → (∀ x ∈ ws, 0 ≤ x ∧ x < (n : Int)) → ∃ (q : Addr) (ys : List V), [V.ref D] = [.ref q] ∧ ((SqL K H' q ys ∧ ∀ l, H' l = none → Q (.ref l) (upd H' l (.tup ys))) ∨ (SqT K H' q ys ∧ Q (.ref q) H')) := fun D H' ws S h l b =>
      ⟨D, ws.map V.int, rfl, .inl ⟨SqL.of h, fun T hT => k T ws _ (S.post (Same.new hT)) (SqT.of upd_same) l b⟩⟩
    refine ⟨_, rfl, rfl, _, rfl, ?_⟩
    refine ite2 (fun _ => ?_) (fun _ => ?_)
    · refine ⟨_, rfl, p, 3, rfl, by decide, by decide, S2.hand, fun b H3 b0 b1 S3 => ⟨_, _, rfl, rfl, ?_⟩⟩
      have q3 := S3.keep _ _ nq e2
      refine ⟨_, rfl, q, rfl, ⟨_, SqL.of q3⟩, fun D hD => ?_⟩
      refine lc_list (K := K) (a := q) (xs := (upto n).map V.int) (fun i H' => Same H3 H' ∧ ∃ ws : List Int, H' D = some (.lst (ws.map V.int)) ∧ ws.length = i ∧ ∀ x ∈ ws, 0 ≤ x ∧ x < (n : Int)) ⟨Same.new hD, [], upd_same, rfl, fun x hx => absurd hx List.not_mem_nil⟩ (fun i H' _ h => SqL.of (h.1 _ _ q3)) (fun i x H4 hi g => ?_) fun H4 g => ?_
      · obtain ⟨s4, ws, d4, l4, b4⟩ := g
        rw [List.getElem?_map] at hi
        obtain ⟨z, hz, rfl⟩ := Option.map_eq_some_iff.mp hi
        obtain ⟨z0, z1⟩ := uin z (List.mem_of_getElem? hz)
        have il := (List.getElem?_eq_some_iff.mp hz).1
        rw [upto_len] at il
        refine ⟨rfl, _, rfl, _, rfl, _, _, rfl, rfl, _, _, rfl, _, rfl, _, _, rfl, rfl, _, _, rfl, _, d4, by rw [List.length_map, l4]; exact small1000 (by omega), s4.mut hD, ws ++ [_], by rw [upd_same, List.map_append] <;> rfl, by rw [List.length_append, l4] <;> rfl, fun x hx => ?_⟩
        rcases List.mem_append.mp hx with h | h
        · exact b4 x h
        · rw [List.mem_singleton.mp h]
          split <;> split <;> omega
      · obtain ⟨s4, ws, d4, l4, b4⟩ := g
        rw [List.length_map, upto_len] at l4
        exact fin D H4 ws ((S2.trans S3).post s4) d4 l4 b4
    · refine ⟨_, rfl, q, rfl, ⟨_, SqL.of e2⟩, fun D hD => ?_⟩
      have Dp : D ≠ p := ne_hand S2.hand hD
      refine lc_list (K := K) (a := q) (xs := (upto n).map V.int) (fun i H' => Stp p H2 H' ∧ ∃ ws : List Int, H' D = some (.lst (ws.map V.int)) ∧ ws.length = i ∧ ∀ x ∈ ws, 0 ≤ x ∧ x < (n : Int)) ⟨Stp.of S2.hand (Same.new hD), [], upd_same, rfl, fun x hx => absurd hx List.not_mem_nil⟩ (fun i H' _ h => SqL.of (h.1.keep _ _ nq e2)) (fun i x H4 hi g => ?_) fun H4 g => ?_
      · obtain ⟨S4, ws, d4, l4, b4⟩ := g
        have il := (List.getElem?_eq_some_iff.mp hi).1
        rw [List.length_map, upto_len] at il
        refine ⟨rfl, _, rfl, _, rfl, p, (n : Int), rfl, by omega, by omega, S4.hand, fun v H5 v0 v1 S5 => ⟨_, S5.keep _ _ Dp d4, by rw [List.length_map, l4]; exact small1000 (by omega), (S4.trans S5).mut S2.hand hD, ws ++ [v], by rw [upd_same, List.map_append] <;> rfl, by rw [List.length_append, l4] <;> rfl, fun x hx => ?_⟩⟩
        rcases List.mem_append.mp hx with h | h
        · exact b4 x h
        · rw [List.mem_singleton.mp h]
          exact ⟨v0, v1⟩
      · obtain ⟨S4, ws, d4, l4, b4⟩ := g
        rw [List.length_map, upto_len] at l4
        exact fin D H4 ws (S2.trans S4) d4 l4 b4
end
end Law

namespace L2
open PySem PySem.Spec PyProof.Rows Law
/-! ### rows grown: the least of the shortest -/
def cand (Ls : List (List Int)) (n : Nd) (i : Nat) : Nd := (n.1 ++ [(i : Int)], leadsF (Ls.getD i []) n.2)
def addAll : List Nd → List (List Int) → List (List Int) × List Nd
  | [], K => (K, [])
  | c :: C, K => if c.2 ∈ K then addAll C K else ((addAll C (K ++ [c.2])).1, c :: (addAll C (K ++ [c.2])).2)
theorem addAll_app : ∀ (C D : List Nd) (K : List (List Int)), addAll (C ++ D) K = ((addAll D (addAll C K).1).1, (addAll C K).2 ++ (addAll D (addAll C K).1).2)
  | [], _, _ => rfl
  | c :: C, D, K => by
    rw [List.cons_append, addAll, addAll]
    split
    · exact addAll_app C D K
    · rw [addAll_app C D (K ++ [c.2])] <;> rfl
theorem exp1_eq (Ls : List (List Int)) (n : Nd) (K : List (List Int)) : ∀ i, exp1 Ls n i K = addAll ((List.range i).map (cand Ls n)) K
  | 0 => rfl
  | i + 1 => by
    rw [List.range_succ, List.map_append, addAll_app, ← exp1_eq Ls n K i]
    show (if leadsF (Ls.getD i []) n.2 ∈ (exp1 Ls n i K).1 then exp1 Ls n i K else ((exp1 Ls n i K).1 ++ [leadsF (Ls.getD i []) n.2], (exp1 Ls n i K).2 ++ [(n.1 ++ [(i : Int)], leadsF (Ls.getD i []) n.2)])) = _
    rw [List.map_cons, List.map_nil, addAll, addAll, addAll]
    show _ = ((if leadsF (Ls.getD i []) n.2 ∈ (exp1 Ls n i K).1 then _ else _ : List (List Int) × List Nd).1, (exp1 Ls n i K).2 ++ (if leadsF (Ls.getD i []) n.2 ∈ (exp1 Ls n i K).1 then _ else _ : List (List Int) × List Nd).2)
    split
    · rw [List.append_nil]
    · rfl
def candA (Ls : List (List Int)) (n : Nd) : List Nd := (List.range Ls.length).map (cand Ls n)
theorem expL_eq (Ls : List (List Int)) : ∀ (L : List Nd) (K : List (List Int)), expL Ls L K = addAll (L.flatMap (candA Ls)) K
  | [], _ => rfl
  | n :: L, K => by
    rw [List.flatMap_cons, addAll_app, expL, expL_eq Ls L]
    unfold expA candA
    rw [exp1_eq]
theorem addAll_known : ∀ (C : List Nd) (K : List (List Int)), (addAll C K).1 = K ++ (addAll C K).2.map (·.2)
  | [], K => by rw [addAll, List.map_nil, List.append_nil]
  | c :: C, K => by
    rw [addAll]
    split
    · exact addAll_known C K
    · show (addAll C (K ++ [c.2])).1 = K ++ (c :: (addAll C (K ++ [c.2])).2).map (·.2)
      rw [addAll_known C (K ++ [c.2]), List.map_cons, List.append_assoc] <;> rfl
theorem addAll_sub : ∀ (C : List Nd) (K : List (List Int)), (addAll C K).2.Sublist C
  | [], K => by rw [addAll]; exact List.nil_sublist _
  | c :: C, K => by
    rw [addAll]
    split
    · exact (addAll_sub C K).cons _
    · exact (addAll_sub C _).cons_cons _
theorem addAll_hit {R : Nd → Nd → Prop} : ∀ (C : List Nd) (K : List (List Int)), C.Pairwise R → ∀ c ∈ C, c.2 ∈ K ∨ ∃ d ∈ (addAll C K).2, d.2 = c.2 ∧ (d = c ∨ R d c)
  | [], _, _, _, h => absurd h List.not_mem_nil
  | c :: C, K, hp, x, hx => by
    rw [List.pairwise_cons] at hp
    rw [addAll]
    split
    next h =>
      rcases List.mem_cons.mp hx with rfl | hx
      · exact .inl h
      · exact addAll_hit C K hp.2 x hx
    next h =>
      rcases List.mem_cons.mp hx with rfl | hx
      · exact .inr ⟨x, List.mem_cons_self, rfl, .inl rfl⟩
      · rcases addAll_hit C (K ++ [c.2]) hp.2 x hx with z | ⟨d, h1, h2, h3⟩
        · rcases List.mem_append.mp z with z | z
          · exact .inl z
          · exact .inr ⟨c, List.mem_cons_self, (List.mem_singleton.mp z).symm, .inr (hp.1 x hx)⟩
        · exact .inr ⟨d, List.mem_cons_of_mem _ h1, h2, h3⟩
def lexL : List Int → List Int → Prop
  | x :: xs, y :: ys => x < y ∨ (x = y ∧ lexL xs ys)
  | _, _ => False
theorem lexL_irr : ∀ a : List Int, ¬ lexL a a
  | [], h => h
  | x :: xs, h => by
    rcases h with h | ⟨_, h⟩
    · omega
    · exact lexL_irr xs h
theorem lexL_trans : ∀ {a b c : List Int}, lexL a b → lexL b c → lexL a c
  | _ :: _, _ :: _, _ :: _, .inl h, .inl g => .inl (by omega)
  | _ :: _, _ :: _, _ :: _, .inl h, .inr ⟨e, _⟩ => .inl (by omega)
  | _ :: _, _ :: _, _ :: _, .inr ⟨e, _⟩, .inl g => .inl (by omega)
  | _ :: _, _ :: _, _ :: _, .inr ⟨e, h⟩, .inr ⟨f, g⟩ => .inr ⟨by omega, lexL_trans h g⟩
theorem lexL_snoc {i j : Int} : ∀ {a b : List Int}, lexL a b → lexL (a ++ [i]) (b ++ [j])
  | _ :: _, _ :: _, .inl h => .inl h
  | _ :: _, _ :: _, .inr ⟨e, h⟩ => .inr ⟨e, lexL_snoc h⟩
theorem lexL_last {i j : Int} (h : i < j) : ∀ a : List Int, lexL (a ++ [i]) (a ++ [j])
  | [] => .inl h
  | _ :: a => .inr ⟨rfl, lexL_last h a⟩
def leL (a b : List Int) : Prop := a = b ∨ lexL a b
theorem leL_trans {a b c : List Int} (h : leL a b) (g : leL b c) : leL a c := by
  rcases h with rfl | h
  · exact g
  · rcases g with rfl | g
    · exact .inr h
    · exact .inr (lexL_trans h g)
theorem leL_anti {a b : List Int} (h : leL a b) (g : leL b a) : a = b := by
  rcases h with h | h
  · exact h
  · rcases g with g | g
    · exact g.symm
    · exact absurd (lexL_trans h g) (lexL_irr a)
theorem leL_snoc {a b : List Int} (i : Int) (h : leL a b) : leL (a ++ [i]) (b ++ [i]) := by
  rcases h with rfl | h
  · exact .inl rfl
  · exact .inr (lexL_snoc h)
/-- the lot behind a row -/
def rch (Ls : List (List Int)) (lot row : List Int) : List Int := row.foldl (fun l i => leadsF (Ls.getD i.toNat []) l) lot
theorem rch_app (Ls : List (List Int)) (lot a b : List Int) : rch Ls lot (a ++ b) = rch Ls (rch Ls lot a) b := by
  unfold rch
  rw [List.foldl_append]
theorem rch_snoc (Ls : List (List Int)) (lot a : List Int) (i : Nat) : rch Ls lot (a ++ [(i : Int)]) = leadsF (Ls.getD i []) (rch Ls lot a) := by
  rw [rch_app]
  show leadsF (Ls.getD ((i : Int).toNat) []) _ = _
  rw [Int.toNat_natCast]
def RwOk (m : Nat) (row : List Int) : Prop := ∀ r ∈ row, 0 ≤ r ∧ r < (m : Int)
theorem RwOk.app {m : Nat} {a b : List Int} (h : RwOk m a) (g : RwOk m b) : RwOk m (a ++ b) := fun r hr => by
  rcases List.mem_append.mp hr with z | z
  · exact h r z
  · exact g r z
theorem RwOk.left {m : Nat} {a b : List Int} (h : RwOk m (a ++ b)) : RwOk m a := fun r hr => h r (List.mem_append_left _ hr)
theorem RwOk.right {m : Nat} {a b : List Int} (h : RwOk m (a ++ b)) : RwOk m b := fun r hr => h r (List.mem_append_right _ hr)
structure Lv (Ls : List (List Int)) (start : List Int) (d : Nat) (K : List (List Int)) (L : List Nd) : Prop where
  rows : ∀ n ∈ L, n.1.length = d ∧ RwOk Ls.length n.1 ∧ rch Ls start n.1 = n.2
  asc : L.Pairwise fun a b => lexL a.1 b.1
  known : ∀ o ∈ K, ∃ p, RwOk Ls.length p ∧ p.length ≤ d ∧ rch Ls start p = o
  cov : ∀ p, RwOk Ls.length p → p.length = d → (∃ q, RwOk Ls.length q ∧ q.length < d ∧ rch Ls start q = rch Ls start p) ∨ ∃ n ∈ L, n.2 = rch Ls start p ∧ leL n.1 p
  no : ∀ p, RwOk Ls.length p → p.length < d → (rch Ls start p).length ≠ 1
theorem Lv.start (Ls : List (List Int)) (start : List Int) : Lv Ls start 0 [start] [([], start)] where
  rows n hn := by
    rw [List.mem_singleton.mp hn]
    exact ⟨rfl, (fun r hr => absurd hr List.not_mem_nil), rfl⟩
  asc := List.pairwise_singleton _ _
  known o ho := ⟨[], (fun r hr => absurd hr List.not_mem_nil), Nat.le_refl _, (List.mem_singleton.mp ho).symm⟩
  cov p _ h := .inr ⟨_, List.mem_singleton_self _, by rw [List.eq_nil_of_length_eq_zero h] <;> rfl, .inl (List.eq_nil_of_length_eq_zero h).symm⟩
  no p _ h := absurd h (Nat.not_lt_zero _)
theorem snoc_of {a : List Int} {d : Nat} (h : a.length = d + 1) : ∃ b i, a = b ++ [i] ∧ b.length = d := by
  have ne : a ≠ [] := fun e => by rw [e] at h; cases h
  exact ⟨a.dropLast, a.getLast ne, (List.dropLast_concat_getLast ne).symm, by rw [List.length_dropLast]; omega⟩
theorem cands_asc {Ls : List (List Int)} {L : List Nd} (h : L.Pairwise fun a b => lexL a.1 b.1) : (L.flatMap (candA Ls)).Pairwise fun a b => lexL a.1 b.1 := by
  rw [List.pairwise_flatMap]
  refine ⟨fun n _ => ?_, h.imp fun {a b} hab x hx y hy => ?_⟩
  · unfold candA
    rw [List.pairwise_map]
    exact List.pairwise_lt_range.imp fun {i j} hij => lexL_last (by omega) n.1
  · obtain ⟨i, _, rfl⟩ := List.mem_map.mp hx
    obtain ⟨j, _, rfl⟩ := List.mem_map.mp hy
    exact lexL_snoc hab
theorem cand_mem {Ls : List (List Int)} {L : List Nd} {c : Nd} (h : c ∈ L.flatMap (candA Ls)) : ∃ n ∈ L, ∃ i, i < Ls.length ∧ c = cand Ls n i := by
  obtain ⟨n, hn, hc⟩ := List.mem_flatMap.mp h
  obtain ⟨i, hi, rfl⟩ := List.mem_map.mp hc
  exact ⟨n, hn, i, List.mem_range.mp hi, rfl⟩
theorem Lv.step {Ls : List (List Int)} {start : List Int} {d : Nat} {K : List (List Int)} {L : List Nd} (h : Lv Ls start d K L) (hn : ∀ n ∈ L, n.2.length ≠ 1) : Lv Ls start (d + 1) (expL Ls L K).1 (expL Ls L K).2 := by
  rw [expL_eq]
  have hr : ∀ n ∈ (addAll (L.flatMap (candA Ls)) K).2, n.1.length = d + 1 ∧ RwOk Ls.length n.1 ∧ rch Ls start n.1 = n.2 := fun n hn => by
    obtain ⟨x, hx, i, hi, rfl⟩ := cand_mem ((addAll_sub _ K).mem hn)
    obtain ⟨e1, e2, e3⟩ := h.rows x hx
    refine ⟨by show (x.1 ++ [(i : Int)]).length = _; rw [List.length_append, e1] <;> rfl, e2.app fun r hr => ?_, ?_⟩
    · rw [List.mem_singleton.mp hr]
      omega
    · show rch Ls start (x.1 ++ [(i : Int)]) = _
      rw [rch_snoc, e3] <;> rfl
  have ca := cands_asc (Ls := Ls) h.asc
  refine ⟨hr, ca.sublist (addAll_sub _ K), fun o ho => ?_, fun p hp hl => ?_, fun p hp hl => ?_⟩
  · rw [addAll_known] at ho
    rcases List.mem_append.mp ho with z | z
    · obtain ⟨q, a1, a2, a3⟩ := h.known o z
      exact ⟨q, a1, by omega, a3⟩
    · obtain ⟨n, hn, rfl⟩ := List.mem_map.mp z
      obtain ⟨e1, e2, e3⟩ := hr n hn
      exact ⟨n.1, e2, by omega, e3⟩
  · obtain ⟨p0, i, rfl, hl0⟩ := snoc_of hl
    have hi := hp i (List.mem_append_right _ (List.mem_singleton_self i))
    obtain ⟨j, rfl⟩ := Int.eq_ofNat_of_zero_le hi.1
    have oj : RwOk Ls.length [(j : Int)] := hp.right
    rcases h.cov p0 hp.left hl0 with ⟨q, a1, a2, a3⟩ | ⟨n, n1, n2, n3⟩
    · exact .inl ⟨q ++ [(j : Int)], a1.app oj, by rw [List.length_append]; show q.length + 1 < _; omega, by rw [rch_snoc, rch_snoc, a3]⟩
    · have cm : cand Ls n j ∈ L.flatMap (candA Ls) := List.mem_flatMap.mpr ⟨n, n1, List.mem_map.mpr ⟨j, List.mem_range.mpr (by omega), rfl⟩⟩
      have ce : (cand Ls n j).2 = rch Ls start (p0 ++ [(j : Int)]) := by
        rw [rch_snoc, ← n2] <;> rfl
      rcases addAll_hit _ K ca _ cm with z | ⟨c, c1, c2, c3⟩
      · obtain ⟨q, a1, a2, a3⟩ := h.known _ z
        exact .inl ⟨q, a1, by omega, by rw [a3, ce]⟩
      · refine .inr ⟨c, c1, by rw [c2, ce], ?_⟩
        have z : leL c.1 (n.1 ++ [(j : Int)]) := by
          rcases c3 with rfl | c3
          · exact .inl rfl
          · exact .inr c3
        exact leL_trans z (leL_snoc _ n3)
  · by_cases e : p.length < d
    · exact h.no p hp e
    · rcases h.cov p hp (by omega) with ⟨q, a1, a2, a3⟩ | ⟨n, n1, n2, _⟩
      · rw [← a3]
        exact h.no q a1 a2
      · rw [← n2]
        exact hn n n1
/-- what the search tells -/
def Best (Ls : List (List Int)) (start : List Int) : Option (List Int) → Prop
  | some r => RwOk Ls.length r ∧ (rch Ls start r).length = 1 ∧ ∀ p, RwOk Ls.length p → (rch Ls start p).length = 1 → r.length < p.length ∨ (r.length = p.length ∧ leL r p)
  | none => ∀ p, RwOk Ls.length p → (rch Ls start p).length ≠ 1
theorem Lv.ended {Ls : List (List Int)} {start : List Int} {d : Nat} {K : List (List Int)} (h : Lv Ls start d K []) : ∀ (k : Nat) (p : List Int), p.length ≤ k → RwOk Ls.length p → (rch Ls start p).length ≠ 1
  | 0, p, hk, hp => by
    by_cases e : p.length < d
    · exact h.no p hp e
    · rcases h.cov p hp (by omega) with ⟨q, a1, a2, a3⟩ | ⟨n, n1, _⟩
      · rw [← a3]
        exact h.no q a1 a2
      · exact absurd n1 List.not_mem_nil
  | k + 1, p, hk, hp => by
    by_cases e : p.length < d
    · exact h.no p hp e
    · have ep : p = p.take d ++ p.drop d := (List.take_append_drop d p).symm
      have hp' : RwOk Ls.length (p.take d ++ p.drop d) := by rw [← ep]; exact hp
      rcases h.cov (p.take d) hp'.left (by rw [List.length_take]; omega) with ⟨q, a1, a2, a3⟩ | ⟨n, n1, _⟩
      · rw [ep, rch_app, ← a3, ← rch_app]
        exact h.ended k (q ++ p.drop d) (by rw [List.length_append, List.length_drop]; omega) (a1.app hp'.right)
      · exact absurd n1 List.not_mem_nil
theorem LR.best {Ls : List (List Int)} {start : List Int} {K : List (List Int)} {L : List Nd} {r : Option (List Int)} (h : LR Ls K L r) : ∀ d, Lv Ls start d K L → Best Ls start r := by
  induction h with
  | nil K => exact fun d g p hp => g.ended p.length p (Nat.le_refl _) hp
  | hit K pre n post h1 h2 =>
    intro d g
    have hn : n ∈ pre ++ n :: post := List.mem_append_right _ List.mem_cons_self
    obtain ⟨e1, e2, e3⟩ := g.rows n hn
    refine ⟨e2, by rw [e3]; exact h2, fun p hp hs => ?_⟩
    by_cases c : p.length < d
    · exact absurd hs (g.no p hp c)
    · by_cases c2 : p.length = d
      · refine .inr ⟨by omega, ?_⟩
        rcases g.cov p hp c2 with ⟨q, a1, a2, a3⟩ | ⟨m, m1, m2, m3⟩
        · rw [← a3] at hs
          exact absurd hs (g.no q a1 a2)
        · refine leL_trans ?_ m3
          rcases List.mem_append.mp m1 with z | z
          · rw [← m2] at hs
            exact absurd hs (h1 m z)
          · rcases List.mem_cons.mp z with rfl | z
            · exact .inl rfl
            · have q := g.asc
              rw [List.pairwise_append, List.pairwise_cons] at q
              exact .inr (q.2.1.1 m z)
      · exact .inl (by omega)
  | step K L r ne h1 _ ih => exact fun d g => ih (d + 1) (g.step h1)
theorem Best.one {Ls : List (List Int)} {start : List Int} {r q : Option (List Int)} (h : Best Ls start r) (g : Best Ls start q) : r = q := by
  cases r with
  | none =>
    cases q with
    | none => rfl
    | some b => exact absurd g.2.1 (h b g.1)
  | some a =>
    cases q with
    | none => exact absurd h.2.1 (g a h.1)
    | some b =>
      rcases h.2.2 b g.1 g.2.1 with x | ⟨x, y⟩ <;> rcases g.2.2 a h.1 h.2.1 with u | ⟨u, v⟩
      · omega
      · omega
      · omega
      · rw [leL_anti y v]
end L2
namespace L2
open PySem PySem.Spec PyProof.Rows Law
/-! ### states led; lots of them -/
def stepS (xs : List Int) (s : Int) : Int := xs.getD s.toNat 0
def goS (Ls : List (List Int)) (row : List Int) (s : Int) : Int := row.foldl (fun s i => stepS (Ls.getD i.toNat []) s) s
theorem goS_app (Ls : List (List Int)) (a b : List Int) (s : Int) : goS Ls (a ++ b) s = goS Ls b (goS Ls a s) := by
  unfold goS
  rw [List.foldl_append]
/-- leads of n states -/
def LdOk (n : Nat) (xs : List Int) : Prop := xs.length = n ∧ ∀ x ∈ xs, 0 ≤ x ∧ x < (n : Int)
def LsOk (n : Nat) (Ls : List (List Int)) : Prop := ∀ xs ∈ Ls, LdOk n xs
def InN (n : Nat) (e : List Int) : Prop := ∀ x ∈ e, 0 ≤ x ∧ x < (n : Int)
theorem InN.in12 {n : Nat} {e : List Int} (h : InN n e) (hn : n ≤ 12) : In12 e := fun x hx => by
  have := h x hx
  omega
theorem stepS_in {n : Nat} {xs : List Int} (h : LdOk n xs) {s : Int} (hs : 0 ≤ s ∧ s < (n : Int)) : 0 ≤ stepS xs s ∧ stepS xs s < (n : Int) := by
  unfold stepS
  rw [List.getD_eq_getElem?_getD, List.getElem?_eq_getElem (show s.toNat < xs.length by rw [h.1]; omega)]
  exact h.2 _ (List.getElem_mem _)
theorem getL {n : Nat} {Ls : List (List Int)} (h : LsOk n Ls) {i : Nat} (hi : i < Ls.length) : LdOk n (Ls.getD i []) := by
  rw [List.getD_eq_getElem?_getD, List.getElem?_eq_getElem hi]
  exact h _ (List.getElem_mem hi)
theorem goS_in {n : Nat} {Ls : List (List Int)} (h : LsOk n Ls) : ∀ (row : List Int) (s : Int), RwOk Ls.length row → 0 ≤ s ∧ s < (n : Int) → 0 ≤ goS Ls row s ∧ goS Ls row s < (n : Int)
  | [], _, _, hs => hs
  | r :: row, s, hr, hs => by
    have z := hr r List.mem_cons_self
    exact goS_in h row _ (fun x hx => hr x (List.mem_cons_of_mem _ hx)) (stepS_in (getL h (by omega)) hs)
theorem mapN {n : Nat} {Ls : List (List Int)} (h : LsOk n Ls) {row e : List Int} (hr : RwOk Ls.length row) (he : InN n e) : InN n (e.map (goS Ls row)) := fun x hx => by
  obtain ⟨s, hs, rfl⟩ := List.mem_map.mp hx
  exact goS_in h row s hr (he s hs)
theorem lotN {n : Nat} {e : List Int} (hn : n ≤ 12) (he : InN n e) : InN n (lotF e) := fun x hx => he x ((lot_mem (he.in12 hn) x).mp hx)
theorem leads_lot {n : Nat} {xs e : List Int} (hn : n ≤ 12) (h : LdOk n xs) (he : InN n e) : leadsF xs (lotF e) = lotF (e.map (stepS xs)) := by
  have a : InN n (e.map (stepS xs)) := fun x hx => by
    obtain ⟨s, hs, rfl⟩ := List.mem_map.mp hx
    exact stepS_in h (he s hs)
  have b : InN n ((lotF e).map (stepS xs)) := fun x hx => by
    obtain ⟨s, hs, rfl⟩ := List.mem_map.mp hx
    exact stepS_in h (lotN hn he s hs)
  refine lot_congr (b.in12 hn) (a.in12 hn) fun k => ?_
  show k ∈ (lotF e).map (stepS xs) ↔ _
  rw [List.mem_map, List.mem_map]
  constructor
  · rintro ⟨s, hs, e1⟩
    exact ⟨s, (lot_mem (he.in12 hn) s).mp hs, e1⟩
  · rintro ⟨s, hs, e1⟩
    exact ⟨s, (lot_mem (he.in12 hn) s).mpr hs, e1⟩
theorem rch_map {n : Nat} {Ls : List (List Int)} (hn : n ≤ 12) (h : LsOk n Ls) : ∀ (row e : List Int), RwOk Ls.length row → InN n e → rch Ls (lotF e) row = lotF (e.map (goS Ls row))
  | [], e, _, _ => by
    show lotF e = lotF (e.map fun s => s)
    rw [List.map_id']
  | r :: row, e, hr, he => by
    have z := hr r List.mem_cons_self
    have ok := getL h (show r.toNat < Ls.length by omega)
    show rch Ls (leadsF (Ls.getD r.toNat []) (lotF e)) row = _
    rw [leads_lot hn ok he, rch_map hn h row _ (fun x hx => hr x (List.mem_cons_of_mem _ hx)) fun x hx => by
      obtain ⟨s, hs, rfl⟩ := List.mem_map.mp hx
      exact stepS_in ok (he s hs), List.map_map] <;> rfl
theorem lot_id {n : Nat} {e : List Int} (hn : n ≤ 12) (he : InN n e) (ha : e.Pairwise (· < ·)) : lotF e = e := (lot_eq (he.in12 hn) ha fun _ => Iff.rfl).symm
theorem lot_le {n : Nat} {e : List Int} (hn : n ≤ 12) (he : InN n e) : (lotF e).length ≤ e.length :=
  List.Nodup.length_le_of_subset ((lot_asc e).imp fun h => by omega) fun x hx => (lot_mem (he.in12 hn) x).mp hx
/-! ### couples -/
def couplesF (n : Nat) : List (List Int) := (upto n).flatMap fun a => ((upto n).filter fun b => decide (a < b)).map fun b => [a, b]
theorem couple_mem {n : Nat} {c : List Int} : c ∈ couplesF n ↔ ∃ a b : Int, c = [a, b] ∧ 0 ≤ a ∧ a < b ∧ b < (n : Int) := by
  unfold couplesF
  rw [List.mem_flatMap]
  constructor
  · rintro ⟨a, ha, hc⟩
    obtain ⟨b, hb, rfl⟩ := List.mem_map.mp hc
    rw [List.mem_filter, decide_eq_true_iff] at hb
    have := mem_upto.mp ha
    have := mem_upto.mp hb.1
    exact ⟨a, b, rfl, by omega, hb.2, by omega⟩
  · rintro ⟨a, b, rfl, h1, h2, h3⟩
    exact ⟨a, mem_upto.mpr ⟨h1, by omega⟩, List.mem_map.mpr ⟨b, List.mem_filter.mpr ⟨mem_upto.mpr ⟨by omega, h3⟩, decide_eq_true h2⟩, rfl⟩⟩
theorem couples_nodup (n : Nat) : (couplesF n).Nodup := by
  unfold couplesF List.Nodup
  rw [List.pairwise_flatMap]
  refine ⟨fun a _ => ?_, (upto_asc n).imp fun {a b} h x hx y hy e => ?_⟩
  · rw [List.pairwise_map]
    refine ((upto_asc n).filter _).imp fun {b c} h e => ?_
    cases e
    omega
  · obtain ⟨_, _, rfl⟩ := List.mem_map.mp hx
    obtain ⟨_, _, rfl⟩ := List.mem_map.mp hy
    cases e
    omega
/-- no row leads it to one -/
def Aprt (Ls : List (List Int)) (c : List Int) : Prop := ∀ p, RwOk Ls.length p → (rch Ls c p).length ≠ 1
theorem couple_lot {n : Nat} (hn : n ≤ 12) {c : List Int} (h : c ∈ couplesF n) : InN n c ∧ lotF c = c ∧ c.length = 2 ∧ c.Pairwise (· < ·) := by
  obtain ⟨a, b, rfl, h1, h2, h3⟩ := couple_mem.mp h
  have i : InN n [a, b] := fun x hx => by
    rcases List.mem_cons.mp hx with rfl | hx
    · omega
    · rw [List.mem_singleton.mp hx]
      omega
  have p : [a, b].Pairwise (· < ·) := by simpa using h2
  exact ⟨i, lot_id hn i p, rfl, p⟩
/-- a couple led by a move: to one, or to a couple -/
theorem couple_led {n : Nat} (hn : n ≤ 12) {xs : List Int} (hx : LdOk n xs) {c : List Int} (h : c ∈ couplesF n) : (leadsF xs c).length = 1 ∨ leadsF xs c ∈ couplesF n := by
  obtain ⟨a, b, rfl, h1, h2, h3⟩ := couple_mem.mp h
  have sa := stepS_in hx (s := a) ⟨h1, by omega⟩
  have sb := stepS_in hx (s := b) ⟨by omega, h3⟩
  have e : leadsF xs [a, b] = lotF [stepS xs a, stepS xs b] := rfl
  have i : InN n [stepS xs a, stepS xs b] := fun x hx => by
    rcases List.mem_cons.mp hx with rfl | hx
    · exact sa
    · rw [List.mem_singleton.mp hx]
      exact sb
  rw [e]
  rcases Int.lt_trichotomy (stepS xs a) (stepS xs b) with z | z | z
  · right
    have p : [stepS xs a, stepS xs b].Pairwise (· < ·) := by simpa using z
    rw [lot_id hn i p]
    exact couple_mem.mpr ⟨_, _, rfl, sa.1, z, sb.2⟩
  · left
    have p : [stepS xs b].Pairwise (· < ·) := by simp
    rw [← lot_eq (ns := [stepS xs b]) (i.in12 hn) p fun k => by rw [z]; simp] <;> rfl
  · right
    have p : [stepS xs b, stepS xs a].Pairwise (· < ·) := by simpa using z
    rw [← lot_eq (ns := [stepS xs b, stepS xs a]) (i.in12 hn) p fun k => by simp [or_comm]]
    exact couple_mem.mpr ⟨_, _, rfl, sb.1, z, sa.2⟩
theorem couple_one {n : Nat} (hn : n ≤ 12) {xs : List Int} (hx : LdOk n xs) {a b : Int} (h : [a, b] ∈ couplesF n) : (leadsF xs [a, b]).length = 1 ↔ stepS xs a = stepS xs b := by
  obtain ⟨a', b', e, h1, h2, h3⟩ := couple_mem.mp h
  cases e
  have sa := stepS_in hx (s := a) ⟨h1, by omega⟩
  have sb := stepS_in hx (s := b) ⟨by omega, h3⟩
  have i : InN n [stepS xs a, stepS xs b] := fun x hx => by
    rcases List.mem_cons.mp hx with rfl | hx
    · exact sa
    · rw [List.mem_singleton.mp hx]
      exact sb
  constructor
  · intro z
    obtain ⟨k, _, hk, _⟩ := lot_one (e := [stepS xs a, stepS xs b]) (i.in12 hn) z
    rw [hk _ List.mem_cons_self, hk (stepS xs b) (by simp)]
  · intro z
    have p : [stepS xs b].Pairwise (· < ·) := by simp
    show (lotF [stepS xs a, stepS xs b]).length = 1
    rw [← lot_eq (ns := [stepS xs b]) (i.in12 hn) p fun k => by rw [z]; simp] <;> rfl
theorem Aprt.led {Ls : List (List Int)} {c : List Int} (h : Aprt Ls c) {i : Nat} (hi : i < Ls.length) : Aprt Ls (leadsF (Ls.getD i []) c) := fun p hp => by
  have z := h ((i : Int) :: p) fun r hr => by
    rcases List.mem_cons.mp hr with rfl | hr
    · omega
    · exact hp r hr
  have e : rch Ls c ((i : Int) :: p) = rch Ls (leadsF (Ls.getD i []) c) p := by
    show rch Ls (leadsF (Ls.getD ((i : Int).toNat) []) c) p = _
    rw [Int.toNat_natCast]
  rw [e] at z
  exact z
theorem single_led {n : Nat} (hn : n ≤ 12) {Ls : List (List Int)} (h : LsOk n Ls) {p e : List Int} (hp : RwOk Ls.length p) (he : InN n e) (ha : lotF e = e) (h1 : e.length = 1) : (rch Ls e p).length = 1 := by
  rw [← ha, rch_map hn h p e hp he]
  match e, h1 with
  | [x], _ =>
    have i : InN n [goS Ls p x] := mapN (e := [x]) h hp he
    show (lotF [goS Ls p x]).length = 1
    rw [lot_id hn i (by simp)] <;> rfl
/-- a lot of couples that is kept: all are apart -/
theorem kept_apart {n : Nat} (hn : n ≤ 12) {Ls : List (List Int)} {left : List (List Int)} (hc : ∀ c ∈ left, c ∈ couplesF n) (hk : ∀ c ∈ left, ∀ xs ∈ Ls, leadsF xs c ∈ left) : ∀ (p c : List Int), c ∈ left → RwOk Ls.length p → (rch Ls c p).length ≠ 1
  | [], c, hm, _ => by
    show c.length ≠ 1
    rw [(couple_lot hn (hc c hm)).2.2.1]
    decide
  | r :: p, c, hm, hp => by
    have z := hp r List.mem_cons_self
    refine kept_apart hn hc hk p _ (hk c hm (Ls.getD r.toNat []) ?_) fun x hx => hp x (List.mem_cons_of_mem _ hx)
    rw [List.getD_eq_getElem?_getD, List.getElem?_eq_getElem (show r.toNat < Ls.length by omega)]
    exact List.getElem_mem _
open Classical in
noncomputable def apartF (Ls : List (List Int)) (n : Nat) : List (List Int) := (couplesF n).filter fun c => decide (Aprt Ls c)
open Classical in
theorem apart_mem {Ls : List (List Int)} {n : Nat} {c : List Int} : c ∈ apartF Ls n ↔ c ∈ couplesF n ∧ Aprt Ls c := by
  unfold apartF
  rw [List.mem_filter, decide_eq_true_iff]
theorem apart_kept {n : Nat} (hn : n ≤ 12) {Ls : List (List Int)} (h : LsOk n Ls) {c xs : List Int} (hc : c ∈ apartF Ls n) (hx : xs ∈ Ls) : leadsF xs c ∈ apartF Ls n := by
  obtain ⟨i, hi, rfl⟩ := List.getElem_of_mem hx
  obtain ⟨c1, c2⟩ := apart_mem.mp hc
  have e : Ls.getD i [] = Ls[i] := by rw [List.getD_eq_getElem?_getD, List.getElem?_eq_getElem hi] <;> rfl
  have z := c2.led hi
  rw [e] at z
  refine apart_mem.mpr ⟨?_, z⟩
  rcases couple_led hn (h _ hx) c1 with q | q
  · exact absurd q (z [] fun r hr => absurd hr List.not_mem_nil)
  · exact q
open Classical in
theorem filter_apart {Ls : List (List Int)} {n : Nat} {q : List Int → Bool} (h : ∀ c ∈ couplesF n, (q c = true ↔ Aprt Ls c)) : (couplesF n).filter q = apartF Ls n := by
  unfold apartF
  refine List.filter_congr fun c hc => ?_
  have z := h c hc
  by_cases a : Aprt Ls c
  · rw [z.mpr a, decide_eq_true a]
  · rw [decide_eq_false a]
    cases hq : q c with
    | true => exact absurd (z.mp hq) a
    | false => rfl
/-- all couples are met: a lot is led to one -/
theorem meet_all {n : Nat} (hn : n ≤ 12) {Ls : List (List Int)} (h : LsOk n Ls) (hm : ∀ c ∈ couplesF n, ¬ Aprt Ls c) : ∀ (k : Nat) (e : List Int), e.length ≤ k + 1 → 0 < e.length → InN n e → e.Pairwise (· < ·) → ∃ p, RwOk Ls.length p ∧ (rch Ls e p).length = 1
  | 0, e, hk, h0, _, _ => ⟨[], fun r hr => absurd hr List.not_mem_nil, by show e.length = 1; omega⟩
  | k + 1, e, hk, h0, he, ha => by
    match e, h0 with
    | [x], _ => exact ⟨[], fun r hr => absurd hr List.not_mem_nil, rfl⟩
    | a :: b :: t, _ =>
      have ab : a < b := (List.pairwise_cons.mp ha).1 b List.mem_cons_self
      have i1 := he a List.mem_cons_self
      have i2 := he b (by simp)
      have cm : [a, b] ∈ couplesF n := couple_mem.mpr ⟨a, b, rfl, i1.1, ab, i2.2⟩
      have na := hm _ cm
      unfold Aprt at na
      have : ∃ p, RwOk Ls.length p ∧ (rch Ls [a, b] p).length = 1 := Classical.byContradiction fun z => na fun p hp e => z ⟨p, hp, e⟩
      obtain ⟨p, hp, e1⟩ := this
      obtain ⟨c1, c2, c3, c4⟩ := couple_lot hn cm
      rw [← c2, rch_map hn h p _ hp c1] at e1
      obtain ⟨z, _, ez, _⟩ := lot_one ((mapN h hp c1).in12 hn) e1
      have eab : goS Ls p a = goS Ls p b := by
        rw [ez (goS Ls p a) (by simp), ez (goS Ls p b) (by simp)]
      have le : rch Ls (a :: b :: t) p = lotF ((b :: t).map (goS Ls p)) := by
        have hb : InN n (b :: t) := fun x hx => he x (List.mem_cons_of_mem _ hx)
        rw [← lot_id hn he ha, rch_map hn h p _ hp he]
        refine lot_congr ((mapN h hp he).in12 hn) ((mapN h hp hb).in12 hn) fun k => ?_
        rw [List.map_cons, List.mem_cons, eab]
        constructor
        · rintro (rfl | z)
          · exact List.mem_map.mpr ⟨b, List.mem_cons_self, rfl⟩
          · exact z
        · exact .inr
      have hb : InN n ((b :: t).map (goS Ls p)) := mapN h hp fun x hx => he x (List.mem_cons_of_mem _ hx)
      have l1 := lot_le hn hb
      rw [List.length_map] at l1
      have l0 : 0 < (lotF ((b :: t).map (goS Ls p))).length := List.length_pos_of_mem ((lot_mem (hb.in12 hn) (goS Ls p b)).mpr (List.mem_map.mpr ⟨b, List.mem_cons_self, rfl⟩))
      obtain ⟨q, hq, e2⟩ := meet_all hn h hm k _ (by rw [List.length_cons] at hk; omega) l0 (lotN hn hb) (lot_asc _)
      exact ⟨p ++ q, hp.app hq, by rw [rch_app, le]; exact e2⟩
theorem upto_in (n : Nat) : InN n (upto n) := fun x hx => mem_upto.mp hx
/-- THE THIRD STEP -/
theorem none_iff {n : Nat} (hn : n ≤ 12) (h1 : 1 ≤ n) {Ls : List (List Int)} (h : LsOk n Ls) {r : Option (List Int)} (b : Best Ls (upto n) r) : r = none ↔ apartF Ls n ≠ [] := by
  constructor
  · rintro rfl e
    have hm : ∀ c ∈ couplesF n, ¬ Aprt Ls c := fun c hc ha => by
      have := apart_mem.mpr ⟨hc, ha⟩
      rw [e] at this
      exact List.not_mem_nil this
    obtain ⟨p, hp, e1⟩ := meet_all hn h hm n (upto n) (by rw [upto_len]; omega) (by rw [upto_len]; omega) (upto_in n) (upto_asc n)
    exact b p hp e1
  · intro ne
    cases r with
    | none => rfl
    | some p =>
      exfalso
      obtain ⟨c, hc⟩ := List.exists_mem_of_ne_nil _ ne
      obtain ⟨c1, c2⟩ := apart_mem.mp hc
      obtain ⟨b1, b2, _⟩ := b
      refine c2 p b1 ?_
      obtain ⟨i, l, _, _⟩ := couple_lot hn c1
      rw [← l, rch_map hn h p c b1 i]
      rw [← lot_id hn (upto_in n) (upto_asc n), rch_map hn h p _ b1 (upto_in n)] at b2
      obtain ⟨z, _, ez, _⟩ := lot_one ((mapN h b1 (upto_in n)).in12 hn) b2
      have al : ∀ x ∈ c.map (goS Ls p), x = z := fun x hx => by
        obtain ⟨s, hs, rfl⟩ := List.mem_map.mp hx
        exact ez _ (List.mem_map.mpr ⟨s, mem_upto.mpr (i s hs), rfl⟩)
      obtain ⟨a, b, rfl, _⟩ := couple_mem.mp c1
      have zi := mapN h b1 i
      have z0 : z ∈ ([a, b].map (goS Ls p)) := by
        have := al (goS Ls p a) (by simp)
        rw [← this]
        simp
      rw [← lot_eq (ns := [z]) (zi.in12 hn) (by simp) fun k => ?_]
      · rfl
      · rw [List.mem_singleton]
        exact ⟨fun e => by rw [e]; exact z0, al k⟩
end L2
namespace L2
open PySem PySem.Spec PyProof.Rows Law
def AllIn {α : Type} (R : V → α → Prop) (vs : List V) (l : List α) : Prop := vs.length = l.length ∧ ∀ (i : Nat) (v : V), vs[i]? = some v → ∃ x, l[i]? = some x ∧ R v x
theorem AllIn.mono {α : Type} {R R' : V → α → Prop} {vs : List V} {l : List α} (h : AllIn R vs l) (f : ∀ v x, R v x → R' v x) : AllIn R' vs l := ⟨h.1, fun i v hv => by
  obtain ⟨x, h1, h2⟩ := h.2 i v hv
  exact ⟨x, h1, f _ _ h2⟩⟩
theorem snoc_getA {α : Type} {xs : List α} {y v : α} {i : Nat} (h : (xs ++ [y])[i]? = some v) : (i < xs.length ∧ xs[i]? = some v) ∨ (i = xs.length ∧ y = v) := by
  by_cases hi : i < xs.length
  · rw [List.getElem?_append_left hi] at h
    exact .inl ⟨hi, h⟩
  · rw [List.getElem?_append_right (by omega)] at h
    have : i - xs.length = 0 := by
      cases e : i - xs.length with
      | zero => rfl
      | succ n => rw [e] at h; simp at h
    rw [this] at h
    exact .inr ⟨by omega, Option.some.inj h⟩
theorem AllIn.snoc {α : Type} {R : V → α → Prop} {vs : List V} {l : List α} {v : V} {x : α} (h : AllIn R vs l) (hv : R v x) : AllIn R (vs ++ [v]) (l ++ [x]) := by
  refine ⟨by rw [List.length_append, List.length_append, h.1] <;> rfl, fun i u hu => ?_⟩
  rcases snoc_getA hu with ⟨hi, e⟩ | ⟨hi, e⟩
  · obtain ⟨y, h1, h2⟩ := h.2 i u e
    exact ⟨y, by rw [List.getElem?_append_left (by rw [← h.1]; exact hi)]; exact h1, h2⟩
  · subst e
    refine ⟨x, ?_, hv⟩
    rw [List.getElem?_append_right (by rw [hi, h.1]; exact Nat.le_refl _), hi, h.1, Nat.sub_self]
    rfl
theorem AllIn.nil {α : Type} {R : V → α → Prop} : AllIn R [] [] := ⟨rfl, fun i v hv => by simp at hv⟩
theorem AllIn.drop {α : Type} {R : V → α → Prop} {vs : List V} {l : List α} (n : Nat) (h : AllIn R vs l) : AllIn R (vs.drop n) (l.drop n) := ⟨by rw [List.length_drop, List.length_drop, h.1], fun i v hv => by
  rw [List.getElem?_drop] at hv
  obtain ⟨x, h1, h2⟩ := h.2 _ v hv
  exact ⟨x, by rw [List.getElem?_drop]; exact h1, h2⟩⟩
theorem AllIn.take {α : Type} {R : V → α → Prop} {vs : List V} {l : List α} (n : Nat) (h : AllIn R vs l) : AllIn R (vs.take n) (l.take n) := ⟨by rw [List.length_take, List.length_take, h.1], fun i v hv => by
  rw [List.getElem?_take] at hv
  split at hv
  · rename_i c
    obtain ⟨x, h1, h2⟩ := h.2 _ v hv
    exact ⟨x, by rw [List.getElem?_take, if_pos c]; exact h1, h2⟩
  · cases hv⟩
theorem sqT_updL {K : PySem.W.Frag} {H : Hp} {a D : Addr} {acc xs : List V} {o : HO} (hD : H D = some (.lst acc)) (h : SqT K H a xs) : SqT K (upd H D o) a xs := by
  rcases h with (z | ⟨q, z⟩) | z
  · refine .inl (.inl ?_)
    rw [upd_ne (ne_of z hD (by intro y; cases y))]
    exact z
  · refine .inl (.inr ⟨q, ?_⟩)
    rw [upd_ne (ne_of z hD (by intro y; cases y))]
    exact z
  · exact .inr z
def RowAt (K : PySem.W.Frag) (H : Hp) (v : V) (l : List Int) : Prop := ∃ a, v = .ref a ∧ SqT K H a (l.map V.int)
theorem RowAt.same {K : PySem.W.Frag} {H H' : Hp} {v : V} {l : List Int} (s : Same H H') (h : RowAt K H v l) : RowAt K H' v l := by
  obtain ⟨a, h1, h2⟩ := h
  exact ⟨a, h1, s.sqT h2⟩
theorem RowAt.upd {K : PySem.W.Frag} {H : Hp} {D : Addr} {acc : List V} {o : HO} {v : V} {l : List Int} (hD : H D = some (.lst acc)) (h : RowAt K H v l) : RowAt K (upd H D o) v l := by
  obtain ⟨a, h1, h2⟩ := h
  exact ⟨a, h1, sqT_updL hD h2⟩
def RowsAt (K : PySem.W.Frag) (H : Hp) (a : Addr) (t : List (List Int)) : Prop := ∃ vs, SqT K H a vs ∧ AllIn (RowAt K H) vs t
theorem RowsAt.same {K : PySem.W.Frag} {H H' : Hp} {a : Addr} {t : List (List Int)} (s : Same H H') (h : RowsAt K H a t) : RowsAt K H' a t := by
  obtain ⟨vs, h1, h2⟩ := h
  exact ⟨vs, s.sqT h1, h2.mono fun _ _ => RowAt.same s⟩
theorem RowsAt.upd {K : PySem.W.Frag} {H : Hp} {D : Addr} {acc : List V} {o : HO} {a : Addr} {t : List (List Int)} (hD : H D = some (.lst acc)) (h : RowsAt K H a t) : RowsAt K (upd H D o) a t := by
  obtain ⟨vs, h1, h2⟩ := h
  exact ⟨vs, sqT_updL hD h1, h2.mono fun _ _ => RowAt.upd hD⟩
def rInDT (K : PySem.W.Frag) : R2 := fun x y H Q => ∃ d ds, Dp K H x d ∧ Dp K H y (.tuple ds) ∧ SeqAt.shaped d = true ∧ SeqAt.shaped (.tuple ds) = true ∧ Q (.bl (ds.any fun z => PyData.eqv z d)) H
theorem lay_tup {ds : List PyData} (h : PyData.canLayAll0 ds = true ∧ PyData.depthAll ds ≤ 10) : (PyData.tuple ds).canLay0 = true ∧ (PyData.tuple ds).depth ≤ 11 := by
  rw [PyData.canLay0, PyData.depth]
  exact ⟨h.1, by omega⟩
theorem op_inDT {X : Cx} (hu : X.A.units + 65 < cLine) : OpR X (compareOp .In) (rInDT X.K) := by
  intro pins s σ H x y v u Q I rx ry h
  obtain ⟨d, ds, hd, he, sd, se, q⟩ := h
  obtain ⟨as, r1⟩ := Dp.reads I d x v hd rx
  obtain ⟨bs, r2⟩ := Dp.reads I (.tuple ds) y u he ry
  exact SeqAt.in_tuple_reads r2 r1 (SeqAt.canLay_of_shaped se) (SeqAt.canLay_of_shaped sd) (room_in_shaped sd hu) ⟨.bl _, H, I, rfl, q⟩
theorem dp_all {α : Type} {K : PySem.W.Frag} {H : Hp} {R : V → α → Prop} {g : α → PyData} (hg : ∀ v x, R v x → Dp K H v (g x)) : ∀ {vs : List V} {l : List α}, AllIn R vs l → DpAll K H vs (l.map g)
  | [], [], _ => .nil
  | [], _ :: _, h => absurd h.1 (by simp)
  | _ :: _, [], h => absurd h.1 (by simp)
  | v :: vs, m :: ms, h => by
    obtain ⟨m', e, hm⟩ := h.2 0 v rfl
    cases e
    exact .cons (hg _ _ hm) (dp_all hg ⟨by simpa using h.1, fun i x hx => h.2 (i + 1) x (by simpa using hx)⟩)
theorem dp_row {K : PySem.W.Frag} {H : Hp} {v : V} {l : List Int} (h : RowAt K H v l) : Dp K H v (tupD l) := by
  obtain ⟨a, rfl, h2⟩ := h
  exact .tup h2 (dp_ints _)
theorem any_tup (cs : List (List Int)) (c : List Int) : ((cs.map tupD).any fun z => PyData.eqv z (tupD c)) = decide (c ∈ cs) := by
  induction cs with
  | nil => rfl
  | cons d cs ih =>
    rw [List.map_cons, List.any_cons, ih, eqv_tupD]
    by_cases h : d = c
    · subst h
      rw [decide_eq_true rfl, decide_eq_true List.mem_cons_self] <;> rfl
    · rw [decide_eq_false h, Bool.false_or]
      refine decide_eq_decide.mpr ⟨List.mem_cons_of_mem _, fun z => ?_⟩
      rcases List.mem_cons.mp z with z | z
      · exact absurd z.symm h
      · exact z
theorem sh_tup (c : List Int) : SeqAt.shaped (tupD c) = true := shaped_of (lay_tupD c) (by decide)
theorem sh_lst (cs : List (List Int)) : SeqAt.shaped (.list (cs.map tupD)) = true := by
  refine shaped_of (n := 2) ?_ (by decide)
  obtain ⟨h1, h2⟩ := lay_all tupD 1 lay_tupD cs
  rw [PyData.canLay0, PyData.depth]
  exact ⟨h1, by omega⟩
theorem sh_ttt (cs : List (List Int)) : SeqAt.shaped (.tuple (cs.map tupD)) = true := by
  refine shaped_of (n := 2) ?_ (by decide)
  obtain ⟨h1, h2⟩ := lay_all tupD 1 lay_tupD cs
  rw [PyData.canLay0, PyData.depth]
  exact ⟨h1, by omega⟩
/-- any loop: the body by what comes behind it -/
theorem lpG {J : It} {n : Nat} {G : Hp → Prop} {Y : Nat → Hp → V → Hp → Prop} (w : Walk J n G Y) {B : (Hp → Prop) → V → Hp → Prop} {H0 : Hp} {Qd : Hp → Prop} (Pv : Nat → Hp → Prop) (h0 : Pv 0 H0) (hG : ∀ i H, i ≤ n → Pv i H → G H)
    (hs : ∀ i x H H', i < n → Pv i H → Y i H x H' → B (Pv (i + 1)) x H') (hd : ∀ H, Pv n H → Qd H) :
    ∃ W : Nat → Nat → Hp → Prop, (∃ m, W 0 m H0) ∧ ∀ i m H, W i m H → (J.stop i H ∧ Qd H) ∨ (J.go i H ∧ ∃ Nx : Hp → Prop, (∀ H', Nx H' → ∃ m', m' < m ∧ W (i + 1) m' H') ∧ ∀ x H', J.yld i H x H' → B Nx x H') := by
  refine ⟨fun i m H => m = n - i ∧ i ≤ n ∧ Pv i H, ⟨n, rfl, Nat.zero_le _, h0⟩, ?_⟩
  rintro i m H ⟨rfl, hi, p⟩
  have q := hG i H hi p
  by_cases c : i < n
  · exact .inr ⟨w.goes i H c q, Pv (i + 1), fun H' p' => ⟨n - (i + 1), by omega, rfl, c, p'⟩, fun x H' y => hs i x H H' c p (w.yields i H x H' c q y)⟩
  · obtain rfl : i = n := by omega
    exact .inl ⟨w.stops H q, hd H p⟩
end L2
namespace Law
open PySem L2
theorem units65 {k : Nat} {A : Around} (r : Room k A) : A.units + 65 < cLine := by have := r.un; omega
def keptB (Ls : List (List Int)) (cs : List (List Int)) : Bool := cs.all fun c => Ls.all fun xs => decide (leadsF xs c ∈ cs)
def rowB (Ls cs : List (List Int)) (c : List Int) : List Bool := Ls.map fun xs => decide (leadsF xs c ∈ cs)
def flagsB (Ls cs ds : List (List Int)) : List Bool := ds.flatMap (rowB Ls cs)
theorem flagsB_all (Ls cs : List (List Int)) : ∀ ds : List (List Int), (flagsB Ls cs ds).all id = ds.all fun c => Ls.all fun xs => decide (leadsF xs c ∈ cs)
  | [] => rfl
  | c :: ds => by
    show ((rowB Ls cs c) ++ flagsB Ls cs ds).all id = _
    rw [List.all_append, List.all_cons, flagsB_all Ls cs ds]
    unfold rowB
    rw [List.all_map] <;> rfl
theorem flagsB_len (Ls cs : List (List Int)) : ∀ ds : List (List Int), (flagsB Ls cs ds).length = ds.length * Ls.length
  | [] => by rw [List.length_nil, Nat.zero_mul] <;> rfl
  | c :: ds => by
    show ((rowB Ls cs c) ++ flagsB Ls cs ds).length = _
    rw [List.length_append, flagsB_len Ls cs ds, List.length_cons, Nat.add_mul, Nat.one_mul, Nat.add_comm]
    unfold rowB
    rw [List.length_map]
theorem flagsB_snoc (Ls cs ds : List (List Int)) (c : List Int) : flagsB Ls cs (ds ++ [c]) = flagsB Ls cs ds ++ rowB Ls cs c := by
  unfold flagsB
  rw [List.flatMap_append, List.flatMap_cons, List.flatMap_nil, List.append_nil]
/-- couples of states: two of them -/
def CoOk (n : Nat) (cs : List (List Int)) : Prop := cs.length ≤ 200 ∧ ∀ c ∈ cs, c.length = 2 ∧ InN n c
def LsOf (ms : List Mv) : List (List Int) := ms.map (·.2)
section
variable {P : Program} {w : World} {K : PySem.W.Frag} {mg : Str → Option Value} {base : Heap}
def spKeptL (K : PySem.W.Frag) (C : Addr) : Sp := fun vs H Q _ => ∃ (q ca : Addr) (many : Nat) (ms : List Mv) (ws : List V) (cs : List (List Int)), vs = [.ref q, .ref ca] ∧ SysAt K C H q many ms ∧ many ≤ 12 ∧ ms.length ≤ 24 ∧ (∀ m ∈ ms, MvOk many m) ∧ SqL K H ca ws ∧ AllIn (RowAt K H) ws cs ∧ CoOk many cs ∧ ∀ H', Same H H' → Q (.bl (keptB (LsOf ms) cs)) H'
abbrev nIsKept : List Str := ["system", "couples", "couple", "_", "leads"]
theorem scIsKept : FnScope nIsKept ["system", "couples"] (defScope s_is_kept) := ⟨rfl, rfl, rfl, by decide +kernel, rfl, by decide +kernel, by decide +kernel⟩
theorem ok_keptL {f : Addr} {fd : FuncData} {C fcLotLed : Addr} {fdcLotLed : FuncData} (F : Fun K "is_kept" "is_kept" s_is_kept f fd) (T : NmA mg) (S : SysT K mg C) (cLotLed : Cl P w K mg base CX0 2 "lot_led" fcLotLed fdcLotLed ["leads", "lot"] (spLotLed K)) : FnOk P w K mg base CX0 3 f fd ["system", "couples"] (spKeptL K C) := by
  refine F.ok scIsKept (fun vs H Q E h => ?_) (fun cdv A' outer s H vs Q E hr h => ?_)
  · obtain ⟨q, ca, many, ms, ws, cs, rfl, _⟩ := h
    rfl
  · obtain ⟨q, ca, many, ms, ws, cs, rfl, hM, m12, ml, mo, hC, hA, ⟨cl, co⟩, k⟩ := h
    have hu := hu_of hr
    refine ⟨_, pss_one (ps_ret (pe_callB (cr_all rfl) (by rfl) T.all (by decide +kernel) (pa_cons (pe_lc2 (own := [("couple", 2), ("_", 3), ("leads", 4)]) (vs1 := [3, 4]) (g := (gName 2)) (g1 := (gTup K 2 (gCons (gName 3) (gCons (gName 4) gNil)))) (tt := tYes) (tt1 := tYes) rfl scIsKept.nd  (pi_list (pv 1)) (blkOk_by (own := [("couple", 2), ("_", 3), ("leads", 4)]) (N := nIsKept) (sc := defScope s_is_kept) (by decide +kernel)) (by decide) (fun _ _ _ _ _ => (pg_name (i := 2) scIsKept.nd rfl (Or.inl rfl))) (fun _ _ _ _ _ => pts_nil) (fun _ _ _ _ _ => (show PI _ _ _ (iTup K _) from pi_tup (show PE _ _ (tFld K (tVar 0) "moves") from pe_fld (pv 0) rfl))) (fun _ _ _ _ _ => (pg_tup (by rfl) (pgs_cons (pg_name (i := 3) scIsKept.nd rfl (Or.inl rfl)) (pgs_cons (pg_name (i := 4) scIsKept.nd rfl (Or.inl rfl)) pgs_nil)))) (fun _ _ _ _ _ => pts_nil) (fun _ _ _ _ _ => (pe_cmpR (r := rInD K) (show OpR _ (compareOp .In) (rInD K) from op_inD (units65 hr)) (cLotLed.call (hr.mono (by decide)) (pa_cons (pv 4) (pa_cons (pv 2) pa_nil))) (pv 1) (by rfl)))) pa_nil))), ?_⟩
    obtain ⟨dx, mv, hp, us, hV, hU⟩ := id hM
    refine ⟨_, rfl, ca, rfl, ⟨_, hC⟩, fun D hD => ?_⟩
    refine lpG (walk_list (K := K) (a := ca) (xs := ws)) (fun i H' => Same H H' ∧ H' D = some (.lst ((flagsB (LsOf ms) cs (cs.take i)).map V.bl))) ⟨Same.new hD, upd_same⟩ (fun i H' _ h => h.1.seq hC) (fun i x H1 H1' hi g y => ?_) fun H1 g => ?_
    · obtain ⟨rfl, hx⟩ := y
      obtain ⟨s1, d1⟩ := g
      obtain ⟨c, hc, a, rfl, ha⟩ := hA.2 i x hx
      obtain ⟨c2, cN⟩ := co c (List.mem_of_getElem? hc)
      refine ⟨rfl, _, rfl, q, C, dx, _, _, rfl, s1 _ _ hp, S.cl, S.nM, sysF_moves _ _, mv, rfl, ⟨_, s1.sqT hV⟩, ?_⟩
      refine lpG (walk_tup (K := K) (a := mv) (xs := us)) (fun j H' => Same H H' ∧ H' D = some (.lst ((flagsB (LsOf ms) cs (cs.take i) ++ (rowB (LsOf ms) cs c).take j).map V.bl))) ⟨s1, by rw [List.take_zero, List.append_nil]; exact d1⟩ (fun j H' _ h => h.1.sqT hV) (fun j z H2 H2' hj g y => ?_) fun H2 g => ?_
      · obtain ⟨rfl, hz⟩ := y
        obtain ⟨s2, d2⟩ := g
        obtain ⟨m, hm, aa, sa, la, rfl, h3, h4, h5⟩ := hU.2 j z hz
        obtain ⟨_, _, _, m1, m2⟩ := mo m (List.mem_of_getElem? hm)
        have jl := (List.getElem?_eq_some_iff.mp hm).1
        refine ⟨aa, _, rfl, s2.sqT h3, rfl, _, _, rfl, _, _, rfl, rfl, ?_⟩
        refine ⟨rfl, _, rfl, _, rfl, la, a, m.2, c, rfl, s2.sqT h5, s2.sqT ha, by omega, fun s hs => by rw [m1]; exact cN s hs, fun s hs => by have := m2 s hs; omega, fun l H3 s3 e3 => ?_⟩
        refine ⟨_, rfl, tupD (leadsF m.2 c), cs.map tupD, .tup (SqT.of e3) (dp_ints _), .lst (s3.seq (s2.seq hC)) (dp_all (g := tupD) (R := RowAt K H3) (fun _ _ => dp_row) (hA.mono fun _ _ => RowAt.same (s2.trans s3))), sh_tup _, sh_lst _, ?_⟩
        refine ⟨_, s3 _ _ d2, ?_, (s2.trans s3).mut hD, ?_⟩
        · rw [List.length_map, List.length_append, flagsB_len, List.length_take, List.length_take, sizeLine_eq]
          unfold LsOf rowB
          rw [List.length_map, List.length_map]
          have : min i cs.length * ms.length ≤ 200 * 24 := Nat.mul_le_mul (by omega) ml
          omega
        · rw [upd_same, any_tup, List.take_add_one (i := j)]
          have e : (rowB (LsOf ms) cs c)[j]? = some (decide (leadsF m.2 c ∈ cs)) := by
            unfold rowB LsOf
            rw [List.getElem?_map, List.getElem?_map, hm] <;> rfl
          rw [e, ← List.append_assoc, List.map_append (l₂ := (some (decide (leadsF m.2 c ∈ cs))).toList)] <;> rfl
      · obtain ⟨s2, d2⟩ := g
        refine ⟨s2, ?_⟩
        rw [d2, List.take_of_length_le (l := rowB (LsOf ms) cs c) (by unfold rowB LsOf; rw [List.length_map, List.length_map, hU.1]; exact Nat.le_refl _), List.take_add_one, hc, ← flagsB_snoc] <;> rfl
    · obtain ⟨s1, d1⟩ := g
      rw [hA.1, List.take_length] at d1
      refine ⟨D, _, rfl, SqL.of d1, ?_⟩
      rw [flagsB_all]
      exact k H1 s1
end
end Law

namespace Law
open PySem L2
section
variable {P : Program} {w : World} {K : PySem.W.Frag} {mg : Str → Option Value} {base : Heap}
def spKeptT (K : PySem.W.Frag) (C : Addr) : Sp := fun vs H Q _ => ∃ (q ca : Addr) (many : Nat) (ms : List Mv) (ws : List V) (cs : List (List Int)), vs = [.ref q, .ref ca] ∧ SysAt K C H q many ms ∧ many ≤ 12 ∧ ms.length ≤ 24 ∧ (∀ m ∈ ms, MvOk many m) ∧ SqT K H ca ws ∧ AllIn (RowAt K H) ws cs ∧ CoOk many cs ∧ ∀ H', Same H H' → Q (.bl (keptB (LsOf ms) cs)) H'
abbrev nIsKeptT : List Str := ["system", "couples", "couple", "_", "leads"]
theorem scIsKeptT : FnScope nIsKeptT ["system", "couples"] (defScope s_is_kept) := ⟨rfl, rfl, rfl, by decide +kernel, rfl, by decide +kernel, by decide +kernel⟩
theorem ok_keptT {f : Addr} {fd : FuncData} {C fcLotLed : Addr} {fdcLotLed : FuncData} (F : Fun K "is_kept" "is_kept" s_is_kept f fd) (T : NmA mg) (S : SysT K mg C) (cLotLed : Cl P w K mg base CX0 2 "lot_led" fcLotLed fdcLotLed ["leads", "lot"] (spLotLed K)) : FnOk P w K mg base CX0 3 f fd ["system", "couples"] (spKeptT K C) := by
  refine F.ok scIsKeptT (fun vs H Q E h => ?_) (fun cdv A' outer s H vs Q E hr h => ?_)
  · obtain ⟨q, ca, many, ms, ws, cs, rfl, _⟩ := h
    rfl
  · obtain ⟨q, ca, many, ms, ws, cs, rfl, hM, m12, ml, mo, hC, hA, ⟨cl, co⟩, k⟩ := h
    have hu := hu_of hr
    refine ⟨_, pss_one (ps_ret (pe_callB (cr_all rfl) (by rfl) T.all (by decide +kernel) (pa_cons (pe_lc2 (own := [("couple", 2), ("_", 3), ("leads", 4)]) (vs1 := [3, 4]) (g := (gName 2)) (g1 := (gTup K 2 (gCons (gName 3) (gCons (gName 4) gNil)))) (tt := tYes) (tt1 := tYes) rfl scIsKeptT.nd  (pi_tup (pv 1)) (blkOk_by (own := [("couple", 2), ("_", 3), ("leads", 4)]) (N := nIsKeptT) (sc := defScope s_is_kept) (by decide +kernel)) (by decide) (fun _ _ _ _ _ => (pg_name (i := 2) scIsKeptT.nd rfl (Or.inl rfl))) (fun _ _ _ _ _ => pts_nil) (fun _ _ _ _ _ => (show PI _ _ _ (iTup K _) from pi_tup (show PE _ _ (tFld K (tVar 0) "moves") from pe_fld (pv 0) rfl))) (fun _ _ _ _ _ => (pg_tup (by rfl) (pgs_cons (pg_name (i := 3) scIsKeptT.nd rfl (Or.inl rfl)) (pgs_cons (pg_name (i := 4) scIsKeptT.nd rfl (Or.inl rfl)) pgs_nil)))) (fun _ _ _ _ _ => pts_nil) (fun _ _ _ _ _ => (pe_cmpR (r := rInDT K) (show OpR _ (compareOp .In) (rInDT K) from op_inDT (units65 hr)) (cLotLed.call (hr.mono (by decide)) (pa_cons (pv 4) (pa_cons (pv 2) pa_nil))) (pv 1) (by rfl)))) pa_nil))), ?_⟩
    obtain ⟨dx, mv, hp, us, hV, hU⟩ := id hM
    refine ⟨_, rfl, ca, rfl, ⟨_, hC⟩, fun D hD => ?_⟩
    refine lpG (walk_tup (K := K) (a := ca) (xs := ws)) (fun i H' => Same H H' ∧ H' D = some (.lst ((flagsB (LsOf ms) cs (cs.take i)).map V.bl))) ⟨Same.new hD, upd_same⟩ (fun i H' _ h => h.1.sqT hC) (fun i x H1 H1' hi g y => ?_) fun H1 g => ?_
    · obtain ⟨rfl, hx⟩ := y
      obtain ⟨s1, d1⟩ := g
      obtain ⟨c, hc, a, rfl, ha⟩ := hA.2 i x hx
      obtain ⟨c2, cN⟩ := co c (List.mem_of_getElem? hc)
      refine ⟨rfl, _, rfl, q, C, dx, _, _, rfl, s1 _ _ hp, S.cl, S.nM, sysF_moves _ _, mv, rfl, ⟨_, s1.sqT hV⟩, ?_⟩
      refine lpG (walk_tup (K := K) (a := mv) (xs := us)) (fun j H' => Same H H' ∧ H' D = some (.lst ((flagsB (LsOf ms) cs (cs.take i) ++ (rowB (LsOf ms) cs c).take j).map V.bl))) ⟨s1, by rw [List.take_zero, List.append_nil]; exact d1⟩ (fun j H' _ h => h.1.sqT hV) (fun j z H2 H2' hj g y => ?_) fun H2 g => ?_
      · obtain ⟨rfl, hz⟩ := y
        obtain ⟨s2, d2⟩ := g
        obtain ⟨m, hm, aa, sa, la, rfl, h3, h4, h5⟩ := hU.2 j z hz
        obtain ⟨_, _, _, m1, m2⟩ := mo m (List.mem_of_getElem? hm)
        have jl := (List.getElem?_eq_some_iff.mp hm).1
        refine ⟨aa, _, rfl, s2.sqT h3, rfl, _, _, rfl, _, _, rfl, rfl, ?_⟩
        refine ⟨rfl, _, rfl, _, rfl, la, a, m.2, c, rfl, s2.sqT h5, s2.sqT ha, by omega, fun s hs => by rw [m1]; exact cN s hs, fun s hs => by have := m2 s hs; omega, fun l H3 s3 e3 => ?_⟩
        refine ⟨_, rfl, tupD (leadsF m.2 c), cs.map tupD, .tup (SqT.of e3) (dp_ints _), .tup (s3.sqT (s2.sqT hC)) (dp_all (g := tupD) (R := RowAt K H3) (fun _ _ => dp_row) (hA.mono fun _ _ => RowAt.same (s2.trans s3))), sh_tup _, sh_ttt _, ?_⟩
        refine ⟨_, s3 _ _ d2, ?_, (s2.trans s3).mut hD, ?_⟩
        · rw [List.length_map, List.length_append, flagsB_len, List.length_take, List.length_take, sizeLine_eq]
          unfold LsOf rowB
          rw [List.length_map, List.length_map]
          have : min i cs.length * ms.length ≤ 200 * 24 := Nat.mul_le_mul (by omega) ml
          omega
        · rw [upd_same, any_tup, List.take_add_one (i := j)]
          have e : (rowB (LsOf ms) cs c)[j]? = some (decide (leadsF m.2 c ∈ cs)) := by
            unfold rowB LsOf
            rw [List.getElem?_map, List.getElem?_map, hm] <;> rfl
          rw [e, ← List.append_assoc, List.map_append (l₂ := (some (decide (leadsF m.2 c ∈ cs))).toList)] <;> rfl
      · obtain ⟨s2, d2⟩ := g
        refine ⟨s2, ?_⟩
        rw [d2, List.take_of_length_le (l := rowB (LsOf ms) cs c) (by unfold rowB LsOf; rw [List.length_map, List.length_map, hU.1]; exact Nat.le_refl _), List.take_add_one, hc, ← flagsB_snoc] <;> rfl
    · obtain ⟨s1, d1⟩ := g
      rw [hA.1, List.take_length] at d1
      refine ⟨D, _, rfl, SqL.of d1, ?_⟩
      rw [flagsB_all]
      exact k H1 s1
end
end Law

namespace L2
open PySem PySem.Spec PyProof.Rows
/-- {k: v}, k a tuple -/
def tDisp1T (tk tv : TE) : TE := fun σ H Q => ∀ p, H p = none → tk σ (upd H p (.dT [])) fun x' H1 => tv σ H1 fun y' H2 => ∃ x y, [(x', y')] = [(x, y)] ∧ H2 p = some (.dT []) ∧ ∃ (ks : List Key) (b : Addr), x = .ref b ∧ H2 b = some (.tup (ks.map kV)) ∧ Q (.ref p) (upd H2 p (.dT [(ks, y)]))
theorem pe_disp1T {X : Cx} {pos : Pos} {k v : Expr} {tk tv : TE} (hu : X.A.units + 1 < cLine) (hk : PE X k tk) (hv : PE X v tv) : PE X (.Dict [some k] [v] pos) (tDisp1T tk tv) := by
  refine ⟨fun pins s σ H Q I q => ?_⟩
  have hn := I.hok.fresh (Nat.le_refl s.heap.objs.size)
  have I1 := I.laid (a := s.heap.objs.size) (o := .dT []) (h' := s.heap.push { cls := .type "dict", data := .dict #[] }) (t' := s.toks) (fun _ _ z => Heap.get?_push_of_some _ z) (Nat.le_refl _) (dt_empty s.heap I.big)
  rw [arm_eval_Dict, zip_pairTrees [some k] [v] X.env pos rfl rfl, dictDisplay_pairs _ (by intro z; cases z) (by show 1 < _; decide)]
  refine wpAny_bind (wpAny_standAt (wpAny_bind (wpAny_subDictH (knd := tupleKind (mixKind X.prog X.w)) (Q := fun d s' => wpAny (model X.prog X.w) X.A (pure (Value.ref d)) _ _ s') (Nat.lt_of_le_of_lt (Nat.le_add_right _ 1) hu) (by show 1 ≤ 15; decide) ?_)))
  refine thn ((pps_cons hk hv pps_nil).run pins _ σ _ (fun ps H2 => ∃ x y, ps = [(x, y)] ∧ H2 s.heap.objs.size = some (.dT []) ∧ ∃ (ks : List Key) (b : Addr), x = .ref b ∧ H2 b = some (.tup (ks.map kV)) ∧ Q (.ref s.heap.objs.size) (upd H2 s.heap.objs.size (.dT [(ks, y)]))) I1 ?_) fun ws s2 z => ?_
  · exact q _ hn
  · obtain ⟨ps, H2, I2, rel, x, y, rfl, e, ks, b, rfl, eb, q2⟩ := z
    cases rel with
    | @cons _ pr _ _ hq t =>
      cases t
      obtain ⟨u1, u2⟩ := pr
      obtain ⟨r1, r2⟩ := hq
      obtain rfl : u1 = Value.ref b := r1
      obtain ⟨_, hd, xs, rel0, dd⟩ := dt_of I2.hok e
      cases rel0
      have kb := key_of I2.hok eb
      refine ⟨[(ks, b, u2)], ⟨rfl, rfl, kb, True.intro⟩, dd, fun h' tk dd' hs => wpAny_pure ⟨.ref s.heap.objs.size, _, ?_, rfl, q2⟩⟩
      obtain ⟨o, es, ep, hq, h2, h3, h4, _, h5⟩ := dd'
      refine d_write I2 (by rw [e]; exact True.intro) hs ⟨o, hq⟩ ⟨by rw [sizeLine_eq]; show 1 ≤ 16777216; decide, hd, _, .cons ⟨rfl, ?_, r2⟩ .nil, o, es, ep, hq, h2, h3, h4, h5⟩
      show upd H2 s.heap.objs.size _ b = _
      rw [upd_ne (ne_of eb e (fun z => nomatch z))]
      exact eb
end L2
namespace L2
open PySem PySem.Spec PyProof.Rows Law
/-! ### the dict from lots to rows, the list of the lots that wait -/
def keyL (c : List Int) : List Key := c.map Sum.inl
theorem keyL_v (c : List Int) : (keyL c).map kV = c.map V.int := by
  unfold keyL
  rw [List.map_map] <;> rfl
theorem keyL_inj {a b : List Int} (h : keyL a = keyL b) : a = b := by
  induction a generalizing b with
  | nil => cases b with
    | nil => rfl
    | cons y b => cases h
  | cons x a ih => cases b with
    | nil => cases h
    | cons y b =>
      unfold keyL at h
      rw [List.map_cons, List.map_cons] at h
      injection h with h1 h2
      injection h1 with h1
      rw [h1, ih h2]
inductive KvAt (K : PySem.W.Frag) (H : Hp) : List (List Key × V) → List Nd → Prop
  | nil : KvAt K H [] []
  | cons {v : V} {n : Nd} {kvs : List (List Key × V)} {D : List Nd} : RowAt K H v n.1 → KvAt K H kvs D → KvAt K H ((keyL n.2, v) :: kvs) (n :: D)
theorem KvAt.mono {K : PySem.W.Frag} {H H' : Hp} {kvs : List (List Key × V)} {D : List Nd} (f : ∀ v l, RowAt K H v l → RowAt K H' v l) (h : KvAt K H kvs D) : KvAt K H' kvs D := by
  induction h with
  | nil => exact .nil
  | cons r _ ih => exact .cons (f _ _ r) ih
theorem KvAt.snoc {K : PySem.W.Frag} {H : Hp} {kvs : List (List Key × V)} {D : List Nd} {v : V} {n : Nd} (h : KvAt K H kvs D) (r : RowAt K H v n.1) : KvAt K H (kvs ++ [(keyL n.2, v)]) (D ++ [n]) := by
  induction h with
  | nil => exact .cons r .nil
  | cons r' _ ih => exact .cons r' ih
theorem KvAt.len {K : PySem.W.Frag} {H : Hp} {kvs : List (List Key × V)} {D : List Nd} (h : KvAt K H kvs D) : kvs.length = D.length := by
  induction h with
  | nil => rfl
  | cons _ _ ih => rw [List.length_cons, List.length_cons, ih]
theorem KvAt.has {K : PySem.W.Frag} {H : Hp} {kvs : List (List Key × V)} {D : List Nd} (h : KvAt K H kvs D) (o : List Int) : (valV kvs (keyL o)).isSome = decide (o ∈ D.map (·.2)) := by
  induction h with
  | nil => rfl
  | @cons v n kvs D _ _ ih =>
    by_cases e : n.2 = o
    · subst e
      rw [valV_pos rfl, decide_eq_true (by simp)] <;> rfl
    · rw [valV_neg (fun z => e (keyL_inj z)), ih, List.map_cons]
      refine decide_eq_decide.mpr ⟨List.mem_cons_of_mem _, fun z => ?_⟩
      rcases List.mem_cons.mp z with z | z
      · exact absurd z.symm e
      · exact z
theorem KvAt.get {K : PySem.W.Frag} {H : Hp} {kvs : List (List Key × V)} {D : List Nd} (h : KvAt K H kvs D) (nd : (D.map (·.2)).Nodup) {n : Nd} (hn : n ∈ D) : ∃ v, valV kvs (keyL n.2) = some v ∧ RowAt K H v n.1 := by
  induction h with
  | nil => exact absurd hn List.not_mem_nil
  | @cons v m kvs D r _ ih =>
    rw [List.map_cons, List.nodup_cons] at nd
    rcases List.mem_cons.mp hn with rfl | hn
    · exact ⟨v, valV_pos rfl, r⟩
    · have ne : m.2 ≠ n.2 := fun e => nd.1 (by rw [e]; exact List.mem_map.mpr ⟨n, hn, rfl⟩)
      obtain ⟨u, h1, h2⟩ := ih nd.2 hn
      exact ⟨u, by rw [valV_neg (fun z => ne (keyL_inj z))]; exact h1, h2⟩
def LotAt (H : Hp) (v : V) (n : Nd) : Prop := ∃ a, v = .ref a ∧ H a = some (.tup (n.2.map V.int))
theorem LotAt.upd {H : Hp} {D : Addr} {o u : HO} {v : V} {n : Nd} (hD : H D = some o) (d : ∀ y, HO.tup y ≠ o) (h : LotAt H v n) : LotAt (L2.upd H D u) v n := by
  obtain ⟨a, h1, h2⟩ := h
  exact ⟨a, h1, by rw [upd_ne (ne_of h2 hD (d _))]; exact h2⟩
theorem LotAt.same {H H' : Hp} {v : V} {n : Nd} (s : Same H H') (h : LotAt H v n) : LotAt H' v n := by
  obtain ⟨a, h1, h2⟩ := h
  exact ⟨a, h1, s _ _ h2⟩
theorem RowAt.updO {K : PySem.W.Frag} {H : Hp} {D : Addr} {o u : HO} {v : V} {l : List Int} (hD : H D = some o) (d : ∀ y, HO.tup y ≠ o) (d2 : ∀ q y, HO.frz q (.tup y) ≠ o) (h : RowAt K H v l) : RowAt K (L2.upd H D u) v l := by
  obtain ⟨a, h1, h2⟩ := h
  refine ⟨a, h1, ?_⟩
  rcases h2 with (z | ⟨q, z⟩) | z
  · refine .inl (.inl ?_)
    rw [L2.upd_ne (ne_of z hD (d _))]
    exact z
  · refine .inl (.inr ⟨q, ?_⟩)
    rw [L2.upd_ne (ne_of z hD (d2 _ _))]
    exact z
  · exact .inr z
/-! ### there are at most 4096 lots -/
def subsL : List Int → List (List Int)
  | [] => [[]]
  | x :: xs => subsL xs ++ (subsL xs).map (x :: ·)
theorem subsL_len : ∀ xs : List Int, (subsL xs).length = 2 ^ xs.length
  | [] => rfl
  | x :: xs => by
    rw [subsL, List.length_append, List.length_map, subsL_len xs, List.length_cons, Nat.pow_succ]
    omega
theorem filter_subs (p : Int → Bool) : ∀ xs : List Int, xs.filter p ∈ subsL xs
  | [] => List.mem_singleton_self _
  | x :: xs => by
    rw [List.filter_cons, subsL, List.mem_append]
    split
    · exact .inr (List.mem_map.mpr ⟨_, filter_subs p xs, rfl⟩)
    · exact .inl (filter_subs p xs)
theorem lots_few {l : List (List Int)} (nd : l.Nodup) (h : ∀ c ∈ l, lotF c = c) : l.length ≤ 4096 := by
  have z := nd.length_le_of_subset (l₂ := subsL (upto 12)) fun c hc => by
    rw [← h c hc]
    exact filter_subs _ _
  rw [subsL_len, upto_len] at z
  exact z
theorem lotF_idem {e : List Int} (h : In12 e) : lotF (lotF e) = lotF e :=
  lot_congr (fun x hx => h x ((lot_mem h x).mp hx)) h fun k => lot_mem h k
/-- nodes: found ones -/
structure NdOk (n : Nat) (d : Nat) (m : Nd) : Prop where
  lot : lotF m.2 = m.2
  inn : InN n m.2
  len : m.2.length ≤ 12
  row : m.1.length ≤ d
theorem NdOk.more {n d d' : Nat} {m : Nd} (h : NdOk n d m) (hd : d ≤ d') : NdOk n d' m := ⟨h.lot, h.inn, h.len, Nat.le_trans h.row hd⟩
theorem leadsN {n : Nat} {xs c : List Int} (hn : n ≤ 12) (hx : LdOk n xs) (hc : InN n c) (hl : c.length ≤ 12) : lotF (leadsF xs c) = leadsF xs c ∧ InN n (leadsF xs c) ∧ (leadsF xs c).length ≤ 12 := by
  have i : InN n (c.map (stepS xs)) := fun x hx' => by
    obtain ⟨s, hs, rfl⟩ := List.mem_map.mp hx'
    exact stepS_in hx (hc s hs)
  have l := lot_le hn i
  rw [List.length_map] at l
  exact ⟨lotF_idem (i.in12 hn), lotN hn i, Nat.le_trans l hl⟩
/-- a node's expansion, move by move -/
theorem exp1_step (Ls : List (List Int)) (n : Nd) (i : Nat) (K : List (List Int)) : exp1 Ls n (i + 1) K = if leadsF (Ls.getD i []) n.2 ∈ (exp1 Ls n i K).1 then exp1 Ls n i K else ((exp1 Ls n i K).1 ++ [leadsF (Ls.getD i []) n.2], (exp1 Ls n i K).2 ++ [(n.1 ++ [(i : Int)], leadsF (Ls.getD i []) n.2)]) := rfl
end L2
namespace L2
open PySem PySem.Spec PyProof.Rows Law
/-- tuple + tuple, whatever they are -/
def rCatR (K : PySem.W.Frag) : R2 := fun x y H Q => ∃ a b xs ys, x = .ref a ∧ y = .ref b ∧ SqT K H a xs ∧ SqT K H b ys ∧ xs.length + ys.length ≤ sizeLine ∧ ∀ p H', Same H H' → SqT K H' p (xs ++ ys) → Q (.ref p) H'
theorem op_catR {X : Cx} : OpR X (binaryOp .Add) (rCatR X.K) := by
  intro pins s σ H x y v u Q I rx ry h
  obtain ⟨a, b, xs, ys, e1, e2, h1, h2, hl, q⟩ := h
  refine op_catA pins s σ H x y v u Q I rx ry ⟨a, b, xs, ys, e1, e2, h1, h2, hl, fun e => q b H (Same.refl H) (by rw [e]; exact h2), fun _ e => q a H (Same.refl H) (by rw [e, List.append_nil]; exact h1), fun _ _ p hp => q p _ (Same.new hp) (SqT.of upd_same)⟩
structure LeastI (K : PySem.W.Frag) (H : Hp) (R L : Addr) (many : Nat) (Dn W : List Nd) (H' : Hp) : Prop where
  same : Same H H'
  dic : ∃ kvs, H' R = some (.dT kvs) ∧ KvAt K H' kvs Dn
  lst : ∃ ws, H' L = some (.lst ws) ∧ AllIn (LotAt H') ws W
  nd : (Dn.map (·.2)).Nodup
  sub : ∀ n ∈ W, n ∈ Dn
  ok : ∀ n ∈ Dn, NdOk many Dn.length n
  wl : W.length ≤ Dn.length
theorem LeastI.more {K : PySem.W.Frag} {H H1 H2 : Hp} {R L : Addr} {many : Nat} {Dn W : List Nd} (h : LeastI K H R L many Dn W H1) (s : Same H1 H2) : LeastI K H R L many Dn W H2 := by
  obtain ⟨kvs, h1, h2⟩ := h.dic
  obtain ⟨ws, h3, h4⟩ := h.lst
  exact ⟨h.same.trans s, ⟨kvs, s _ _ h1, h2.mono fun _ _ => RowAt.same s⟩, ⟨ws, s _ _ h3, h4.mono fun _ _ => LotAt.same s⟩, h.nd, h.sub, h.ok, h.wl⟩
theorem LeastI.few {K : PySem.W.Frag} {H H1 : Hp} {R L : Addr} {many : Nat} {Dn W : List Nd} (h : LeastI K H R L many Dn W H1) : Dn.length ≤ 4096 := by
  have z := lots_few h.nd fun c hc => by
    obtain ⟨n, hn, rfl⟩ := List.mem_map.mp hc
    exact (h.ok n hn).lot
  rw [List.length_map] at z
  exact z
end L2
namespace Law
open PySem L2
theorem seq0 (v : V) (ws : List V) : seqIndex? 0 (v :: ws).length = some 0 := by
  unfold seqIndex?
  rw [if_neg (show ¬ ((0 : Int) < 0) by decide), List.length_cons]
  simp
theorem ls_len (ms : List Mv) : (LsOf ms).length = ms.length := by unfold LsOf; rw [List.length_map]
theorem ls_get {ms : List Mv} {i : Nat} {m : Mv} (h : ms[i]? = some m) : (LsOf ms).getD i [] = m.2 := by
  unfold LsOf
  rw [List.getD_eq_getElem?_getD, List.getElem?_map, h] <;> rfl
theorem ls_ok {many : Nat} {ms : List Mv} (h : ∀ m ∈ ms, MvOk many m) : LsOk many (LsOf ms) := fun xs hx => by
  obtain ⟨m, hm, rfl⟩ := List.mem_map.mp hx
  obtain ⟨_, _, _, h1, h2⟩ := h m hm
  exact ⟨h1, h2⟩
section
variable {P : Program} {w : World} {K : PySem.W.Frag} {mg : Str → Option Value} {base : Heap}
def spLeast (K : PySem.W.Frag) (C : Addr) : Sp := fun vs H Q _ => ∃ (q sa : Addr) (many : Nat) (ms : List Mv) (e : List Int), vs = [.ref q, .ref sa] ∧ SysAt K C H q many ms ∧ many ≤ 12 ∧ ms.length ≤ 24 ∧ (∀ m ∈ ms, MvOk many m) ∧ H sa = some (.tup (e.map V.int)) ∧ e.length ≤ 12 ∧ InN many e ∧ lotF e = e ∧
  ∀ (x : V) (r : Option (List Int)) (H' : Hp), Same H H' → PR (LsOf ms) [e] [([], e)] r → (match r with | none => x = .non | some l => RowAt K H' x l) → Q x H'
abbrev nLeastRowToOne : List Str := ["system", "start", "rows", "waiting", "lot", "number", "_", "leads", "other"]
theorem scLeastRowToOne : FnScope nLeastRowToOne ["system", "start"] (defScope s_least_row_to_one) := ⟨rfl, rfl, rfl, by decide +kernel, rfl, by decide +kernel, by decide +kernel⟩
theorem ok_least_row_to_one {f : Addr} {fd : FuncData} {fcLotLed : Addr} {fdcLotLed : FuncData} {C : Addr} (F : Fun K "least_row_to_one" "least_row_to_one" s_least_row_to_one f fd) (T : NmA mg) (cLotLed : Cl P w K mg base CX0 2 "lot_led" fcLotLed fdcLotLed ["leads", "lot"] (spLotLed K)) (S : SysT K mg C) : FnOk P w K mg base CX0 3 f fd ["system", "start"] (spLeast K C) := by
  refine F.ok scLeastRowToOne (fun vs H Q E h => ?_) (fun cdv A' outer s H vs Q E hr h => ?_)
  · obtain ⟨q, sa, many, ms, e, rfl, _⟩ := h
    rfl
  · obtain ⟨q, sa, many, ms, e, rfl, hM, m12, ml, mo, hE, el, eN, eL, k⟩ := h
    have hu := hu_of hr
    refine ⟨_, pss_cons (ps_set (i := 2) scLeastRowToOne.nd rfl (Or.inl rfl) (pe_disp1T hu (pv 1) (pe_tup pa_nil)))
      (pss_cons (ps_set (i := 3) scLeastRowToOne.nd rfl (Or.inl rfl) (pe_lst (pa_cons (pv 1) pa_nil)))
      (pss_cons (ps_while PassesOwn.never (pt_truth (pv 3) (by intro _; rfl))
        (pss_cons (ps_set (i := 4) scLeastRowToOne.nd rfl (Or.inl rfl) (pe_bm PySem.F.plainAttrs_list PySem.F.slot_list_pop PySem.F.type_list_pop mt_popAt (pv 3) (pa_cons pe_int pa_nil)))
        (pss_cons (ps_if (pt_cmpR op_eq (pe_callB call_len_seq (by rfl) T.len PySem.boot_len (pa_cons (pv 4) pa_nil)) pe_int (nomark _))
          (pss_one (ps_ret (pe_dget hu (pv 2) (pv 4) (fun _ _ => rfl)))) pss_nil)
        (pss_one (ps_for PassesOwn.never rfl (pi_enumT (by rfl) T.enum (pa_cons (pe_fld (pv 0) rfl) pa_nil)) (pg_tup (by rfl) (pgs_cons (pg_name (i := 5) scLeastRowToOne.nd rfl (Or.inl rfl)) (pgs_cons (pg_tup (by rfl) (pgs_cons (pg_name (i := 6) scLeastRowToOne.nd rfl (Or.inl rfl)) (pgs_cons (pg_name (i := 7) scLeastRowToOne.nd rfl (Or.inl rfl)) pgs_nil))) pgs_nil)))
          (pss_cons (ps_set (i := 8) scLeastRowToOne.nd rfl (Or.inl rfl) (cLotLed.call (hr.mono (by decide)) (pa_cons (pv 7) (pa_cons (pv 4) pa_nil))))
          (pss_one (ps_if (pt_cmp (pc_dnotin hu (pv 8) (pv 2)))
            (pss_cons (ps_dput hu (pv 2) (pv 8) (pe_op op_catR (pe_dget hu (pv 2) (pv 4) (fun _ _ => rfl)) (pe_tup (pa_cons (pv 5) pa_nil))) rfl)
            (pss_one (ps_expr (pe_bm PySem.F.plainAttrs_list PySem.F.slot_list_append PySem.F.type_list_append mt_append (pv 3) (pa_cons (pv 8) pa_nil))))) pss_nil))))))))
      (pss_one (ps_ret pe_non)))), ?_⟩
    obtain ⟨dx, mv, hp, us, hV, hU⟩ := id hM
    refine fun R hR => ⟨_, rfl, by show 0 ≤ sizeLine; decide, fun p0 hp0 => ?_⟩
    have np : R ≠ p0 := ne_of_none upd_same hp0
    have nsR : sa ≠ R := ne_of_none hE hR
    have nsp : sa ≠ p0 := by
      refine ne_of_none (H := upd H R (.dT [])) (o := .tup (e.map V.int)) ?_ hp0
      rw [upd_ne nsR]
      exact hE
    refine ⟨_, _, rfl, by rw [upd_ne np]; exact upd_same, keyL e, sa, rfl, by rw [keyL_v, upd_ne nsp, upd_ne nsR]; exact hE, ?_⟩
    have s1 : Same H (upd (upd (upd H R (.dT [])) p0 (.tup [])) R (.dT [(keyL e, .ref p0)])) := (Same.new hR |>.trans (Same.new hp0)).mut hR
    have hr1 : RowAt K (upd (upd (upd H R (.dT [])) p0 (.tup [])) R (.dT [(keyL e, .ref p0)])) (.ref p0) [] := ⟨p0, rfl, SqT.of (by rw [upd_ne (Ne.symm np), upd_same] <;> rfl)⟩
    have hd1 : (upd (upd (upd H R (.dT [])) p0 (.tup [])) R (.dT [(keyL e, .ref p0)])) R = some (.dT [(keyL e, .ref p0)]) := upd_same
    generalize upd (upd (upd H R (.dT [])) p0 (.tup [])) R (.dT [(keyL e, .ref p0)]) = G1 at s1 hr1 hd1
    refine ⟨_, rfl, by show 1 ≤ sizeLine; decide, fun L hL => ?_⟩
    have hLH : H L = none := s1.free hL
    have nRL : R ≠ L := ne_of_none hd1 hL
    refine new_step hL fun G2 s2 e2 => ?_
    have I0 : LeastI K H R L many [([], e)] [([], e)] G2 := {
      same := s1.trans s2
      dic := ⟨_, s2 _ _ hd1, .cons (n := ([], e)) (hr1.same s2) .nil⟩
      lst := ⟨_, e2, AllIn.snoc AllIn.nil ⟨sa, rfl, s2 _ _ (s1 _ _ hE)⟩⟩
      nd := by simp
      sub := fun n h => h
      ok := fun n h => by
        rw [List.mem_singleton.mp h]
        exact ⟨eL, eN, el, Nat.zero_le _⟩
      wl := Nat.le_refl _ }
    refine ⟨fun m σ H' => ∃ Dn W : List Nd, LeastI K H R L many Dn W H' ∧ (∀ r, PR (LsOf ms) (Dn.map (·.2)) W r → PR (LsOf ms) [e] [([], e)] r) ∧ m = 2 * (4096 - Dn.length) + W.length ∧ ∃ u1 u2 u3 u4 u5 : Option V, σ = [some (.ref q), some (.ref sa), some (.ref R), some (.ref L), u1, u2, u3, u4, u5], ⟨_, [([], e)], [([], e)], I0, (by intro r h; exact h), rfl, none, none, none, none, none, rfl⟩, ?_⟩
    rintro m σ H' ⟨Dn, W, I, hpr, rfl, u1, u2, u3, u4, u5, rfl⟩
    obtain ⟨ws, hw, hW⟩ := I.lst
    refine ⟨_, rfl, _, .inl ⟨ws, SqL.of hw, rfl⟩, ite2 (fun c => ?_) (fun c => ?_)⟩
    · refine ⟨fun σ' H1 => ∃ m', m' < _ ∧ ∃ Dn W : List Nd, LeastI K H R L many Dn W H1 ∧ (∀ r, PR (LsOf ms) (Dn.map (·.2)) W r → PR (LsOf ms) [e] [([], e)] r) ∧ m' = 2 * (4096 - Dn.length) + W.length ∧ ∃ u1 u2 u3 u4 u5 : Option V, σ' = [some (.ref q), some (.ref sa), some (.ref R), some (.ref L), u1, u2, u3, u4, u5], fun _ _ h => h, ?_⟩
      match ws, W, hw, hW, c with
      | v :: ws, n :: W, hw, hW, _ =>
        have hn : n ∈ Dn := I.sub n List.mem_cons_self
        obtain ⟨kvs, hk, hK⟩ := I.dic
        obtain ⟨n', en, a, rfl, ha⟩ := hW.2 0 v rfl
        cases en
        have hW' : AllIn (LotAt H') ws W := ⟨by have := hW.1; simpa using this, fun i x hx => hW.2 (i + 1) x (by simpa using hx)⟩
        refine ⟨_, rfl, .inl ⟨rfl, _, SqL.of hw⟩, L, _, (0 : Int), 0, _, rfl, rfl, hw, by decide, by decide, seq0 _ _, rfl, ?_⟩
        have I1 : LeastI K H R L many Dn W (upd H' L (.lst ((V.ref a :: ws).eraseIdx 0))) := {
          same := I.same.mut hLH
          dic := ⟨kvs, by rw [upd_ne nRL]; exact hk, hK.mono fun _ _ z => z.upd hw⟩
          lst := ⟨ws, upd_same, hW'.mono fun _ _ z => z.upd hw (fun y h => by cases h)⟩
          nd := I.nd
          sub := fun m hm => I.sub m (List.mem_cons_of_mem _ hm)
          ok := I.ok
          wl := by have := I.wl; rw [List.length_cons] at this; omega }
        have ha1 : LotAt (upd H' L (.lst ((V.ref a :: ws).eraseIdx 0))) (.ref a) n := LotAt.upd (n := n) hw (fun y h => by cases h) ⟨a, rfl, ha⟩
        generalize upd H' L (.lst ((V.ref a :: ws).eraseIdx 0)) = G3 at I1 ha1
        obtain ⟨a', ea, ha1⟩ := ha1
        cases ea
        obtain ⟨kvs1, hk1, hK1⟩ := I1.dic
        have okn := I.ok n hn
        obtain ⟨vr, hv, hrow⟩ := hK1.get I1.nd hn
        have gt : DGet G3 R (.ref a) (some vr) := by
          rw [← hv]
          exact DGet.t hk1 (by rw [keyL_v]; exact ha1)
        refine ⟨_, rfl, a, _, rfl, .inr (SqT.of ha1), rfl, _, rfl, ite2 (fun c1 => ?_) (fun c1 => ?_)⟩
        · refine ⟨_, rfl, _, rfl, R, vr, rfl, gt, ?_⟩
          have l1 : n.2.length = 1 := by
            rw [dec_one, List.length_map] at c1
            exact eq_of_beq c1
          exact k vr (some n.1) G3 I1.same (hpr _ (.hit _ n W l1)) hrow
        · have l1 : n.2.length ≠ 1 := fun z => c1 (by rw [dec_one, List.length_map, z] <;> rfl)
          refine ⟨_, rfl, q, C, dx, _, _, rfl, I1.same _ _ hp, S.cl, S.nM, sysF_moves _ _, mv, us, rfl, I1.same.sqT hV, ?_⟩
          refine for_it walk_enumT (fun i σ H' => LeastI K H R L many (Dn ++ (exp1 (LsOf ms) n i (Dn.map (·.2))).2) (W ++ (exp1 (LsOf ms) n i (Dn.map (·.2))).2) H' ∧ (exp1 (LsOf ms) n i (Dn.map (·.2))).1 = (Dn ++ (exp1 (LsOf ms) n i (Dn.map (·.2))).2).map (·.2) ∧ H' a = some (.tup (n.2.map V.int)) ∧ ∃ u2 u3 u4 u5 : Option V, σ = [some (.ref q), some (.ref sa), some (.ref R), some (.ref L), some (.ref a), u2, u3, u4, u5]) ⟨by show LeastI K H R L many (Dn ++ []) (W ++ []) G3; rw [List.append_nil, List.append_nil]; exact I1, by rw [show (exp1 (LsOf ms) n 0 (Dn.map (·.2))).2 = ([] : List Nd) from rfl, List.append_nil] <;> rfl, ha1, u2, u3, u4, u5, rfl⟩ (fun i σ H' _ h => h.1.same.sqT hV) ?_ ?_
          · rintro i x σ H4 H5 hi ⟨I4, e4, a4, u2, u3, u4, u5, rfl⟩ ⟨t, y, rfl, ht, rfl, hy⟩
            obtain ⟨m, hm, aa, ss, la, rfl, h3, h4, h5⟩ := hU.2 i y hy
            obtain ⟨_, _, _, m1, m2⟩ := mo m (List.mem_of_getElem? hm)
            have im := (List.getElem?_eq_some_iff.mp hm).1
            have s5 : Same H4 (upd H4 t (.tup [.int (i : Nat), .ref aa])) := Same.new ht
            have e5 : (upd H4 t (.tup [.int (i : Nat), .ref aa])) t = some (.tup [.int (i : Nat), .ref aa]) := upd_same
            generalize upd H4 t (.tup [.int (i : Nat), .ref aa]) = H5 at s5 e5
            have I5 := I4.more s5
            have a5 := s5 _ _ a4
            refine ⟨t, _, rfl, SqT.of e5, rfl, _, _, rfl, _, _, rfl, aa, _, rfl, I5.same.sqT h3, rfl, _, _, rfl, _, _, rfl, rfl, rfl, ?_⟩
            have lN := leadsN m12 ⟨m1, m2⟩ okn.inn okn.len
            refine ⟨_, rfl, _, rfl, la, a, m.2, n.2, rfl, I5.same.sqT h5, SqT.of a5, okn.len, fun s hs => by rw [m1]; exact okn.inn s hs, fun s hs => by have := m2 s hs; omega, fun l H6 s6 e6 => ?_⟩
            have I6 := I5.more s6
            obtain ⟨kv6, hk6, hK6⟩ := I6.dic
            obtain ⟨ws6, hw6, hW6⟩ := I6.lst
            refine ⟨_, rfl, _, rfl, R, _, rfl, DGet.t hk6 (by rw [keyL_v]; exact e6), _, rfl, ?_⟩
            rw [hK6.has, ← e4]
            have st := exp1_step (LsOf ms) n i (Dn.map (·.2))
            rw [ls_get hm] at st
            refine ite2 (fun c2 => ?_) (fun c2 => ?_)
            · have nin : leadsF m.2 n.2 ∉ (exp1 (LsOf ms) n i (Dn.map (·.2))).1 := fun z => by
                rw [decide_eq_true z] at c2
                cases c2
              rw [if_neg nin] at st
              have hn6 : n ∈ Dn ++ (exp1 (LsOf ms) n i (Dn.map (·.2))).2 := List.mem_append_left _ hn
              obtain ⟨vr6, hv6, ra, rfl, hrow6⟩ := hK6.get I6.nd hn6
              have ok6 := I6.ok n hn6
              have fw := I6.few
              have gt6 : DGet H6 R (.ref a) (some (.ref ra)) := by
                rw [← hv6]
                exact DGet.t hk6 (by rw [keyL_v]; exact s6 _ _ a5)
              refine ⟨_, rfl, _, rfl, R, _, rfl, gt6, _, rfl, by show 1 ≤ sizeLine; decide, fun tb htb => ?_⟩
              refine new_step htb fun H7 s7 e7 => ?_
              refine ⟨ra, tb, _, _, rfl, rfl, s7.sqT hrow6, SqT.of e7, by have := ok6.row; rw [List.length_map, sizeLine_eq]; show _ + 1 ≤ _; omega, fun rb H8 s8 e8 => ?_⟩
              have s68 := s7.trans s8
              have I8 := I6.more s68
              obtain ⟨kv8, hk8, hK8⟩ := I8.dic
              obtain ⟨ws8, hw8, hW8⟩ := I8.lst
              have l8 := s68 _ _ e6
              have kl8 := hK8.len
              refine ⟨_, rfl, _, rfl, R, _, rfl, DPut.t (k := keyL (leadsF m.2 n.2)) hk8 (by rw [keyL_v]; exact l8) (by rw [kl8, sizeLine_eq]; omega), ?_⟩
              have hnone : valV kv8 (keyL (leadsF m.2 n.2)) = none := by
                have z := hK8.has (leadsF m.2 n.2)
                rw [← e4, decide_eq_false nin] at z
                cases h : valV kv8 (keyL (leadsF m.2 n.2)) with
                | none => rfl
                | some _ => rw [h] at z; cases z
              rw [putK_new _ hnone]
              have hwR : (upd H8 R (.dT (kv8 ++ [(keyL (leadsF m.2 n.2), .ref rb)]))) L = some (.lst ws8) := by
                rw [upd_ne (Ne.symm nRL)]
                exact hw8
              refine ⟨_, rfl, .inl ⟨rfl, _, SqL.of hwR⟩, _, rfl, L, ws8, _, rfl, rfl, hwR, ?_, ?_⟩
              · have w8 := hW8.1
                have nW := I6.wl
                rw [w8, sizeLine_eq]
                omega
              have dT : ∀ y, HO.tup y ≠ HO.dT kv8 := fun y h => by cases h
              have dT2 : ∀ q y, HO.frz q (.tup y) ≠ HO.dT kv8 := fun q y h => by cases h
              have dL : ∀ y, HO.tup y ≠ HO.lst ws8 := fun y h => by cases h
              have dL2 : ∀ q y, HO.frz q (.tup y) ≠ HO.lst ws8 := fun q y h => by cases h
              have up1 : ∀ (H9 : Hp), H9 = upd (upd H8 R (.dT (kv8 ++ [(keyL (leadsF m.2 n.2), .ref rb)]))) L (.lst (ws8 ++ [.ref l])) → ∀ v y, RowAt K H8 v y → RowAt K H9 v y := fun H9 e9 v y z => by
                rw [e9]
                exact (z.updO hk8 dT dT2).updO hwR dL dL2
              have up2 : ∀ (H9 : Hp), H9 = upd (upd H8 R (.dT (kv8 ++ [(keyL (leadsF m.2 n.2), .ref rb)]))) L (.lst (ws8 ++ [.ref l])) → ∀ v y, LotAt H8 v y → LotAt H9 v y := fun H9 e9 v y z => by
                rw [e9]
                exact (z.upd hk8 dT).upd hwR dL
              have s9 : Same H (upd (upd H8 R (.dT (kv8 ++ [(keyL (leadsF m.2 n.2), .ref rb)]))) L (.lst (ws8 ++ [.ref l]))) := (I8.same.mut hR).mut hLH
              have r9 : (upd (upd H8 R (.dT (kv8 ++ [(keyL (leadsF m.2 n.2), .ref rb)]))) L (.lst (ws8 ++ [.ref l]))) R = some (.dT (kv8 ++ [(keyL (leadsF m.2 n.2), .ref rb)])) := by
                rw [upd_ne nRL, upd_same]
              have l9 : (upd (upd H8 R (.dT (kv8 ++ [(keyL (leadsF m.2 n.2), .ref rb)]))) L (.lst (ws8 ++ [.ref l]))) L = some (.lst (ws8 ++ [.ref l])) := upd_same
              generalize upd (upd H8 R (.dT (kv8 ++ [(keyL (leadsF m.2 n.2), .ref rb)]))) L (.lst (ws8 ++ [.ref l])) = H9 at up1 up2 s9 r9 l9
              have up1 := up1 H9 rfl
              have up2 := up2 H9 rfl
              rw [st]
              have lenD : (Dn ++ (exp1 (LsOf ms) n i (Dn.map (·.2))).2 ++ [(n.1 ++ [(i : Int)], leadsF m.2 n.2)]).length = (Dn ++ (exp1 (LsOf ms) n i (Dn.map (·.2))).2).length + 1 := by rw [List.length_append] <;> rfl
              refine ⟨?_, ?_, ?_, _, _, _, _, rfl⟩
              · show LeastI K H R L many (Dn ++ ((exp1 (LsOf ms) n i (Dn.map (·.2))).2 ++ [(n.1 ++ [(i : Int)], leadsF m.2 n.2)])) (W ++ ((exp1 (LsOf ms) n i (Dn.map (·.2))).2 ++ [(n.1 ++ [(i : Int)], leadsF m.2 n.2)])) H9
                rw [← List.append_assoc, ← List.append_assoc]
                refine ⟨s9, ⟨_, r9, (hK8.mono up1).snoc (n := (n.1 ++ [(i : Int)], leadsF m.2 n.2)) (up1 _ _ ⟨rb, rfl, by rw [List.map_append]; exact e8⟩)⟩, ⟨_, l9, (hW8.mono up2).snoc (up2 _ (n.1 ++ [(i : Int)], leadsF m.2 n.2) ⟨l, rfl, l8⟩)⟩, ?_, ?_, ?_, ?_⟩
                · rw [List.map_append, List.nodup_append]
                  refine ⟨I6.nd, by simp, fun x hx y hy e => ?_⟩
                  rw [List.map_cons, List.map_nil, List.mem_singleton] at hy
                  rw [← e4] at hx
                  have ex : x = leadsF m.2 n.2 := e.trans hy
                  rw [ex] at hx
                  exact nin hx
                · intro z hz
                  rcases List.mem_append.mp hz with z1 | z1
                  · exact List.mem_append_left _ (I6.sub z z1)
                  · exact List.mem_append_right _ z1
                · intro z hz
                  rw [lenD]
                  rcases List.mem_append.mp hz with z1 | z1
                  · exact (I6.ok z z1).more (Nat.le_succ _)
                  · rw [List.mem_singleton.mp z1]
                    refine ⟨lN.1, lN.2.1, lN.2.2, ?_⟩
                    have := ok6.row
                    show (n.1 ++ [(i : Int)]).length ≤ _
                    rw [List.length_append]
                    show n.1.length + 1 ≤ _
                    omega
                · have := I6.wl
                  rw [lenD, List.length_append]
                  show _ + 1 ≤ _
                  omega
              · show (exp1 (LsOf ms) n i (Dn.map (·.2))).1 ++ [leadsF m.2 n.2] = (Dn ++ ((exp1 (LsOf ms) n i (Dn.map (·.2))).2 ++ [(n.1 ++ [(i : Int)], leadsF m.2 n.2)])).map (·.2)
                rw [e4, ← List.append_assoc, List.map_append (l₁ := Dn ++ _)] <;> rfl
              · obtain ⟨az, ez, hz⟩ := up2 (.ref a) n ⟨a, rfl, s68 _ _ (s6 _ _ a5)⟩
                cases ez
                exact hz
            · have isin : leadsF m.2 n.2 ∈ (exp1 (LsOf ms) n i (Dn.map (·.2))).1 := by
                refine Classical.byContradiction fun z => c2 ?_
                rw [decide_eq_false z] <;> rfl
              rw [if_pos isin] at st
              rw [st]
              exact ⟨I6, e4, s6 _ _ a5, _, _, _, _, rfl⟩
          · rintro σ H4 ⟨I4, e4, a4, u2, u3, u4, u5, rfl⟩
            have ul : us.length = ms.length := hU.1
            rw [ul, ← ls_len] at I4 e4
            have fw := I4.few
            rw [List.length_append] at fw
            refine ⟨_, ?_, _, _, I4, fun r h => hpr r (.step _ n W r l1 ?_), rfl, _, _, _, _, _, rfl⟩
            · rw [List.length_append, List.length_append, List.length_cons]
              omega
            · show PR (LsOf ms) (exp1 (LsOf ms) n (LsOf ms).length (Dn.map (·.2))).1 _ r
              rw [e4]
              exact h
      | [], _, _, _, c => cases c
      | v :: ws, [], _, hW, _ => exact absurd hW.1 (by simp)
    · have w0 : ws = [] := by
        cases ws with
        | nil => rfl
        | cons _ _ => exact absurd rfl c
      subst w0
      have W0 : W = [] := by
        cases W with
        | nil => rfl
        | cons _ _ => exact absurd hW.1 (by simp)
      subst W0
      exact k .non none H' I.same (hpr none (.nil _)) rfl
end
end Law

namespace Law
open PySem L2
section
variable {P : Program} {w : World} {K : PySem.W.Frag} {mg : Str → Option Value} {base : Heap}
theorem rgV_up (n : Nat) : rgV 0 (n : Int) = (upto n).map V.int := by
  unfold rgV upto
  rw [List.map_map, show ((n : Int) - 0).toNat = n by omega]
  refine List.map_congr_left fun i _ => ?_
  show V.int (0 + (i : Nat)) = V.int (i : Int)
  rw [Int.zero_add]
def spMrow (K : PySem.W.Frag) (C : Addr) : Sp := fun vs H Q _ => ∃ (q : Addr) (many : Nat) (ms : List Mv), vs = [.ref q] ∧ SysAt K C H q many ms ∧ many ≤ 12 ∧ ms.length ≤ 24 ∧ (∀ m ∈ ms, MvOk many m) ∧
  ∀ (x : V) (r : Option (List Int)) (H' : Hp), Same H H' → PR (LsOf ms) [upto many] [([], upto many)] r → (match r with | none => x = .non | some l => RowAt K H' x l) → Q x H'
abbrev nMergingRow : List Str := ["system"]
theorem scMergingRow : FnScope nMergingRow ["system"] (defScope s_merging_row) := ⟨rfl, rfl, rfl, by decide +kernel, rfl, by decide +kernel, by decide +kernel⟩
theorem ok_merging_row {f : Addr} {fd : FuncData} {fcLeast : Addr} {fdcLeast : FuncData} {C : Addr} (F : Fun K "merging_row" "merging_row" s_merging_row f fd) (T : NmA mg) (cLeast : Cl P w K mg base CX0 3 "least_row_to_one" fcLeast fdcLeast ["system", "start"] (spLeast K C)) (S : SysT K mg C) : FnOk P w K mg base CX0 4 f fd ["system"] (spMrow K C) := by
  refine F.ok scMergingRow (fun vs H Q E h => ?_) (fun cdv A' outer s H vs Q E hr h => ?_)
  · obtain ⟨q, many, ms, rfl, _⟩ := h
    rfl
  · obtain ⟨q, many, ms, rfl, hM, m12, ml, mo, k⟩ := h
    have hu := hu_of hr
    refine ⟨_, pss_one (ps_ret (cLeast.call (hr.mono (by decide)) (pa_cons (pv 0) (pa_cons (pe_tupRg (by rfl) (by rfl) T.tuple (prg_1 (by rfl) T.range (pe_fld (pv 0) rfl))) pa_nil)))), ?_⟩
    obtain ⟨dx, mv, hp, us, hV, hU⟩ := id hM
    refine ⟨_, rfl, _, rfl, q, C, dx, _, _, rfl, hp, S.cl, S.nK, sysF_many _ _, (many : Int), rfl, ?_⟩
    refine ⟨RgOk.of_le (by decide) (by omega) (by decide) (by omega), fun T hT => ?_⟩
    refine new_step hT fun H1 s1 e1 => ?_
    rw [rgV_up] at e1
    exact ⟨q, T, many, ms, upto many, rfl, hM.same s1, m12, ml, mo, e1, by rw [upto_len]; exact m12, upto_in many, lot_id m12 (upto_in many) (upto_asc many), fun x r H2 s2 hr hx => k x r H2 (s1.trans s2) hr hx⟩
theorem filter_lt {cs : List (List Int)} {f : List Int → Bool} (h : cs.all f ≠ true) : (cs.filter f).length < cs.length := by
  rw [List.length_filter_lt_length_iff_exists]
  refine Classical.byContradiction fun z => h ?_
  rw [List.all_eq_true]
  exact fun c hc => Classical.byContradiction fun y => z ⟨c, hc, y⟩
def rowC (n : Nat) (a : Int) : List (List Int) := ((upto n).filter fun b => decide (a < b)).map fun b => [a, b]
def cI (n i : Nat) : List (List Int) := ((upto n).take i).flatMap (rowC n)
def rJ (n : Nat) (a : Int) (j : Nat) : List (List Int) := (((upto n).take j).filter fun b => decide (a < b)).map fun b => [a, b]
theorem cI_all (n : Nat) : cI n n = couplesF n := by
  unfold cI
  rw [List.take_of_length_le (by rw [upto_len]; exact Nat.le_refl _)] <;> rfl
theorem upto_take {n i : Nat} (h : i < n) : (upto n).take (i + 1) = (upto n).take i ++ [(i : Int)] := by
  rw [List.take_add_one, upto_get h] <;> rfl
theorem cI_snoc {n i : Nat} (h : i < n) : cI n (i + 1) = cI n i ++ rowC n (i : Int) := by
  unfold cI
  rw [upto_take h, List.flatMap_append, List.flatMap_cons, List.flatMap_nil, List.append_nil]
theorem rJ_snoc {n j : Nat} (a : Int) (h : j < n) : rJ n a (j + 1) = if a < (j : Int) then rJ n a j ++ [[a, (j : Int)]] else rJ n a j := by
  unfold rJ
  rw [upto_take h, List.filter_append, List.map_append]
  by_cases c : a < (j : Int)
  · rw [if_pos c, List.filter_cons, if_pos (decide_eq_true c)] <;> rfl
  · rw [if_neg c, List.filter_cons, if_neg (by rw [decide_eq_false c]; decide), List.filter_nil, List.map_nil, List.append_nil]
theorem rJ_all (n : Nat) (a : Int) : rJ n a n = rowC n a := by
  unfold rJ rowC
  rw [List.take_of_length_le (by rw [upto_len]; exact Nat.le_refl _)]
theorem couples_few {n : Nat} (hn : n ≤ 12) : (couplesF n).length ≤ 144 := by
  have h : ∀ i, i ≤ n → (cI n i).length ≤ i * n := by
    intro i
    induction i with
    | zero => intro _; exact Nat.zero_le _
    | succ i ih =>
      intro hi
      rw [cI_snoc (by omega), List.length_append, Nat.succ_mul]
      have a := ih (by omega)
      have b : (rowC n (i : Int)).length ≤ n := by
        unfold rowC
        rw [List.length_map]
        refine Nat.le_trans (List.length_filter_le _ _) ?_
        rw [upto_len]
        exact Nat.le_refl _
      omega
  have z := h n (Nat.le_refl _)
  rw [cI_all] at z
  exact Nat.le_trans z (Nat.mul_le_mul hn hn)
theorem co_ok {n : Nat} (hn : n ≤ 12) {cs : List (List Int)} (h : cs.Sublist (couplesF n)) : CoOk n cs := by
  have z := h.length_le
  have y := couples_few hn
  refine ⟨by omega, fun c hc => ?_⟩
  obtain ⟨a, _, b, _⟩ := couple_lot hn (h.mem hc)
  exact ⟨b, a⟩
def spApartP (K : PySem.W.Frag) (C : Addr) : Sp := fun vs H Q _ => ∃ (q : Addr) (many : Nat) (ms : List Mv), vs = [.ref q] ∧ SysAt K C H q many ms ∧ many ≤ 12 ∧ ms.length ≤ 24 ∧ (∀ m ∈ ms, MvOk many m) ∧
  ∀ (a : Addr) (ws : List V) (H' : Hp), Same H H' → SqT K H' a ws → AllIn (RowAt K H') ws (apartF (LsOf ms) many) → Q (.ref a) H'
abbrev nApart : List Str := ["system", "states", "left", "one", "other", "couple", "_", "leads"]
theorem scApart : FnScope nApart ["system"] (defScope s_apart) := ⟨rfl, rfl, rfl, by decide +kernel, rfl, by decide +kernel, by decide +kernel⟩
theorem ok_apart {f : Addr} {fd : FuncData} {fcKeptL : Addr} {fdcKeptL : FuncData} {C fcLotLed : Addr} {fdcLotLed : FuncData} (F : Fun K "apart" "apart" s_apart f fd) (T : NmA mg) (cKeptL : Cl P w K mg base CX0 3 "is_kept" fcKeptL fdcKeptL ["system", "couples"] (spKeptL K C)) (S : SysT K mg C) (cLotLed : Cl P w K mg base CX0 2 "lot_led" fcLotLed fdcLotLed ["leads", "lot"] (spLotLed K)) : FnOk P w K mg base CX0 4 f fd ["system"] (spApartP K C) := by
  refine F.ok scApart (fun vs H Q E h => ?_) (fun cdv A' outer s H vs Q E hr h => ?_)
  · obtain ⟨q, many, ms, rfl, _⟩ := h
    rfl
  · obtain ⟨q, many, ms, rfl, hM, m12, ml, mo, k⟩ := h
    have hu := hu_of hr
    refine ⟨_, pss_cons (ps_set (i := 1) scApart.nd rfl (Or.inr rfl) (pe_callTy cr_range1 (by rfl) T.range (by decide +kernel) (pa_cons (pe_fld (pv 0) rfl) pa_nil)))
      (pss_cons (ps_set (i := 2) scApart.nd rfl (Or.inr rfl) (pe_lc2 (own := [("one", 3), ("other", 4)]) (vs1 := [4]) (g := (gName 3)) (g1 := (gName 4)) (tt := tYes) (tt1 := _) rfl scApart.nd  (pi_rngV (pv 1)) (blkOk_by (own := [("one", 3), ("other", 4)]) (N := nApart) (sc := defScope s_apart) (by decide +kernel)) (by decide) (fun _ _ _ _ _ => (pg_name (i := 3) scApart.nd rfl (Or.inl rfl))) (fun _ _ _ _ _ => pts_nil) (fun _ _ _ _ _ => (show PI _ _ _ (iRngV _) from pi_rngV (pv 1))) (fun _ _ _ _ _ => (pg_name (i := 4) scApart.nd rfl (Or.inl rfl))) (fun _ _ _ _ _ => (pts_one (pt_cmpR op_lt (pv 3) (pv 4) (nomark _)))) (fun _ _ _ _ _ => (pe_tup (pa_cons (pv 3) (pa_cons (pv 4) pa_nil))))))
      (pss_cons (ps_while PassesOwn.never (pt_not (pt_val (cKeptL.call (hr.mono (by decide)) (pa_cons (pv 0) (pa_cons (pv 2) pa_nil)))))
        (pss_one (ps_set (i := 2) scApart.nd rfl (Or.inr rfl) (pe_lc (own := [("couple", 5)]) (g := (gName 5)) (tt := _) rfl scApart.nd  (pi_list (pv 2)) (blkOk_by (own := [("couple", 5)]) (N := nApart) (sc := defScope s_apart) (by decide +kernel)) (fun _ _ _ _ _ => (pg_name (i := 5) scApart.nd rfl (Or.inr rfl))) (fun _ _ _ _ _ => (pts_one (pt_val (pe_callB (r := rAll K) (show CallR _ (.builtin "all") (rAll K) from cr_all rfl) (by rfl) T.all (by decide +kernel) (pa_cons (pe_lc (own := [("_", 6), ("leads", 7)]) (g := (gTup K 2 (gCons (gName 6) (gCons (gName 7) gNil)))) (tt := tYes) rfl scApart.nd  (show PI _ _ _ (iTup K _) from pi_tup (show PE _ _ (tFld K (tVar 0) "moves") from pe_fld (pv 0) rfl)) (blkOk_by (own := [("_", 6), ("leads", 7)]) (N := nApart) (sc := ({ kind := .function, names := [(".0", .local), ("couple", .cell), ("all", .globalImplicit), ("left", .cell), ("system", .cell)], isGenerator := false, isCoroutine := false } : Scope)) (by decide +kernel)) (fun _ _ _ _ _ => (pg_tup (by rfl) (pgs_cons (pg_name (i := 6) scApart.nd rfl (Or.inl rfl)) (pgs_cons (pg_name (i := 7) scApart.nd rfl (Or.inl rfl)) pgs_nil)))) (fun _ _ _ _ _ => pts_nil) (fun _ _ _ _ _ => (pe_cmpR (r := rInD K) (show OpR _ (compareOp .In) (rInD K) from op_inD (units65 hr)) (cLotLed.call (hr.mono (by decide)) (pa_cons (pv 7) (pa_cons (pv 5) pa_nil))) (pv 2) (by rfl)))) pa_nil))))) (fun _ _ _ _ _ => (pv 5))))))
      (pss_one (ps_ret (pe_callTy call_tuple_of (by rfl) T.tuple (by decide +kernel) (pa_cons (pv 2) pa_nil)))))), ?_⟩
    obtain ⟨dx, mv, hp, us, hV, hU⟩ := id hM
    refine ⟨_, rfl, q, C, dx, _, _, rfl, hp, S.cl, S.nK, sysF_many _ _, (many : Int), rfl, fun G hG => ?_⟩
    refine new_step hG fun H1 s1 e1 => ?_
    refine ⟨_, rfl, G, 0, (many : Int), rfl, e1, ⟨by omega, by omega, by omega, by omega⟩, fun D hD => ?_⟩
    refine lpG (walk_range (lo := 0) (n := ((many : Int) - 0).toNat)) (fun i H' => Same H1 H' ∧ ∃ acc, H' D = some (.lst acc) ∧ AllIn (RowAt K H') acc (cI many i) ∧ acc.length ≤ i * 12) ⟨Same.new hD, [], upd_same, by show AllIn _ [] []; exact AllIn.nil, Nat.zero_le _⟩ (fun i H' _ h => True.intro) (fun i x H2 H2' hi g y => ?_) fun H2 g => ?_
    · obtain ⟨rfl, hx⟩ := y
      obtain ⟨s2, acc, d2, A2, l2⟩ := g
      obtain rfl : x = V.int (i : Int) := hx.trans (congrArg V.int (Int.zero_add _))
      have him : i < many := by omega
      refine ⟨rfl, _, rfl, G, 0, (many : Int), rfl, s2 _ _ e1, ⟨by omega, by omega, by omega, by omega⟩, ?_⟩
      refine lpG (walk_range (lo := 0) (n := ((many : Int) - 0).toNat)) (fun j H' => Same H1 H' ∧ ∃ acc, H' D = some (.lst acc) ∧ AllIn (RowAt K H') acc (cI many i ++ rJ many (i : Int) j) ∧ acc.length ≤ i * 12 + j) ⟨s2, acc, d2, by show AllIn _ acc (cI many i ++ []); rw [List.append_nil]; exact A2, l2⟩ (fun i H' _ h => True.intro) (fun j x H3 H3' hj g y => ?_) fun H3 g => ?_
      · obtain ⟨rfl, hx⟩ := y
        obtain ⟨s3, acc3, d3, A3, l3⟩ := g
        obtain rfl : x = V.int (j : Int) := hx.trans (congrArg V.int (Int.zero_add _))
        have hjm : j < many := by omega
        refine ⟨rfl, _, rfl, _, rfl, _, _, rfl, rfl, _, rfl, ite2 (fun c => ?_) (fun c => ?_)⟩
        · have c := of_decide_eq_true c
          rw [rJ_snoc _ hjm, if_pos c, ← List.append_assoc]
          refine ⟨_, rfl, _, rfl, by show 2 ≤ sizeLine; decide, fun t ht => ?_⟩
          refine new_step ht fun H4 s4 e4 => ?_
          have d4 := s4 _ _ d3
          refine ⟨_, d4, by rw [sizeLine_eq]; omega, (s3.trans s4).mut hD, _, upd_same, (A3.mono fun _ _ z => (z.same s4).upd d4).snoc ⟨t, rfl, ?_⟩, by rw [List.length_append]; show _ + 1 ≤ _; omega⟩
          exact sqT_updL d4 (SqT.of e4)
        · have c : ¬ (i : Int) < (j : Int) := fun z => c (decide_eq_true z)
          rw [rJ_snoc _ hjm, if_neg c]
          exact ⟨s3, acc3, d3, A3, by omega⟩
      · obtain ⟨s3, acc3, d3, A3, l3⟩ := g
        have e : ((many : Int) - 0).toNat = many := by omega
        rw [e, rJ_all, ← cI_snoc him] at A3
        rw [e] at l3
        exact ⟨s3, acc3, d3, A3, by omega⟩
    · obtain ⟨s2, acc, d2, A2, l2⟩ := g
      have e : ((many : Int) - 0).toNat = many := by omega
      rw [e, cI_all] at A2
      have sH2 := s1.trans s2
      refine ⟨fun m σ H' => Same H H' ∧ ∃ (D : Addr) (ws : List V) (cs : List (List Int)) (p : List Int → Bool), H' D = some (.lst ws) ∧ AllIn (RowAt K H') ws cs ∧ cs = (couplesF many).filter p ∧ (∀ c ∈ apartF (LsOf ms) many, c ∈ cs) ∧ m = cs.length ∧ ∃ u3 u4 u5 u6 u7 : Option V, σ = [some (.ref q), some (.ref G), some (.ref D), u3, u4, u5, u6, u7], ⟨_, sH2, D, acc, couplesF many, fun _ => true, d2, A2, (List.filter_eq_self.mpr fun _ _ => rfl).symm, fun c hc => (apart_mem.mp hc).1, rfl, none, none, none, none, none, rfl⟩, ?_⟩
      rintro m σ H3 ⟨s3, D, ws, cs, p, d3, A3, ec, hap, rfl, u3, u4, u5, u6, u7, rfl⟩
      have csub : cs.Sublist (couplesF many) := by rw [ec]; exact List.filter_sublist
      have cok := co_ok m12 csub
      refine ⟨_, rfl, _, rfl, q, D, many, ms, ws, cs, rfl, hM.same s3, m12, ml, mo, SqL.of d3, A3, cok, fun H4 s4 => ⟨_, rfl, ite2 (fun c => ?_) (fun c => ?_)⟩⟩
      · have kf : keptB (LsOf ms) cs ≠ true := fun z => by rw [z] at c; cases c
        have d4 := s4 _ _ d3
        have A4 := A3.mono fun _ _ z => z.same s4
        have s04 := s3.trans s4
        refine ⟨fun σ' H1 => ∃ m', m' < _ ∧ Same H H1 ∧ ∃ (D : Addr) (ws : List V) (cs : List (List Int)) (p : List Int → Bool), H1 D = some (.lst ws) ∧ AllIn (RowAt K H1) ws cs ∧ cs = (couplesF many).filter p ∧ (∀ c ∈ apartF (LsOf ms) many, c ∈ cs) ∧ m' = cs.length ∧ ∃ u3 u4 u5 u6 u7 : Option V, σ' = [some (.ref q), some (.ref G), some (.ref D), u3, u4, u5, u6, u7], fun _ _ h => h, ?_⟩
        refine ⟨_, rfl, D, rfl, ⟨_, SqL.of d4⟩, fun E hE => ?_⟩
        refine lpG (walk_list (K := K) (a := D) (xs := ws)) (fun i H' => Same H4 H' ∧ ∃ acc, H' E = some (.lst acc) ∧ AllIn (RowAt K H') acc ((cs.take i).filter fun c => (LsOf ms).all fun xs => decide (leadsF xs c ∈ cs)) ∧ acc.length ≤ i) ⟨Same.new hE, [], upd_same, AllIn.nil, Nat.zero_le _⟩ (fun i H' _ h => SqL.of (h.1 _ _ d4)) (fun i x H5 H5' hi g y => ?_) fun H5 g => ?_
        · obtain ⟨rfl, hx⟩ := y
          obtain ⟨s5, acc, e5, A5, l5⟩ := g
          obtain ⟨cc, hc, a, rfl, ha⟩ := A4.2 i x hx
          obtain ⟨c2, cN⟩ := cok.2 cc (List.mem_of_getElem? hc)
          have il := (List.getElem?_eq_some_iff.mp hc).1
          have s05 := s04.trans s5
          refine ⟨rfl, _, rfl, q, C, dx, _, _, rfl, s05 _ _ hp, S.cl, S.nM, sysF_moves _ _, mv, rfl, ⟨_, s05.sqT hV⟩, fun B hB => ?_⟩
          refine lpG (walk_tup (K := K) (a := mv) (xs := us)) (fun j H' => Same H5' H' ∧ H' B = some (.lst (((rowB (LsOf ms) cs cc).take j).map V.bl))) ⟨Same.new hB, upd_same⟩ (fun j H' _ h => (s05.trans h.1).sqT hV) (fun j z H6 H6' hj g y => ?_) fun H6 g => ?_
          · obtain ⟨rfl, hz⟩ := y
            obtain ⟨s6, b6⟩ := g
            obtain ⟨m, hm, aa, sa, la, rfl, h3, h4, h5⟩ := hU.2 j z hz
            obtain ⟨_, _, _, m1, m2⟩ := mo m (List.mem_of_getElem? hm)
            have jl := (List.getElem?_eq_some_iff.mp hm).1
            have s06 := s05.trans s6
            refine ⟨aa, _, rfl, s06.sqT h3, rfl, _, _, rfl, _, _, rfl, rfl, ?_⟩
            refine ⟨rfl, _, rfl, _, rfl, la, a, m.2, cc, rfl, s06.sqT h5, (s5.trans s6).sqT ha, by omega, fun s hs => by rw [m1]; exact cN s hs, fun s hs => by have := m2 s hs; omega, fun l H7 s7 e7 => ?_⟩
            have s47 := (s5.trans s6).trans s7
            refine ⟨_, rfl, tupD (leadsF m.2 cc), cs.map tupD, .tup (SqT.of e7) (dp_ints _), .lst (SqL.of (s47 _ _ d4)) (dp_all (g := tupD) (R := RowAt K H7) (fun _ _ => dp_row) (A4.mono fun _ _ => RowAt.same s47)), sh_tup _, sh_lst _, ?_⟩
            refine ⟨_, s7 _ _ b6, ?_, (s6.trans s7).mut hB, ?_⟩
            · rw [List.length_map, List.length_take, sizeLine_eq]
              unfold LsOf rowB
              rw [List.length_map, List.length_map]
              omega
            · rw [upd_same, any_tup, List.take_add_one (i := j)]
              have e : (rowB (LsOf ms) cs cc)[j]? = some (decide (leadsF m.2 cc ∈ cs)) := by
                unfold rowB LsOf
                rw [List.getElem?_map, List.getElem?_map, hm] <;> rfl
              rw [e, List.map_append] <;> rfl
          · obtain ⟨s6, b6⟩ := g
            rw [List.take_of_length_le (l := rowB (LsOf ms) cs cc) (by unfold rowB LsOf; rw [List.length_map, List.length_map, hU.1]; exact Nat.le_refl _)] at b6
            refine ⟨B, _, rfl, SqL.of b6, _, rfl, ?_⟩
            have ef : (rowB (LsOf ms) cs cc).all id = (LsOf ms).all fun xs => decide (leadsF xs cc ∈ cs) := by
              unfold rowB
              rw [List.all_map] <;> rfl
            have tk : (cs.take (i + 1)).filter (fun c => (LsOf ms).all fun xs => decide (leadsF xs c ∈ cs)) = (cs.take i).filter (fun c => (LsOf ms).all fun xs => decide (leadsF xs c ∈ cs)) ++ (if ((LsOf ms).all fun xs => decide (leadsF xs cc ∈ cs)) = true then [cc] else []) := by
              rw [List.take_add_one, hc, List.filter_append]
              show _ ++ List.filter _ [cc] = _
              rw [List.filter_cons, List.filter_nil]
            rw [ef, tk]
            have e6 := s6 _ _ e5
            refine ite2 (fun h => ?_) (fun h => ?_)
            · rw [if_pos h]
              exact ⟨_, rfl, _, e6, by rw [sizeLine_eq]; have := cok.1; omega, (s5.trans s6).mut hE, _, upd_same, (A5.mono fun _ _ z => (z.same s6).upd e6).snoc ⟨a, rfl, sqT_updL e6 ((s5.trans s6).sqT ha)⟩, by rw [List.length_append]; show _ + 1 ≤ _; omega⟩
            · rw [if_neg h, List.append_nil]
              exact ⟨s5.trans s6, acc, e6, A5.mono fun _ _ z => z.same s6, by omega⟩
        · obtain ⟨s5, acc, e5, A5, l5⟩ := g
          rw [A4.1, List.take_length] at A5
          refine ⟨_, filter_lt kf, s04.trans s5, E, acc, _, _, e5, A5, by rw [ec, List.filter_filter], fun c hc => List.mem_filter.mpr ⟨hap c hc, ?_⟩, rfl, _, _, _, _, _, rfl⟩
          rw [List.all_eq_true]
          exact fun xs hx => decide_eq_true (hap _ (apart_kept m12 (ls_ok mo) hc hx))
      · have kt : keptB (LsOf ms) cs = true := Classical.byContradiction fun z => c (by rw [Bool.not_eq_true] at z; rw [z] <;> rfl)
        have d4 := s4 _ _ d3
        have A4 := A3.mono fun _ _ z => z.same s4
        refine ⟨_, rfl, D, ws, rfl, .inl ⟨SqL.of d4, fun T hT => ?_⟩⟩
        have kt2 : ∀ c ∈ cs, ∀ xs ∈ LsOf ms, leadsF xs c ∈ cs := fun c hc xs hx => by
          unfold keptB at kt
          rw [List.all_eq_true] at kt
          have z := kt c hc
          rw [List.all_eq_true] at z
          exact of_decide_eq_true (z xs hx)
        have ea : cs = apartF (LsOf ms) many := by
          rw [ec]
          refine filter_apart fun c hc => ⟨fun hp r hr => ?_, fun ha => ?_⟩
          · exact kept_apart m12 (fun c hc => csub.mem hc) kt2 r c (by rw [ec]; exact List.mem_filter.mpr ⟨hc, hp⟩) hr
          · have z := hap c (apart_mem.mpr ⟨hc, ha⟩)
            rw [ec] at z
            exact (List.mem_filter.mp z).2
        rw [ea] at A4
        exact k T ws _ ((s3.trans s4).trans (Same.new hT)) (SqT.of upd_same) (A4.mono fun _ _ z => z.same (Same.new hT))
end
end Law

namespace L2
open PySem PySem.Spec PyProof.Rows Law RZ
theorem walk_zipT {K : PySem.W.Frag} {a b : Addr} {xs ys : List V} {n : Nat} (hn : n = min xs.length ys.length) : Walk (ItzT K a b) n (fun H => SqT K H a xs ∧ SqT K H b ys) (YPair (fun i => xs[i]?) (fun i => ys[i]?)) := by
  subst hn
  refine ⟨fun i _ hi q => ?_, fun _ q => ⟨xs, ys, q.1, q.2, by omega⟩, fun i H v H' _ q y => ?_⟩
  · have h1 : i < xs.length := by omega
    have h2 : i < ys.length := by omega
    exact ⟨xs, ys, xs[i], ys[i], q.1, q.2, by simp [h1], by simp [h2]⟩
  · obtain ⟨T, x, z, h1, h2, h3, h4, h5⟩ := y
    exact ⟨T, x, z, h1, h2, h3, h4 xs q.1, h5 ys q.2⟩
end L2
namespace Law
open PySem L2
def EqAt (K : PySem.W.Frag) (H : Hp) : Nat → V → V → Prop
  | 0, x, y => ∃ i : Int, x = .int i ∧ y = .int i
  | n + 1, x, y => ∃ a b xs ys, x = .ref a ∧ y = .ref b ∧ SqT K H a xs ∧ SqT K H b ys ∧ xs.length = ys.length ∧ xs.length ≤ 1000 ∧ ∀ (i : Nat) (u v : V), xs[i]? = some u → ys[i]? = some v → EqAt K H n u v
theorem EqAt.same {K : PySem.W.Frag} {H H' : Hp} (s : Same H H') : ∀ {n : Nat} {x y : V}, EqAt K H n x y → EqAt K H' n x y
  | 0, _, _, h => h
  | n + 1, x, y, ⟨a, b, xs, ys, e1, e2, h1, h2, h3, h4, h5⟩ => ⟨a, b, xs, ys, e1, e2, s.sqT h1, s.sqT h2, h3, h4, fun i u v hu hv => EqAt.same s (h5 i u v hu hv)⟩
theorem clsTL : Paired ClsV [.ty "tuple", .ty "list"] [.type "tuple", .type "list"] := .cons (.ty _) (.cons (.ty _) .nil)
theorem kitTL {K : PySem.W.Frag} : PySem.W.kitAny K (.type "tuple") [.type "tuple", .type "list"] = some true := kitAny_cons kit_tt (fun h => by cases h) (fun _ => rfl)
theorem kitTI {K : PySem.W.Frag} : PySem.W.kitAny K (.type "int") [.type "tuple", .type "list"] = some false := kitAny_cons (b := false) (kit_ty (by decide +kernel)) (fun _ => kitAny_cons (b := false) (kit_ty (by decide +kernel)) (fun _ => kitAny_nil) (fun h => by cases h)) (fun h => by cases h)
theorem rep_snocB (n : Nat) : (List.replicate n true).map V.bl ++ [.bl true] = (List.replicate (n + 1) true).map V.bl := by
  rw [List.replicate_succ', List.map_append] <;> rfl
theorem all_trueB : ∀ n, (List.replicate n true).all id = true
  | 0 => rfl
  | n + 1 => by rw [List.replicate_succ, List.all_cons, all_trueB n] <;> rfl
section
variable {P : Program} {w : World} {K : PySem.W.Frag} {mg : Str → Option Value} {base : Heap}
def spIs (K : PySem.W.Frag) (n : Nat) : Sp := fun vs H Q _ => ∃ x y, vs = [x, y] ∧ EqAt K H n x y ∧ ∀ H', Same H H' → Q (.bl true) H'
abbrev nLawIs0 : List Str := ["_law_told", "_law_due", "_law_one", "_law_two"]
theorem scLawIs0 : FnScope nLawIs0 ["_law_told", "_law_due"] (defScope s_law_is) := ⟨rfl, rfl, rfl, by decide +kernel, rfl, by decide +kernel, by decide +kernel⟩
theorem ok_is0 {f : Addr} {fd : FuncData} (F : Fun K "_law_is" "_law_is" s_law_is f fd) (T : NmA mg) : FnOk P w K mg base CX0 1 f fd ["_law_told", "_law_due"] (spIs K 0) := by
  refine F.ok scLawIs0 (fun vs H Q E h => ?_) (fun cdv A' outer s H vs Q E hr h => ?_)
  · obtain ⟨x, y, rfl, _⟩ := h
    rfl
  · obtain ⟨x, y, rfl, hE, k⟩ := h
    have hu := hu_of hr
    refine ⟨_, pss_cons (ps_if (pt_val (pe_callB call_isiT (by rfl) T.isi (by decide +kernel) (pa_cons (pv 1) (pa_cons (pe_tup (pa_cons (pe_bltn (v := .ty "tuple") (u := .type "tuple") (by rfl) T.tuple (by decide +kernel) rfl) (pa_cons (pe_bltn (v := .ty "list") (u := .type "list") (by rfl) T.list (by decide +kernel) rfl) pa_nil))) pa_nil))))
        pss_never pss_nil)
      (pss_one (ps_ret (pe_and (pe_cmpR op_eq (pe_callB call_isi (by rfl) T.isi (by decide +kernel) (pa_cons (pv 0) (pa_cons (pe_bltn (v := .ty "bool") (u := .type "bool") (by rfl) T.bool (by decide +kernel) rfl) pa_nil))) (pe_callB call_isi (by rfl) T.isi (by decide +kernel) (pa_cons (pv 1) (pa_cons (pe_bltn (v := .ty "bool") (u := .type "bool") (by rfl) T.bool (by decide +kernel) rfl) pa_nil))) (nomark _)) (pe_one (pe_cmpR op_eq (pv 0) (pv 1) (nomark _)))))), ?_⟩
    obtain ⟨i, rfl, rfl⟩ := hE
    refine ⟨_, rfl, by show 2 ≤ sizeLine; decide, fun T hT => ?_⟩
    refine new_step hT fun H1 s1 e1 => ?_
    refine ⟨.int i, T, _, _, _, false, rfl, e1, clsTL, .base (.int i), kitTI, _, rfl, iteF ?_⟩
    refine ⟨_, rfl, _, _, _, _, _, rfl, .ty "bool", .base (.int i), kit_ty (r := false) (by decide +kernel), _, rfl, _, _, _, _, _, rfl, .ty "bool", .base (.int i), kit_ty (r := false) (by decide +kernel), rfl, _, rfl, iteT ?_⟩
    refine ⟨_, rfl, _, rfl, rfl, ?_⟩
    rw [decide_eq_true rfl]
    exact k H1 s1
abbrev nLawIs : List Str := ["_law_told", "_law_due", "_law_one", "_law_two"]
theorem scLawIs : FnScope nLawIs ["_law_told", "_law_due"] (defScope s_law_is) := ⟨rfl, rfl, rfl, by decide +kernel, rfl, by decide +kernel, by decide +kernel⟩
theorem ok_iss {f : Addr} {fd : FuncData} {fcIsn : Addr} {fdcIsn : FuncData} {n : Nat} (F : Fun K "_law_is" "_law_is" s_law_is f fd) (T : NmA mg) (cIsn : Cl P w K mg base CX0 (n + 1) "_law_is" fcIsn fdcIsn ["_law_told", "_law_due"] (spIs K n)) : FnOk P w K mg base CX0 (n + 2) f fd ["_law_told", "_law_due"] (spIs K (n + 1)) := by
  refine F.ok scLawIs (fun vs H Q E h => ?_) (fun cdv A' outer s H vs Q E hr h => ?_)
  · obtain ⟨x, y, rfl, _⟩ := h
    rfl
  · obtain ⟨x, y, rfl, hE, k⟩ := h
    have hu := hu_of hr
    refine ⟨_, pss_cons (ps_if (pt_val (pe_callB call_isiT (by rfl) T.isi (by decide +kernel) (pa_cons (pv 1) (pa_cons (pe_tup (pa_cons (pe_bltn (v := .ty "tuple") (u := .type "tuple") (by rfl) T.tuple (by decide +kernel) rfl) (pa_cons (pe_bltn (v := .ty "list") (u := .type "list") (by rfl) T.list (by decide +kernel) rfl) pa_nil))) pa_nil))))
        (pss_cons (ps_if (PW.pt (pw_or (pt_cmpR op_ne (pe_callB call_isi (by rfl) T.isi (by decide +kernel) (pa_cons (pv 0) (pa_cons (pe_bltn (v := .ty "tuple") (u := .type "tuple") (by rfl) T.tuple (by decide +kernel) rfl) pa_nil))) (pe_callB call_isi (by rfl) T.isi (by decide +kernel) (pa_cons (pv 1) (pa_cons (pe_bltn (v := .ty "tuple") (u := .type "tuple") (by rfl) T.tuple (by decide +kernel) rfl) pa_nil))) (nomark _)) (pw_or1 (pt_not (pt_val (pe_callB call_isiT (by rfl) T.isi (by decide +kernel) (pa_cons (pv 0) (pa_cons (pe_tup (pa_cons (pe_bltn (v := .ty "tuple") (u := .type "tuple") (by rfl) T.tuple (by decide +kernel) rfl) (pa_cons (pe_bltn (v := .ty "list") (u := .type "list") (by rfl) T.list (by decide +kernel) rfl) pa_nil))) pa_nil))))))))
          (pss_one (ps_ret pe_bl)) pss_nil)
        (pss_one (ps_ret (pe_and (pe_cmpR op_eq (pe_callB call_len_seq (by rfl) T.len PySem.boot_len (pa_cons (pv 0) pa_nil)) (pe_callB call_len_seq (by rfl) T.len PySem.boot_len (pa_cons (pv 1) pa_nil)) (nomark _)) (pe_one (pe_callB (cr_all rfl) (by rfl) T.all (by decide +kernel) (pa_cons (pe_lc (own := [("_law_one", 2), ("_law_two", 3)]) (g := (gTup K 2 (gCons (gName 2) (gCons (gName 3) gNil)))) (tt := tYes) rfl scLawIs.nd  (RZ.pi_zipA (by rfl) T.zip (pa_cons (pv 0) (pa_cons (pv 1) pa_nil))) (blkOk_by (own := [("_law_one", 2), ("_law_two", 3)]) (N := nLawIs) (sc := defScope s_law_is) (by decide +kernel)) (fun _ _ _ _ _ => (pg_tup (by rfl) (pgs_cons (pg_name (i := 2) scLawIs.nd rfl (Or.inl rfl)) (pgs_cons (pg_name (i := 3) scLawIs.nd rfl (Or.inl rfl)) pgs_nil)))) (fun _ _ _ _ _ => pts_nil) (fun _ _ _ _ _ => (cIsn.call hr (pa_cons (pv 2) (pa_cons (pv 3) pa_nil))))) pa_nil))))))) pss_nil)
      (pss_one (ps_ret (pe_and (pe_cmpR op_eq (pe_callB call_isi (by rfl) T.isi (by decide +kernel) (pa_cons (pv 0) (pa_cons (pe_bltn (v := .ty "bool") (u := .type "bool") (by rfl) T.bool (by decide +kernel) rfl) pa_nil))) (pe_callB call_isi (by rfl) T.isi (by decide +kernel) (pa_cons (pv 1) (pa_cons (pe_bltn (v := .ty "bool") (u := .type "bool") (by rfl) T.bool (by decide +kernel) rfl) pa_nil))) (nomark _)) (pe_one (pe_cmpR (op_eqD hr.units) (pv 0) (pv 1) (nomark _)))))), ?_⟩
    obtain ⟨a, b, xs, ys, rfl, rfl, hx, hy, el, xl, ev⟩ := hE
    refine ⟨_, rfl, by show 2 ≤ sizeLine; decide, fun T hT => ?_⟩
    refine new_step hT fun H1 s1 e1 => ?_
    refine ⟨.ref b, T, _, _, _, true, rfl, e1, clsTL, tyx_tup (s1.sqT hy), kitTL, _, rfl, iteT ?_⟩
    refine ⟨_, rfl, _, _, _, _, _, rfl, .ty "tuple", tyx_tup (s1.sqT hx), kit_tt, _, rfl, _, _, _, _, _, rfl, .ty "tuple", tyx_tup (s1.sqT hy), kit_tt, rfl, _, rfl, iteF ?_⟩
    refine ⟨_, rfl, by show 2 ≤ sizeLine; decide, fun T2 hT2 => ?_⟩
    refine new_step hT2 fun H2 s2 e2 => ?_
    refine ⟨.ref a, T2, _, _, _, true, rfl, e2, clsTL, tyx_tup (s2.sqT (s1.sqT hx)), kitTL, _, rfl, iteF ?_⟩
    have s12 := s1.trans s2
    refine ⟨_, rfl, a, _, rfl, .inr (s12.sqT hx), _, rfl, b, _, rfl, .inr (s12.sqT hy), rfl, _, rfl, ite2 (fun _ => ?_) (fun h => absurd (decide_eq_true (by rw [el])) h)⟩
    have hx2 := s12.sqT hx
    have hy2 := s12.sqT hy
    refine ⟨_, rfl, _, rfl, a, b, _, _, rfl, .inr ⟨hx2, hy2, fun D hD => ?_⟩⟩
    refine lc_it (walk_zipT (xs := xs) (ys := ys) (n := xs.length) (by omega)) (fun i H' => Same H2 H' ∧ H' D = some (.lst ((List.replicate i true).map V.bl))) ⟨Same.new hD, upd_same⟩ (fun i H' _ h => ⟨h.1.sqT hx2, h.1.sqT hy2⟩) (fun i x H3 H4 hi g y => ?_) fun H3 g => ?_
    · obtain ⟨s3, d3⟩ := g
      obtain ⟨T3, u, v, rfl, hT3, rfl, hu1, hv1⟩ := y
      refine new_step hT3 fun H4 s4 e4 => ?_
      have s24 := s3.trans s4
      refine ⟨T3, _, rfl, SqT.of e4, rfl, _, _, rfl, _, _, rfl, rfl, ?_⟩
      refine ⟨rfl, _, rfl, _, rfl, u, v, rfl, EqAt.same (s12.trans s24) (ev i u v hu1 hv1), fun H5 s5 => ?_⟩
      refine ⟨_, s5 _ _ (s4 _ _ d3), by rw [List.length_map, List.length_replicate, sizeLine_eq]; omega, (s24.trans s5).mut hD, ?_⟩
      rw [upd_same, rep_snocB]
    · obtain ⟨s3, d3⟩ := g
      refine ⟨D, _, rfl, SqL.of d3, ?_⟩
      rw [all_trueB]
      exact k H3 (s12.trans s3)
theorem ok_isn {f : Addr} {fd : FuncData} (F : Fun K "_law_is" "_law_is" s_law_is f fd) (T : NmA mg) (bF : Binds K fd ["_law_told", "_law_due"] []) (mF : mg "_law_is" = some (.ref f)) (kF : PySem.W.keepIn K (.ref f) = true) : ∀ n, FnOk P w K mg base CX0 (n + 1) f fd ["_law_told", "_law_due"] (spIs K n)
  | 0 => ok_is0 F T
  | n + 1 => ok_iss F T ⟨ok_isn F T bF mF kF n, bF, mF, kF⟩
def spIs2 (K : PySem.W.Frag) : Sp := fun vs H Q E => ∃ n, n ≤ 2 ∧ spIs K n vs H Q E
theorem ok_is2 {f : Addr} {fd : FuncData} (F : Fun K "_law_is" "_law_is" s_law_is f fd) (T : NmA mg) (bF : Binds K fd ["_law_told", "_law_due"] []) (mF : mg "_law_is" = some (.ref f)) (kF : PySem.W.keepIn K (.ref f) = true) : FnOk P w K mg base CX0 3 f fd ["_law_told", "_law_due"] (spIs2 K) := by
  refine ⟨fun vs H Q E h => ?_, fun A outer s H args us vs Q E hr he hb hv hs => ?_⟩
  · obtain ⟨n, _, h⟩ := h
    exact (ok_isn (P := P) (w := w) (base := base) F T bF mF kF n).len vs H Q E h
  · obtain ⟨n, hn, h⟩ := hs
    exact (ok_isn (P := P) (w := w) (base := base) F T bF mF kF n).run A outer s H args us vs Q E (hr.mono (by omega)) he hb hv h
end
end Law

namespace LZ
open PySem PySem.W
theorem isl {h h' : Heap} {a : Addr} {xs : Array Value} (x : h.IsList a xs) (e : ∀ o, h.get? a = some o → h'.get? a = some o) : h'.IsList a xs := by
  obtain ⟨o, h1, h2⟩ := x
  exact ⟨o, e _ h1, h2⟩
section
variable {prog : Program} {w : World} {A : Around} {E : Value → Shared → Prop} {s : Shared} {R : Result → Shared → Prop} {z TI TO i1 i2 l1 l2 S : Addr} {xs ys : Array Value}
/-- a zip of two lists of which i pairs were taken into the list S -/
structure Zat (h : Heap) (z TI TO i1 i2 l1 l2 S : Addr) (xs ys : Array Value) (i : Nat) : Prop where
  out : (IsZip h z TI TO .none ∧ ∃ a b, IsPair h TO a b) ∨ ∃ (T : Addr) (f : Bool) (oT : Obj), IsZipHeld h z TI TO T f ∧ h.get? T = some oT ∧ S < T
  tis : IsPair h TI (.ref i1) (.ref i2)
  it1 : h.IsListIter i1 l1 i
  it2 : h.IsListIter i2 l2 i
  li1 : h.IsList l1 xs
  li2 : h.IsList l2 ys
/-- where all stands -/
structure Zlo (z TI TO i1 i2 l1 l2 S : Addr) : Prop where
  ap : ZipApart z TI TO i1 i2 l1 l2
  zS : z < S
  TIS : TI < S
  TOS : TO < S
  i1S : i1 < S
  i2S : i2 < S
  l1S : l1 < S
  l2S : l2 < S
theorem Zat.keep {h h' : Heap} {i : Nat} (L : Zlo z TI TO i1 i2 l1 l2 S) (x : Zat h z TI TO i1 i2 l1 l2 S xs ys i) (hk : ∀ b o, b ≠ S → h.get? b = some o → h'.get? b = some o) : Zat h' z TI TO i1 i2 l1 l2 S xs ys i where
  out := by
    rcases x.out with ⟨e, a, b, ho⟩ | ⟨T, f, oT, e, ho, hT⟩
    · exact .inl ⟨hk _ _ (Nat.ne_of_lt L.zS) e, a, b, hk _ _ (Nat.ne_of_lt L.TOS) ho⟩
    · exact .inr ⟨T, f, oT, hk _ _ (Nat.ne_of_lt L.zS) e, hk _ _ (Nat.ne_of_gt hT) ho, hT⟩
  tis := hk _ _ (Nat.ne_of_lt L.TIS) x.tis
  it1 := x.it1.at fun o e => hk _ o (Nat.ne_of_lt L.i1S) e
  it2 := x.it2.at fun o e => hk _ o (Nat.ne_of_lt L.i2S) e
  li1 := isl x.li1 fun o e => hk _ o (Nat.ne_of_lt L.l1S) e
  li2 := isl x.li2 fun o e => hk _ o (Nat.ne_of_lt L.l2S) e
theorem zat_item {i : Nat} {x y : Value} {Q : Option Value → Shared → Prop} (L : Zlo z TI TO i1 i2 l1 l2 S) (st : Zat s.heap z TI TO i1 i2 l1 l2 S xs ys i) (hS : S < s.heap.objs.size) (hx : xs[i]? = some x) (hy : ys[i]? = some y)
    (hQ : ∀ h', Zat h' z TI TO i1 i2 l1 l2 S xs ys (i + 1) → IsPair h' s.heap.objs.size x y → (∀ b o, b ≠ z → b ≠ TO → b ≠ i1 → b ≠ i2 → s.heap.get? b = some o → h'.get? b = some o) → Q (some (.ref s.heap.objs.size)) { s with heap := h' }) :
    wpAny (model prog w) A (pyNext (.ref z)) Q E s := by
  have D := L.ap
  rcases st.out with ⟨e, a, b, ho⟩ | ⟨T, f, oT, e, ho, hT⟩
  · refine wpAny_pyNext_zip_item D e st.tis ho st.it1 st.it2 st.li1 st.li2 hx hy fun h' a1 a2 a3 a4 a5 a6 a7 => hQ h' ?_ a5 a7
    exact ⟨.inr ⟨_, false, _, a1, a5, hS⟩, a7 _ _ D.TIz D.TITO D.TIi1 D.TIi2 st.tis, a3, a4, isl st.li1 fun o q => a7 _ o D.l1z D.l1TO D.l1i1 D.l1i2 q, isl st.li2 fun o q => a7 _ o D.l2z D.l2TO D.l2i1 D.l2i2 q⟩
  · have nT : ∀ c, c < S → T ≠ c := fun c hc q => by rw [q] at hT; exact absurd hT (Nat.not_lt.mpr (Nat.le_of_lt hc))
    refine wpAny_pyNext_zip_item_held D e ho st.tis st.it1 st.it2 st.li1 st.li2 hx hy fun h' a1 a3 a4 a5 a6 a7 => hQ h' ?_ a5 fun b o h1 _ h3 h4 q => a7 b o h1 h3 h4 q
    exact ⟨.inr ⟨T, true, oT, a1, a7 _ _ (nT _ L.zS) (nT _ L.i1S) (nT _ L.i2S) ho, hT⟩, a7 _ _ D.TIz D.TIi1 D.TIi2 st.tis, a3, a4, isl st.li1 fun o q => a7 _ o D.l1z D.l1i1 D.l1i2 q, isl st.li2 fun o q => a7 _ o D.l2z D.l2i1 D.l2i2 q⟩
theorem zat_done {i : Nat} {Q : Option Value → Shared → Prop} (hh : A.handled = none) (L : Zlo z TI TO i1 i2 l1 l2 S) (st : Zat s.heap z TI TO i1 i2 l1 l2 S xs ys i) (hx : xs[i]? = none)
    (hQ : ∀ h', (∀ b o, b ≠ z → b ≠ TO → b ≠ i1 → b ≠ i2 → s.heap.get? b = some o → h'.get? b = some o) → Q none { s with heap := h' }) : wpAny (model prog w) A (pyNext (.ref z)) Q E s := by
  rcases st.out with ⟨e, a, b, ho⟩ | ⟨T, f, oT, e, ho, hT⟩
  · exact wpAny_pyNext_zip_end hh L.ap e st.tis ho st.it1 st.it2 st.li1 st.li2 (.inl hx) fun h' k => hQ h' k
  · exact wpAny_pyNext_zip_end_held hh L.ap e ho st.tis st.it1 st.it2 st.li1 st.li2 (.inl hx) fun h' k => hQ h' fun b o h1 _ h3 h4 q => k b o h1 h3 h4 q
/-- the pairs taken so far stand at as -/
structure Zgot (h : Heap) (S : Addr) (xs ys : Array Value) (as : List Addr) : Prop where
  up : as.Pairwise (· < ·)
  over : ∀ a ∈ as, S < a
  at_ : ∀ (j : Nat) (a : Addr), as[j]? = some a → ∃ x y, xs[j]? = some x ∧ ys[j]? = some y ∧ IsPair h a x y
theorem Zgot.keep {h h' : Heap} {as : List Addr} (g : Zgot h S xs ys as) (hk : ∀ b o, S < b → h.get? b = some o → h'.get? b = some o) : Zgot h' S xs ys as := by
  refine ⟨g.up, g.over, fun j a hj => ?_⟩
  obtain ⟨x, y, e1, e2, e3⟩ := g.at_ j a hj
  exact ⟨x, y, e1, e2, hk _ _ (g.over a (List.mem_of_getElem? hj)) e3⟩
theorem zl_loop (hh : A.handled = none) (L : Zlo z TI TO i1 i2 l1 l2 S) (he : xs.size = ys.size) (hn : xs.size ≤ 1000) (res : Value) {h₁ : Heap}
    (hR : ∀ h' tk acc c as, (∀ b o, b ≠ S → b ≠ z → b ≠ TO → b ≠ i1 → b ≠ i2 → h₁.get? b = some o → h'.get? b = some o) → h'.get? S = some { cls := .type "list", dict := none, data := .seq acc c, slots := #[] } →
      as.length = xs.size → Zgot h' S xs ys as → acc.toList = as.map Value.ref → R (.ok (.ret res)) { s with heap := h', toks := tk }) :
    ∀ (k i : Nat) (h : Heap) (tk c : Nat) (acc : Array Value) (as : List Addr), xs.size - i = k → i ≤ xs.size → Zat h z TI TO i1 i2 l1 l2 S xs ys i → (∀ b o, b ≠ S → b ≠ z → b ≠ TO → b ≠ i1 → b ≠ i2 → h₁.get? b = some o → h.get? b = some o) →
      h.get? S = some { cls := .type "list", dict := none, data := .seq acc c, slots := #[] } → acc.toList = as.map Value.ref → as.length = i → Zgot h S xs ys as →
      codeAny (model prog w) A (.builtin "list.extend.loop" ⟨[.ref S, .ref z, res], []⟩) R { s with heap := h, toks := tk } := by
  have nz : S ≠ z := Nat.ne_of_gt L.zS
  have nO : S ≠ TO := Nat.ne_of_gt L.TOS
  have n1 : S ≠ i1 := Nat.ne_of_gt L.i1S
  have n2 : S ≠ i2 := Nat.ne_of_gt L.i2S
  intro k
  induction k with
  | zero =>
    intro i h tk c acc as hk hi st keep hS hacc hal g
    obtain rfl : i = xs.size := by omega
    refine codeAny_builtin PySem.F.entry_extend_loop ?_
    rw [Around.under_plainId PySem.F.plain_extend_loop _]
    refine wpAny_bind (m := pyNext (.ref z)) (zat_done (s := { s with heap := h, toks := tk }) (A := A.in1) hh L st (by simp) fun h' q => ?_)
    have far : ∀ b o, S < b → h.get? b = some o → h'.get? b = some o := fun b o hb e =>
      q b o (Nat.ne_of_gt (Nat.lt_trans L.zS hb)) (Nat.ne_of_gt (Nat.lt_trans L.TOS hb)) (Nat.ne_of_gt (Nat.lt_trans L.i1S hb)) (Nat.ne_of_gt (Nat.lt_trans L.i2S hb)) e
    exact wpAny_pure (hR h' tk acc c as (fun b o h0 h1 h2 h3 h4 e => q b o h1 h2 h3 h4 (keep b o h0 h1 h2 h3 h4 e)) (q S _ nz nO n1 n2 hS) hal (g.keep far) hacc)
  | succ k ih =>
    intro i h tk c acc as hk hi st keep hS hacc hal g
    have hx : xs[i]? = some xs[i] := Array.getElem?_eq_getElem (by omega)
    have hy : ys[i]? = some ys[i] := Array.getElem?_eq_getElem (by omega)
    have hsz : acc.size = i := by rw [← Array.length_toList, hacc, List.length_map, hal]
    have hSl : S < h.objs.size := Heap.lt_size hS
    refine codeAny_builtin PySem.F.entry_extend_loop ?_
    rw [Around.under_plainId PySem.F.plain_extend_loop _]
    refine wpAny_bind (m := pyNext (.ref z)) (zat_item (s := { s with heap := h, toks := tk }) (A := A.in1) L st hSl hx hy fun h' st' ht q => ?_)
    have hS' := q S _ nz nO n1 n2 hS
    have far : ∀ b o, S < b → h.get? b = some o → h'.get? b = some o := fun b o hb e =>
      q b o (Nat.ne_of_gt (Nat.lt_trans L.zS hb)) (Nat.ne_of_gt (Nat.lt_trans L.TOS hb)) (Nat.ne_of_gt (Nat.lt_trans L.i1S hb)) (Nat.ne_of_gt (Nat.lt_trans L.i2S hb)) e
    have up : ∀ b o, b ≠ S → h'.get? b = some o → (h'.update S (Obj.mapSeq (·.push (Value.ref h.objs.size)))).get? b = some o := fun b o hb e => by
      rw [Heap.get?_update_other _ _ (Ne.symm hb)]
      exact e
    refine wpAny_bind (m := updateSeq S (·.push (Value.ref h.objs.size))) ?_
    refine wpAny_updateSeq hS' rfl (wpAny_pure ⟨plainId_quiet PySem.F.plain_extend_loop _, ?_⟩) (by rw [hsz, sizeLine_eq]; omega) (by show (acc.push (Value.ref h.objs.size)).size ≤ sizeLine + 1; rw [Array.size_push, hsz, sizeLine_eq]; omega)
    refine ih (i + 1) _ tk _ (acc.push (Value.ref h.objs.size)) (as ++ [h.objs.size]) (by omega) (by omega) (st'.keep L up) ?_ (Heap.get?_update_self _ hS' rfl) ?_ ?_ ?_
    · exact fun b o h0 h1 h2 h3 h4 e => up b o h0 (q b o h1 h2 h3 h4 (keep b o h0 h1 h2 h3 h4 e))
    · rw [Array.toList_push, hacc, List.map_append] <;> rfl
    · rw [List.length_append, hal] <;> rfl
    · have g' := g.keep (h' := h'.update S (Obj.mapSeq (·.push (Value.ref h.objs.size)))) fun b o hb e => up b o (Nat.ne_of_gt hb) (far b o hb e)
      refine ⟨?_, fun a ha => ?_, fun j a hj => ?_⟩
      · rw [List.pairwise_append]
        refine ⟨g.up, List.pairwise_singleton _ _, fun a ha b hb => ?_⟩
        rw [List.mem_singleton.mp hb]
        obtain ⟨j, hj⟩ := List.mem_iff_getElem?.mp ha
        obtain ⟨_, _, _, _, e⟩ := g.at_ j a hj
        exact Heap.lt_size e
      · rcases List.mem_append.mp ha with ha | ha
        · exact g.over a ha
        · rw [List.mem_singleton.mp ha]
          exact hSl
      · by_cases c : j < as.length
        · rw [List.getElem?_append_left c] at hj
          exact g'.at_ j a hj
        · rw [List.getElem?_append_right (by omega)] at hj
          have j0 : j - as.length = 0 := by
            cases e : j - as.length with
            | zero => rfl
            | succ m => rw [e] at hj; simp at hj
          rw [j0] at hj
          obtain rfl : h.objs.size = a := Option.some.inj hj
          obtain rfl : j = i := by omega
          exact ⟨_, _, hx, hy, up _ _ (Nat.ne_of_gt hSl) ht⟩
theorem zip_no_len : typeLookup (.type "zip") "__len__" = pure none := am_miss_of_fast (by decide +kernel)
theorem zip_no_hint : typeLookup (.type "zip") "__length_hint__" = pure none := am_miss_of_fast (by decide +kernel)
end
end LZ
namespace LZ
open PySem PySem.W
section
variable {prog : Program} {w : World} {A : Around} {E : Value → Shared → Prop} {s : Shared} {R : Result → Shared → Prop} {z TI TO i1 i2 l1 l2 S : Addr} {xs ys : Array Value}
abbrev Far (S z TO i1 i2 : Addr) (h h' : Heap) : Prop := ∀ b o, b ≠ S → b ≠ z → b ≠ TO → b ≠ i1 → b ≠ i2 → h.get? b = some o → h'.get? b = some o
theorem Zat.zip {h : Heap} {i : Nat} (x : Zat h z TI TO i1 i2 l1 l2 S xs ys i) : ∃ f0 f1, h.get? z = some { cls := .type "zip", dict := none, data := .fields #[f0, .bool f1, .bool false, .ref TI, .ref TO], slots := #[] } := by
  rcases x.out with ⟨e, _⟩ | ⟨T, f, oT, e, _⟩
  · exact ⟨_, _, e⟩
  · exact ⟨_, _, e⟩
theorem zl_extend (hh : A.handled = none) (L : Zlo z TI TO i1 i2 l1 l2 S) (he : xs.size = ys.size) (hn : xs.size ≤ 1000) (res : Value) (c₀ : Nat) (hz : IsZip s.heap z TI TO .none) (st : Zat s.heap z TI TO i1 i2 l1 l2 S xs ys 0) (hS : s.heap.get? S = some { cls := .type "list", data := .seq #[] c₀ })
    (hR : ∀ h' tk acc c as, Far S z TO i1 i2 s.heap h' → h'.get? S = some { cls := .type "list", dict := none, data := .seq acc c, slots := #[] } → as.length = xs.size → Zgot h' S xs ys as → acc.toList = as.map Value.ref → R (.ok (.ret res)) { s with heap := h', toks := tk }) :
    wpAny (model prog w) A.in1 (Builtin.List.listExtendWith (.ref S) (.ref z) res)
      (fun fin s' => match fin with | .done f => R (.ok f) s' | .again c' => c'.quiet = true ∧ codeAny (model prog w) A c' R s') (fun e s' => R (.error e) s') s := by
  have hT : s.TypeIs (.ref z) "zip" := ⟨_, hz, rfl⟩
  have nz : S ≠ z := Nat.ne_of_gt L.zS
  unfold Builtin.List.listExtendWith
  refine wpAny_bind (wpAny_typeOf hT ?_)
  have e1 : Builtin.List.listSameRef (.ref S) (.ref z) = false := by simp [Builtin.List.listSameRef, nz]
  have e2 : (Value.type "zip" == Value.type "list") = false := by decide
  have e3 : (Value.type "zip" == Value.type "tuple") = false := by decide
  simp only [e1, e2, e3, Bool.or_false, Bool.false_eq_true, if_false]
  refine wpAny_bind (wpAny_pyIter_zip hz ?_)
  refine wpAny_bind (wpAny_holding ?_)
  unfold Builtin.List.listLengthHint
  refine wpAny_bind (wpAny_specialOf hT zip_no_len ?_)
  refine wpAny_bind (m := specialOf (Value.ref z) (Str.ofString "__length_hint__")) (wpAny_specialOf hT zip_no_hint ?_)
  refine wpAny_pure ?_
  refine wpAny_bind (m := rule "list.extend.makes-room") (wpAny_rule ?_)
  refine wpAny_bind (m := Builtin.List.listTouch (.ref S)) ?_
  refine wpAny_bind (m := updateSeq S (·.push .none)) (wpAny_updateSeq hS rfl ?_)
  have h2 := Heap.get?_update_self (Obj.mapSeq (·.push Value.none)) hS rfl
  refine wpAny_updateSeq (hz := by seq_fits) h2 rfl ?_
  have h3 := Heap.get?_update_self (Obj.mapSeq (·.pop)) h2 rfl
  have oth : ∀ b o, b ≠ S → s.heap.get? b = some o → ((s.heap.update S (Obj.mapSeq (·.push Value.none))).update S (Obj.mapSeq (·.pop))).get? b = some o := fun b o hb e => by
    rw [Heap.get?_update_other _ _ (Ne.symm hb), Heap.get?_update_other _ _ (Ne.symm hb)]
    exact e
  refine wpAny_pure ⟨plainId_quiet PySem.F.plain_extend_loop _, ?_⟩
  refine zl_loop hh L he hn res (h₁ := s.heap) hR xs.size 0 _ s.toks _ #[] [] (by omega) (Nat.zero_le _) (st.keep L oth) (fun b o h0 _ _ _ _ e => oth b o h0 e) h3 rfl rfl ⟨List.Pairwise.nil, fun _ ha => absurd ha List.not_mem_nil, fun j a hj => by simp at hj⟩
theorem zl_init (hh : A.handled = none) (L : Zlo z TI TO i1 i2 l1 l2 S) (he : xs.size = ys.size) (hn : xs.size ≤ 1000) (hz : IsZip s.heap z TI TO .none) (st : Zat s.heap z TI TO i1 i2 l1 l2 S xs ys 0) (hS : s.heap.get? S = some { cls := .type "list", data := .seq #[] })
    (hR : ∀ h' tk acc c as, Far S z TO i1 i2 s.heap h' → h'.get? S = some { cls := .type "list", dict := none, data := .seq acc c, slots := #[] } → as.length = xs.size → Zgot h' S xs ys as → acc.toList = as.map Value.ref → R (.ok (.ret .none)) { s with heap := h', toks := tk }) :
    wpAny (model prog w) A.in1 (Builtin.«list.__init__» ⟨[.ref S, .ref z], []⟩)
      (fun fin s' => match fin with | .done f => R (.ok f) s' | .again c' => c'.quiet = true ∧ codeAny (model prog w) A c' R s') (fun e s' => R (.error e) s') s := by
  refine wpAny_bind (m := Builtin.List.listItems (.ref S)) ?_
  unfold Builtin.List.listItems
  refine wpAny_bind (wpAny_seqItems hS rfl (wpAny_pure ?_))
  refine wpAny_bind (m := updateSeq S (fun _ => #[])) (wpAny_updateSeq hS rfl ?_)
  have h2 := Heap.get?_update_self (Obj.mapSeq (fun _ => (#[] : Array Value))) hS rfl
  have oth : ∀ b o, b ≠ S → s.heap.get? b = some o → (s.heap.update S (Obj.mapSeq (fun _ => (#[] : Array Value)))).get? b = some o := fun b o hb e => by
    rw [Heap.get?_update_other _ _ (Ne.symm hb)]
    exact e
  refine wpAny_bind (m := letGo (#[] : Array Value).toList.reverse) (wpAny_letGo ?_)
  exact zl_extend hh L he hn .none _ (oth _ _ (Nat.ne_of_lt L.zS) hz) (st.keep L oth) h2 fun h' tk acc c as k e1 e2 e3 e4 => hR h' tk acc c as (fun b o h0 h1 h2 h3 h4 e => k b o h0 h1 h2 h3 h4 (oth b o h0 e)) e1 e2 e3 e4
theorem zl_call {Q : Value → Shared → Prop} (hh : A.handled = none) (L : Zlo z TI TO i1 i2 l1 l2 s.heap.objs.size) (he : xs.size = ys.size) (hn : xs.size ≤ 1000) (hz : IsZip s.heap z TI TO .none) (st : Zat s.heap z TI TO i1 i2 l1 l2 s.heap.objs.size xs ys 0)
    (hQ : ∀ h' tk acc c as, (∀ b o, b ≠ z → b ≠ TO → b ≠ i1 → b ≠ i2 → s.heap.get? b = some o → h'.get? b = some o) → h'.get? s.heap.objs.size = some { cls := .type "list", dict := none, data := .seq acc c, slots := #[] } → as.length = xs.size → Zgot h' s.heap.objs.size xs ys as → acc.toList = as.map Value.ref → Q (.ref s.heap.objs.size) { s with heap := h', toks := tk }) :
    wpAny (model prog w) A (call (.type "list") [.ref z]) Q E s := by
  refine callType_codes (Q₁ := fun obj s₁ => obj = .ref s.heap.objs.size ∧ s₁ = { s with heap := s.heap.push { cls := .type "list", data := .seq #[] } }) PySem.F.called_list
    (PySem.F.typeCall_list_1 _) PySem.F.entry_list_init (code_list_new _ ⟨rfl, rfl⟩) fun obj s₁ h₁ => ?_
  obtain ⟨rfl, rfl⟩ := h₁
  have hS : (s.heap.push { cls := .type "list", data := .seq #[] }).get? s.heap.objs.size = some { cls := .type "list", data := .seq #[] } := Heap.get?_push_size _ rfl
  have pk : ∀ b o, s.heap.get? b = some o → (s.heap.push { cls := .type "list", data := .seq #[] }).get? b = some o := fun b o e => Heap.get?_push_of_some _ e
  refine ⟨⟨_, hS, rfl⟩, PySem.F.args_list_init_2 _ _, zl_init (A := A.in1) hh L he hn (pk _ _ hz) (st.keep L fun b o _ e => pk b o e) hS fun h' tk acc c as k e1 e2 e3 e4 => ?_⟩
  exact ⟨rfl, hQ h' tk acc c as (fun b o h1 h2 h3 h4 e => k b o (Nat.ne_of_lt (Heap.lt_size e)) h1 h2 h3 h4 (pk b o e)) e1 e2 e3 e4⟩
end
end LZ
namespace LZ
open PySem PySem.Spec PyProof.Rows L2
def putN : Hp → List (Addr × HO) → Hp
  | H, [] => H
  | H, p :: r => putN (upd H p.1 p.2) r
theorem putN_off {b : Addr} : ∀ (r : List (Addr × HO)) (H : Hp), b ∉ r.map (·.1) → putN H r b = H b
  | [], _, _ => rfl
  | p :: r, H, h => by
    rw [List.map_cons, List.mem_cons] at h
    show putN (upd H p.1 p.2) r b = H b
    rw [putN_off r _ fun z => h (.inr z), upd_ne fun z => h (.inl z)]
theorem putN_at : ∀ (r : List (Addr × HO)) (H : Hp), (r.map (·.1)).Nodup → ∀ p ∈ r, putN H r p.1 = some p.2
  | q :: r, H, nd, p, hp => by
    rw [List.map_cons, List.nodup_cons] at nd
    rcases List.mem_cons.mp hp with rfl | hp
    · show putN (upd H p.1 p.2) r p.1 = _
      rw [putN_off r _ nd.1, upd_same]
    · exact putN_at r _ nd.2 p hp
section
variable {X : Cx} {pins : List (Addr × Obj)} {σ : L2.St} {H : Hp} {s : Shared} {h' : Heap} {tk : Nat}
/-- several new objects laid and tracked at once -/
theorem laidN (I : Inv X pins σ H s) (r : List (Addr × HO)) (nd : (r.map (·.1)).Nodup) (hi : ∀ p ∈ r, s.heap.objs.size ≤ p.1) (hk : ∀ b o, s.heap.get? b = some o → h'.get? b = some o)
    (new : ∀ p ∈ r, ObjOk X.prog X.w (putN H r) h' p.1 p.2) : Inv X pins σ (putN H r) { s with heap := h', toks := tk } := by
  have kp : ∀ b u, H b = some u → putN H r b = some u := fun b u e => by
    rw [putN_off r H fun z => ?_]
    · exact e
    · obtain ⟨p, hp, rfl⟩ := List.mem_map.mp z
      rw [I.hok.fresh (hi p hp)] at e
      cases e
  refine I.call' (ch := []) rfl ?_ (fun b u q => ?_) I.bare fun b z => by simp at z
  · constructor
    · exact fun b o q _ _ _ => hk b o q
    · exact fun b o q _ _ _ => ⟨o.slots, hk b o q⟩
    · intro b o q n _
      rw [putN_off r H fun z => ?_]
      · exact n
      · obtain ⟨p, hp, rfl⟩ := List.mem_map.mp z
        exact absurd (Heap.lt_size q) (Nat.not_lt.mpr (hi p hp))
    · exact fun b o q _ => ⟨o, hk b o q⟩
    · exact fun b xs q => kp b _ q
    · exact fun b o u q => kp b _ q
    · exact fun b ps q => ⟨#[], by rw [kp b _ q]; simp⟩
  · by_cases c : b ∈ r.map (·.1)
    · obtain ⟨p, hp, rfl⟩ := List.mem_map.mp c
      rw [putN_at r H nd p hp] at q
      cases q
      exact new p hp
    · rw [putN_off r H c] at q
      exact (I.hok b u q).stay (fun d v _ y => hk d v y) (fun d y => kp d _ y) fun d xs y => kp d _ y
/-- list(zip(xs, ys)), both lists of one length -/
def tLstZip (K : PySem.W.Frag) (ta : TA) : TE := fun σ H Q => ta σ H fun vs H1 => ∃ a b xs ys, vs = [.ref a, .ref b] ∧ SqL K H1 a xs ∧ SqL K H1 b ys ∧ xs.length = ys.length ∧ xs.length ≤ 1000 ∧
  ∀ (D : Addr) (ts : List Addr) (H' : Hp), Same H1 H' → ts.length = xs.length → (∀ (j : Nat) (t : Addr), ts[j]? = some t → ∃ x y, xs[j]? = some x ∧ ys[j]? = some y ∧ H' t = some (.tup [x, y])) → H' D = some (.lst (ts.map V.ref)) → Q (.ref D) H'
theorem zlo_of {N a b G : Nat} (ha : a < N) (hb : b < N) (hG : G = N + 5) : Zlo (N + 4) (N + 2) (N + 3) N (N + 1) a b G := by
  subst hG
  refine ⟨?_, ?_, ?_, ?_, ?_, ?_, ?_, ?_⟩
  · constructor <;> exact fun (q : (_ : Nat) = _) => by omega
  all_goals exact (show ((_ : Nat) < _) by omega)
theorem vals_map : ∀ as : List Addr, Vals (as.map V.ref) (as.map Value.ref)
  | [] => .nil
  | a :: as => .cons (show RelV (V.ref a) (Value.ref a) from rfl) (vals_map as)
theorem pe_listZip {e e2 : Expr} {ta : TA} {p p2 pos pos2 : Pos} (hc : X.calm = true) (hg : Gl X "zip") (hm : X.mg "zip" = none) (hg2 : Gl X "list") (hm2 : X.mg "list" = none) (ha : PA X [e, e2] ta)
    (hs : starEach [e, e2] X.env = (false, eval e X.env) :: starEach [e2] X.env := by rfl) (hpl : (backTo pos2 (starEach [e2] X.env)).any (·.1) = false := by rfl)
    (hs2 : starEach [.Call (.Name "zip" p2) [e, e2] [] pos2] X.env = (false, eval (.Call (.Name "zip" p2) [e, e2] [] pos2) X.env) :: starEach [] X.env := by rfl) :
    PE X (.Call (.Name "list" p) [.Call (.Name "zip" p2) [e, e2] [] pos2] [] pos) (tLstZip X.K ta) := by
  refine ⟨fun pins s σ H Q I h => ?_⟩
  refine wpAny_Call_Name_kw (ld_blt I hg2 hm2 boot_list ?_)
  refine PyProof.Rows.callWith_type1 ?_ hs2 rfl
  rw [hs2]
  refine Calls.spliced_cons ?_
  refine Call_ (ld_blt I hg hm boot_zip (callWith_type1 (thn (ha.run pos2 pins s σ H _ I h) fun zs t ⟨vs, H1, I1, rs, q1⟩ => ?_) hs hpl))
  obtain ⟨a, b, us, ts, rfl, la, lb, el, l1000, q⟩ := q1
  cases rs with
  | cons ra rs =>
    cases rs with
    | cons rb rs =>
      cases rs
      cases ra
      cases rb
      obtain ⟨js, rj, pj, _⟩ := I1.list la
      obtain ⟨ks, rk, pk, _⟩ := I1.list lb
      have al : a < t.heap.objs.size := pj.lt
      have bl : b < t.heap.objs.size := pk.lt
      have hd := I1.ok.hd hc
      refine call_zip_2 pj.isList pk.isList fun g f1 f2 f3 f4 f5 fs fk => ?_
      refine Calls.spliced_nil ?_
      have nl : js.length = ks.length := by rw [← rj.length, ← rk.length, el]
      have L := zlo_of al bl fs
      refine zl_call (s := { t with heap := g }) (xs := js.toArray) (ys := ks.toArray) hd L (by simpa using nl) (by have := rj.length; simp; omega) f1 ⟨.inl ⟨f1, _, _, f3⟩, f2, f4, f5, isl pj.isList fun o z => fk _ o z, isl pk.isList fun o z => fk _ o z⟩ fun h' tk acc c as kk eS ln got eacc => ?_
      have hk : ∀ b o, t.heap.get? b = some o → h'.get? b = some o := fun b o z => by
        have lt : (b : Nat) < t.heap.objs.size := Heap.lt_size z
        exact kk b o (Nat.ne_of_lt (Nat.lt_of_lt_of_le lt (Nat.le_add_right _ _))) (Nat.ne_of_lt (Nat.lt_of_lt_of_le lt (Nat.le_add_right _ _))) (Nat.ne_of_lt lt) (Nat.ne_of_lt (Nat.lt_of_lt_of_le lt (Nat.le_add_right _ _))) (fk b o z)
      have ln' : as.length = us.length := by rw [ln, rj.length]; simp
      have over : ∀ x ∈ as, t.heap.objs.size + 5 < x := fun x hx => by
        have := got.over x hx
        rw [fs] at this
        exact this
      let news : List (Addr × HO) := (t.heap.objs.size + 5, HO.lst (as.map V.ref)) :: (List.range as.length).map fun j => (as.getD j 0, HO.tup [us.getD j .non, ts.getD j .non])
      have fst : news.map (·.1) = (t.heap.objs.size + 5) :: as := by
        show _ :: List.map _ (List.map _ _) = _
        rw [List.map_map]
        refine congrArg _ (List.ext_getElem (by simp) fun j h1 h2 => ?_)
        simp [List.getD_eq_getElem?_getD, h2]
      have nd : (news.map (·.1)).Nodup := by
        rw [fst, List.nodup_cons]
        exact ⟨fun z => Nat.lt_irrefl _ (over _ z), got.up.imp fun h => Nat.ne_of_lt h⟩
      have memj : ∀ (j : Nat) (hj : j < as.length), (as[j], HO.tup [us.getD j .non, ts.getD j .non]) ∈ news := fun j hj => by
        refine List.mem_cons_of_mem _ (List.mem_map.mpr ⟨j, List.mem_range.mpr hj, ?_⟩)
        rw [List.getD_eq_getElem?_getD, List.getElem?_eq_getElem hj] <;> rfl
      refine ⟨.ref g.objs.size, putN H1 news, laidN I1 news nd (fun p hp => ?_) hk fun p hp => ?_, rfl, ?_⟩
      · have : p.1 ∈ news.map (·.1) := List.mem_map.mpr ⟨p, hp, rfl⟩
        rw [fst] at this
        rcases List.mem_cons.mp this with z | z
        · rw [z]
          exact Nat.le_add_right _ _
        · exact Nat.le_of_lt (Nat.lt_of_le_of_lt (Nat.le_add_right _ _) (over _ z))
      · rcases List.mem_cons.mp hp with rfl | hp
        · refine ⟨by rw [List.length_map, sizeLine_eq]; omega, acc.toList, c, by rw [eacc]; exact vals_map as, ?_⟩
          rw [Array.toArray_toList, ← fs]
          exact eS
        · obtain ⟨j, hj, rfl⟩ := List.mem_map.mp hp
          have hj := List.mem_range.mp hj
          have ej : as[j]? = some as[j] := List.getElem?_eq_getElem hj
          obtain ⟨x, y, e1, e2, e3⟩ := got.at_ j _ ej
          have e1 : js[j]? = some x := by simpa using e1
          have e2 : ks[j]? = some y := by simpa using e2
          have hu : us[j]? = some us[j] := List.getElem?_eq_getElem (by omega)
          have ht : ts[j]? = some ts[j] := List.getElem?_eq_getElem (by omega)
          obtain ⟨x', g1, r1⟩ := rj.get hu
          obtain ⟨y', g2, r2⟩ := rk.get ht
          rw [e1] at g1
          rw [e2] at g2
          cases g1
          cases g2
          have ea : as.getD j 0 = as[j] := by rw [List.getD_eq_getElem?_getD, ej] <;> rfl
          have eu : us.getD j .non = us[j] := by rw [List.getD_eq_getElem?_getD, hu] <;> rfl
          have et : ts.getD j .non = ts[j] := by rw [List.getD_eq_getElem?_getD, ht] <;> rfl
          rw [ea, eu, et]
          exact ⟨by show 2 ≤ sizeLine; decide, [x, y], .cons r1 (.cons r2 .nil), ⟨_, e3, rfl, _, rfl⟩⟩
      · have kp : Same H1 (putN H1 news) := fun b u e => by
          rw [putN_off news H1 fun z => ?_]
          · exact e
          · have lo : t.heap.objs.size ≤ b := by
              rw [fst] at z
              rcases List.mem_cons.mp z with z | z
              · rw [z]
                exact Nat.le_add_right _ _
              · exact Nat.le_of_lt (Nat.lt_of_le_of_lt (Nat.le_add_right _ _) (over _ z))
            rw [I1.hok.fresh lo] at e
            cases e
        refine q g.objs.size as _ kp ln' (fun j x hj => ?_) ?_
        · obtain ⟨hj', ej⟩ := List.getElem?_eq_some_iff.mp hj
          have z := putN_at news H1 nd _ (memj j hj')
          refine ⟨us[j], ts[j], List.getElem?_eq_getElem (by omega), List.getElem?_eq_getElem (by omega), ?_⟩
          rw [ej] at z
          rw [z, List.getD_eq_getElem?_getD, List.getD_eq_getElem?_getD, List.getElem?_eq_getElem (show j < us.length by omega), List.getElem?_eq_getElem (show j < ts.length by omega)] <;> rfl
        · rw [fs]
          exact putN_at news H1 nd _ List.mem_cons_self
end
end LZ
namespace Law
open PySem L2
theorem lcm_dvd_fold : ∀ (fs : List Fr) (m n : Nat), n ∣ m → n ∣ fs.foldl (fun m f => Nat.lcm m f.2.natAbs) m
  | [], _, _, h => h
  | f :: fs, m, n, h => lcm_dvd_fold fs _ n (Nat.dvd_trans h (Nat.dvd_lcm_left _ _))
theorem dvd_fold : ∀ (fs : List Fr) (m : Nat) (f : Fr), f ∈ fs → f.2.natAbs ∣ fs.foldl (fun m f => Nat.lcm m f.2.natAbs) m
  | [], _, _, h => nomatch h
  | g :: fs, m, f, h => by
    rcases List.mem_cons.mp h with rfl | h
    · exact lcm_dvd_fold fs _ _ (Nat.dvd_lcm_right _ _)
    · exact dvd_fold fs _ f h
theorem dvd_lcmAll {fs : List Fr} {f : Fr} (h : f ∈ fs) : f.2.natAbs ∣ lcmAll fs := dvd_fold fs 1 f h
theorem sum_scale (S : Int) (g : Int → Int) (L : Int) : ∀ ws : List Int, (∀ x ∈ ws, S * g x = x * L) → S * (ws.map g).sum = ws.sum * L
  | [], _ => by simp
  | x :: ws, h => by
    rw [List.map_cons, List.sum_cons, List.sum_cons, Int.mul_add, Int.add_mul, h x List.mem_cons_self, sum_scale S g L ws fun y hy => h y (List.mem_cons_of_mem _ hy)]
theorem lowP_cross {t b : Int} (hb : 0 < b) : b * (lowP t b).1 = t * (lowP t b).2 := by
  have gp := gI_pos (t := t) hb
  have d1 : gI t b ∣ t := by
    unfold gI
    exact Int.ofNat_dvd_left.mpr (Nat.gcd_dvd_left _ _)
  have d2 : gI t b ∣ b := by
    unfold gI
    exact Int.ofNat_dvd_left.mpr (Nat.gcd_dvd_right _ _)
  show b * (t / gI t b) = t * (b / gI t b)
  rw [← Int.mul_ediv_assoc _ d1, ← Int.mul_ediv_assoc _ d2, Int.mul_comm]
theorem lowP_pos {t b : Int} (ht : 0 < t) (hb : 0 < b) : 0 < (lowP t b).1 ∧ 0 < (lowP t b).2 := by
  have gp := gI_pos (t := t) hb
  have d1 : gI t b ∣ t := by
    unfold gI
    exact Int.ofNat_dvd_left.mpr (Nat.gcd_dvd_left _ _)
  have d2 : gI t b ∣ b := by
    unfold gI
    exact Int.ofNat_dvd_left.mpr (Nat.gcd_dvd_right _ _)
  exact ⟨Int.ediv_pos_of_pos_of_dvd ht (Int.le_of_lt gp) d1, Int.ediv_pos_of_pos_of_dvd hb (Int.le_of_lt gp) d2⟩
theorem lowP_le {t b : Int} (ht : 0 ≤ t) (hb : 0 < b) : (lowP t b).1 ≤ t ∧ (lowP t b).2 ≤ b := ⟨Int.ediv_le_self _ ht, Int.ediv_le_self _ (Int.le_of_lt hb)⟩
theorem lowP_cop {t b : Int} (ht : 0 ≤ t) (hb : 0 < b) : Nat.gcd (lowP t b).1.natAbs (lowP t b).2.natAbs = 1 := by
  obtain ⟨a, rfl⟩ := Int.eq_ofNat_of_zero_le ht
  obtain ⟨c, rfl⟩ := Int.eq_ofNat_of_zero_le (Int.le_of_lt hb)
  have z : 0 < Nat.gcd a c := Nat.gcd_pos_of_pos_right _ (by omega)
  have e : ∀ x : Nat, ((x : Int) / gI (a : Int) (c : Int)).natAbs = x / Nat.gcd a c := fun x => by
    unfold gI
    rw [Int.natAbs_natCast, Int.natAbs_natCast, ← Int.natCast_ediv, Int.natAbs_natCast]
  show Nat.gcd ((a : Int) / gI (a : Int) (c : Int)).natAbs ((c : Int) / gI (a : Int) (c : Int)).natAbs = 1
  rw [e, e]
  exact Nat.coprime_div_gcd_div_gcd z
theorem sum_pos : ∀ ws : List Int, ws ≠ [] → (∀ x ∈ ws, 0 < x) → 0 < ws.sum ∧ ∀ x ∈ ws, x ≤ ws.sum
  | [], h, _ => absurd rfl h
  | [x], _, h => by
    have := h x List.mem_cons_self
    simp
    omega
  | x :: y :: ws, _, h => by
    obtain ⟨h1, h2⟩ := sum_pos (y :: ws) (by simp) fun z hz => h z (List.mem_cons_of_mem _ hz)
    have h3 := h x List.mem_cons_self
    rw [List.sum_cons]
    refine ⟨by omega, fun z hz => ?_⟩
    rcases List.mem_cons.mp hz with rfl | hz
    · omega
    · have := h2 z hz
      omega
theorem sum_le (B : Int) : ∀ ws : List Int, (∀ x ∈ ws, x ≤ B) → ws.sum ≤ (ws.length : Int) * B
  | [], _ => by simp
  | x :: ws, h => by
    have h1 := sum_le B ws fun z hz => h z (List.mem_cons_of_mem _ hz)
    have h2 := h x List.mem_cons_self
    rw [List.sum_cons, List.length_cons, Int.natCast_add, Int.add_mul]
    simp
    omega
/-- a weight's share: in lowest terms, of moderate size -/
theorem share_ok {t b : Int} (ht : 0 < t) (h1 : t ≤ b) (h2 : b < 2 ^ 40) : FrOk (lowP t b) ∧ 0 < (lowP t b).1 ∧ Nat.gcd (lowP t b).1.natAbs (lowP t b).2.natAbs = 1 := by
  have hb : 0 < b := by omega
  obtain ⟨p1, p2⟩ := lowP_pos ht hb
  obtain ⟨l1, l2⟩ := lowP_le (Int.le_of_lt ht) hb
  refine ⟨⟨p2, ?_, ?_⟩, p1, lowP_cop (Int.le_of_lt ht) hb⟩ <;> omega
theorem one_of {ws : List Int} (hn : ws ≠ []) (h : ∀ x ∈ ws, 0 < x) : OneOk (ws.map fun x => lowP x ws.sum) := by
  obtain ⟨s0, s1⟩ := sum_pos ws hn h
  unfold OneOk topsOf
  rw [List.map_map]
  have q := sum_scale ws.sum ((fun f : Fr => f.1 * (((lcmAll (ws.map fun x => lowP x ws.sum) : Nat) : Int) / f.2)) ∘ fun x => lowP x ws.sum) ((lcmAll (ws.map fun x => lowP x ws.sum) : Nat) : Int) ws fun x hx => by
    obtain ⟨p1, p2⟩ := lowP_pos (h x hx) s0
    have d : (lowP x ws.sum).2 ∣ ((lcmAll (ws.map fun x => lowP x ws.sum) : Nat) : Int) := by
      have d0 := dvd_lcmAll (List.mem_map.mpr ⟨x, hx, rfl⟩ : lowP x ws.sum ∈ ws.map fun x => lowP x ws.sum)
      exact Int.ofNat_dvd_right.mpr d0
    show ws.sum * ((lowP x ws.sum).1 * (_ / (lowP x ws.sum).2)) = _
    rw [← Int.mul_assoc, lowP_cross s0, Int.mul_assoc, Int.mul_ediv_cancel' d]
  exact Int.eq_of_mul_eq_mul_left (by omega) q
end Law
namespace Law
open PySem L2
section
variable {P : Program} {w : World} {K : PySem.W.Frag} {mg : Str → Option Value} {base : Heap}
def spParts (K : PySem.W.Frag) : Sp := fun vs H Q _ => ∃ (p : Addr) (n : Nat), vs = [.ref p, .int (n : Nat)] ∧ HandAt H p ∧ 1 ≤ n ∧ n ≤ 24 ∧
  ∀ (l : Addr) (acc : List V) (fs : List Fr) (H' : Hp), Stp p H H' → H' l = some (.lst acc) → FrsIn K H' acc fs → fs.length = n → OneOk fs → (∀ f ∈ fs, FrOk f ∧ 0 < f.1 ∧ Nat.gcd f.1.natAbs f.2.natAbs = 1) → Q (.ref l) H'
abbrev nLawParts : List Str := ["_law_hand_here", "_law_many", "_law_tops", "_law_k", "_law_top"]
theorem scLawParts : FnScope nLawParts ["_law_hand_here", "_law_many"] (defScope s_law_parts) := ⟨rfl, rfl, rfl, by decide +kernel, rfl, by decide +kernel, by decide +kernel⟩
theorem ok_parts {f : Addr} {fd : FuncData} {fA : Addr} {fdA : FuncData} {fcLow : Addr} {fdcLow : FuncData} (F : Fun K "_law_parts" "_law_parts" s_law_parts f fd) (T : NmA mg) (A : Cl P w K mg base CX0 2 "_law_any" fA fdA ["_law_hand_here", "_law_items"] (spAny K)) (cLow : Cl P w K mg base CX0 1 "_law_low" fcLow fdcLow ["_law_top", "_law_bottom"] spLowS) : FnOk P w K mg base CX0 3 f fd ["_law_hand_here", "_law_many"] (spParts K) := by
  refine F.ok scLawParts (fun vs H Q E h => ?_) (fun cdv A' outer s H vs Q E hr h => ?_)
  · obtain ⟨p, n, rfl, _⟩ := h
    rfl
  · obtain ⟨p, n, rfl, hH, n1, n24, k⟩ := h
    have hu := hu_of hr
    refine ⟨_, pss_cons (ps_set (i := 2) scLawParts.nd rfl (Or.inr rfl) (pe_lc (own := [("_law_k", 3)]) (g := (gName 3)) (tt := tYes) rfl scLawParts.nd  (pi_range1 (by rfl) T.range (pa_cons (pv 1) pa_nil)) (blkOk_by (own := [("_law_k", 3)]) (N := nLawParts) (sc := defScope s_law_parts) (by decide +kernel)) (fun _ _ _ _ _ => (pg_name (i := 3) scLawParts.nd rfl (Or.inl rfl))) (fun _ _ _ _ _ => pts_nil) (fun _ _ _ _ _ => (A.call (hr.mono (by decide)) (pa_cons (pv 0) (pa_cons (pe_lst (pa_cons pe_int (pa_cons pe_int (pa_cons pe_int (pa_cons pe_int (pa_cons pe_int (pa_cons pe_int pa_nil))))))) pa_nil))))))
      (pss_one (ps_ret (pe_lc (own := [("_law_top", 4)]) (g := (gName 4)) (tt := tYes) rfl scLawParts.nd  (pi_list (pv 2)) (blkOk_by (own := [("_law_top", 4)]) (N := nLawParts) (sc := defScope s_law_parts) (by decide +kernel)) (fun _ _ _ _ _ => (pg_name (i := 4) scLawParts.nd rfl (Or.inl rfl))) (fun _ _ _ _ _ => pts_nil) (fun _ _ _ _ _ => (cLow.call (hr.mono (by decide)) (pa_cons (pv 4) (pa_cons (pe_callB (r := rSum K) (show CallR _ (.builtin "sum") (rSum K) from cr_sum rfl) (by rfl) T.sum (by decide +kernel) (pa_cons (pv 2) pa_nil)) pa_nil))))))), ?_⟩
    refine ⟨_, rfl, (n : Int), rfl, by omega, by omega, fun D hD => ?_⟩
    have Dp : D ≠ p := ne_hand hH hD
    refine lc_range (lo := 0) (n := (n : Int).toNat) (fun i H' => Stp p H H' ∧ ∃ ws : List Int, H' D = some (.lst (ws.map V.int)) ∧ ws.length = i ∧ ∀ x ∈ ws, 1 ≤ x ∧ x ≤ 5) ⟨Stp.of hH (Same.new hD), [], upd_same, rfl, fun x hx => absurd hx List.not_mem_nil⟩ (fun i H1 hi g => ?_) fun H1 g => ?_
    · obtain ⟨S1, ws, d1, l1, b1⟩ := g
      refine ⟨rfl, _, rfl, by show 6 ≤ sizeLine; decide, fun L hL => ?_⟩
      refine new_step hL fun H2 s2 e2 => ?_
      have S2 := S1.post s2
      refine ⟨p, L, ([1, 1, 1, 2, 3, 5] : List Int).map V.int, rfl, .inl ⟨SqL.of e2, ne_hand S1.hand hL⟩, by decide, by decide, S2.hand, fun j x H3 hx S3 => ?_⟩
      rw [List.getElem?_map] at hx
      obtain ⟨v, hv, rfl⟩ := Option.map_eq_some_iff.mp hx
      have vb : 1 ≤ v ∧ v ≤ 5 := by
        have z := List.mem_of_getElem? hv
        simp at z
        omega
      refine ⟨_, S3.keep _ _ Dp (s2 _ _ d1), by rw [List.length_map, l1]; exact small1000 (by omega), (S2.trans S3).mut hH hD, ws ++ [v], by rw [upd_same, List.map_append] <;> rfl, by rw [List.length_append, l1] <;> rfl, fun x hx => ?_⟩
      rcases List.mem_append.mp hx with h | h
      · exact b1 x h
      · rw [List.mem_singleton.mp h]
        exact vb
    · obtain ⟨S1, ws, d1, l1, b1⟩ := g
      have wn : ws ≠ [] := fun z => by rw [z] at l1; have l1 : 0 = (n : Int).toNat := l1; omega
      have w0 : ∀ x ∈ ws, 0 < x := fun x hx => by have := b1 x hx; omega
      obtain ⟨s0, sx⟩ := sum_pos ws wn w0
      have sl := sum_le 5 ws fun x hx => (b1 x hx).2
      have shr : ∀ x ∈ ws, FrOk (lowP x ws.sum) ∧ 0 < (lowP x ws.sum).1 ∧ Nat.gcd (lowP x ws.sum).1.natAbs (lowP x ws.sum).2.natAbs = 1 := fun x hx => share_ok (w0 x hx) (sx x hx) (by omega)
      refine ⟨_, rfl, D, rfl, ⟨_, SqL.of d1⟩, fun E hE => ?_⟩
      refine lc_list (K := K) (a := D) (xs := ws.map V.int) (fun i H' => Same H1 H' ∧ ∃ acc, H' E = some (.lst acc) ∧ FrsIn K H' acc ((ws.take i).map fun x => lowP x ws.sum)) ⟨Same.new hE, [], upd_same, rfl, fun i v hv => by simp at hv⟩ (fun i H' _ h => SqL.of (h.1 _ _ d1)) (fun i x H2 hi g => ?_) fun H2 g => ?_
      · obtain ⟨s2, acc, e2, f2⟩ := g
        rw [List.getElem?_map] at hi
        obtain ⟨v, hv, rfl⟩ := Option.map_eq_some_iff.mp hi
        have vm := List.mem_of_getElem? hv
        have il := (List.getElem?_eq_some_iff.mp hv).1
        have al : acc.length ≤ 24 := by
          rw [f2.1, List.length_map, List.length_take]
          omega
        refine ⟨rfl, _, rfl, _, rfl, D, ws, rfl, SqL.of (s2 _ _ d1), v, ws.sum, rfl, Int.le_of_lt (w0 v vm), s0, by omega, fun t ht => ?_⟩
        refine new_step ht fun H3 s3 e3 => ?_
        have e3' := s3 _ _ e2
        refine ⟨acc, e3', by rw [sizeLine_eq]; omega, (s2.trans s3).mut hE, _, upd_same, ?_⟩
        rw [List.take_add_one, hv, List.map_append]
        refine AllIn.snoc (R := FrAt K _) (⟨f2.1, fun j u hu => ?_⟩ : AllIn (FrAt K _) acc _) ⟨t, rfl, sqT_updL e3' (SqT.of e3)⟩
        obtain ⟨f, h1, s, h2, h3⟩ := f2.2 j u hu
        exact ⟨f, h1, s, h2, sqT_updL e3' (s3.sqT h3)⟩
      · obtain ⟨s2, acc, e2, f2⟩ := g
        rw [List.length_map, List.take_length] at f2
        refine k E acc _ H2 (S1.post s2) e2 f2 (by rw [List.length_map, l1, Int.toNat_natCast]) (one_of wn w0) fun f hf => ?_
        obtain ⟨x, hx, rfl⟩ := List.mem_map.mp hf
        exact shr x hx
end
end Law

namespace Law
open PySem L2
section
variable {P : Program} {w : World} {K : PySem.W.Frag} {mg : Str → Option Value} {base : Heap}
def spMoves (K : PySem.W.Frag) : Sp := fun vs H Q _ => ∃ (p : Addr) (n most : Nat), vs = [.ref p, .int (n : Nat), .int (most : Nat)] ∧ HandAt H p ∧ 1 ≤ n ∧ n ≤ 12 ∧ 1 ≤ most ∧ most ≤ 23 ∧
  ∀ (a : Addr) (ms : List Mv) (H' : Hp), Stp p H H' → MvsAt K H' a ms → SysOk n ms → ms.length ≤ most → Q (.ref a) H'
abbrev nLawMoves : List Str := ["_law_hand_here", "_law_many", "_law_most", "_law_leads_here", "_law_k", "_law_one"]
theorem scLawMoves : FnScope nLawMoves ["_law_hand_here", "_law_many", "_law_most"] (defScope s_law_moves) := ⟨rfl, rfl, rfl, by decide +kernel, rfl, by decide +kernel, by decide +kernel⟩
theorem ok_moves {f : Addr} {fd : FuncData} {fD : Addr} {fdD : FuncData} {fcLeads : Addr} {fdcLeads : FuncData} {fcHalved : Addr} {fdcHalved : FuncData} {fcParts : Addr} {fdcParts : FuncData} (F : Fun K "_law_moves" "_law_moves" s_law_moves f fd) (T : NmA mg) (D : Cl P w K mg base CX0 1 "_law_draw" fD fdD ["_law_hand_here", "_law_many"] spDraw) (cLeads : Cl P w K mg base CX0 2 "_law_leads" fcLeads fdcLeads ["_law_hand_here", "_law_many"] (spLeads K)) (cHalved : Cl P w K mg base CX0 1 "_law_halved" fcHalved fdcHalved ["_law_leads_here"] (spHalved K)) (cParts : Cl P w K mg base CX0 3 "_law_parts" fcParts fdcParts ["_law_hand_here", "_law_many"] (spParts K)) : FnOk P w K mg base CX0 4 f fd ["_law_hand_here", "_law_many", "_law_most"] (spMoves K) := by
  refine F.ok scLawMoves (fun vs H Q E h => ?_) (fun cdv A' outer s H vs Q E hr h => ?_)
  · obtain ⟨p, n, most, rfl, _⟩ := h
    rfl
  · obtain ⟨p, n, most, rfl, hH, n1, n12, t1, t23, k⟩ := h
    have hu := hu_of hr
    refine ⟨_, pss_cons (ps_setLc (i := 3) (own := [("_law_k", 4)]) (g := (gName 4)) (tt := tYes) (by rfl) scLawMoves.nd rfl rfl (sw_true rfl rfl rfl (by decide +kernel)) (pi_range1 (by rfl) T.range (pa_cons (pe_op op_add pe_int (D.call (hr.mono (by decide)) (pa_cons (pv 0) (pa_cons (pv 2) pa_nil)))) pa_nil)) (blkOk_by (own := [("_law_k", 4)]) (N := nLawMoves) (sc := defScope s_law_moves) (by decide +kernel)) (fun _ _ _ _ _ => (pg_name (i := 4) scLawMoves.nd rfl (Or.inl rfl))) (fun _ _ _ _ _ => pts_nil) (fun _ _ _ _ _ => (cLeads.call (hr.mono (by decide)) (pa_cons (pv 0) (pa_cons (pv 1) pa_nil)))))
      (Evl.pss_cut (ps_if (PW.pt (pw_and (pt_cmpR op_gt (pv 1) pe_int (nomark _)) (pw_and1 (pt_cmpR op_eq (D.call (hr.mono (by decide)) (pa_cons (pv 0) (pa_cons pe_int pa_nil))) pe_int (nomark _)))))
        (pss_one (ps_setLc (i := 3) (own := [("_law_one", 5)]) (g := (gName 5)) (tt := tYes) (by rfl) scLawMoves.nd rfl rfl (sw_true rfl rfl rfl (by decide +kernel)) (pi_list (pv 3)) (blkOk_by (own := [("_law_one", 5)]) (N := nLawMoves) (sc := defScope s_law_moves) (by decide +kernel)) (fun _ _ _ _ _ => (pg_name (i := 5) scLawMoves.nd rfl (Or.inl rfl))) (fun _ _ _ _ _ => pts_nil) (fun _ _ _ _ _ => (cHalved.call (hr.mono (by decide)) (pa_cons (pv 5) pa_nil))))) pss_nil)
      (pss_one (ps_ret (pe_callTy call_tuple_of (by rfl) T.tuple (by decide +kernel) (pa_cons (LZ.pe_listZip rfl (by rfl) T.zip (by rfl) T.list (pa_cons (cParts.call (hr.mono (by decide)) (pa_cons (pv 0) (pa_cons (pe_callB call_len_seq (by rfl) T.len PySem.boot_len (pa_cons (pv 3) pa_nil)) pa_nil))) (pa_cons (pv 3) pa_nil))) pa_nil))))), ?_⟩
    refine ⟨_, rfl, _, rfl, p, (most : Int), rfl, by omega, by omega, hH, fun m H1 m0 m1 S1 => ⟨_, _, rfl, rfl, (1 + m), rfl, by omega, by omega, fun D hD => ?_⟩⟩
    obtain ⟨mm, rfl⟩ := Int.eq_ofNat_of_zero_le m0
    have tn : (1 + (mm : Int)).toNat = mm + 1 := by omega
    rw [tn]
    have DpH : H D = none := S1.free hD
    have Dp : D ≠ p := ne_hand S1.hand hD
    refine lc_range (lo := 0) (n := mm + 1) (fun i H' => Stp p H H' ∧ ∃ (acc : List V) (Ls : List (List Int)), H' D = some (.lst acc) ∧ AllIn (RowAt K H') acc Ls ∧ Ls.length = i ∧ LsOk n Ls) ⟨S1.post (Same.new hD), [], [], upd_same, AllIn.nil, rfl, fun x hx => absurd hx List.not_mem_nil⟩ (fun i H2 hi g => ?_) fun H2 g => ?_
    · obtain ⟨S2, acc, Ls, d2, A2, l2, ok2⟩ := g
      have al : acc.length = i := by rw [A2.1, l2]
      refine ⟨rfl, _, rfl, _, rfl, p, n, rfl, S2.hand, n1, n12, fun l xs H3 S3 h3 e3 b3 => ?_⟩
      have d3 := S3.keep _ _ Dp d2
      refine ⟨acc, d3, by rw [sizeLine_eq]; omega, (S2.trans S3).mut hH DpH, _, Ls ++ [xs], upd_same, ?_, by rw [List.length_append, l2] <;> rfl, fun x hx => ?_⟩
      · refine AllIn.snoc (A2.mono fun v y z => ?_) ⟨l, rfl, sqT_updL d3 h3⟩
        obtain ⟨a, e, h⟩ := z
        exact ⟨a, e, sqT_updL d3 (S3.sqT S2.hand h)⟩
      · rcases List.mem_append.mp hx with h | h
        · exact ok2 x h
        · rw [List.mem_singleton.mp h]
          exact ⟨e3, b3⟩
    · obtain ⟨S2, acc, Ls, d2, A2, l2, ok2⟩ := g
      refine ⟨fun σ' H' => Stp p H H' ∧ ∃ (D : Addr) (acc : List V) (Ls : List (List Int)) (u v : Option V), H' D = some (.lst acc) ∧ D ≠ p ∧ AllIn (RowAt K H') acc Ls ∧ Ls.length = mm + 1 ∧ LsOk n Ls ∧ σ' = [some (.ref p), some (.int (n : Int)), some (.int (most : Int)), some (.ref D), u, v], ?_, ?_⟩
      · have stay : ∀ (H' : Hp), Stp p H2 H' → Stp p H H' ∧ ∃ (D' : Addr) (acc : List V) (Ls : List (List Int)) (u v : Option V), H' D' = some (.lst acc) ∧ D' ≠ p ∧ AllIn (RowAt K H') acc Ls ∧ Ls.length = mm + 1 ∧ LsOk n Ls ∧ ([some (.ref p), some (.int (n : Int)), some (.int (most : Int)), some (.ref D), none, none] : L2.St) = [some (.ref p), some (.int (n : Int)), some (.int (most : Int)), some (.ref D'), u, v] := fun H' S' =>
          ⟨S2.trans S', D, acc, Ls, none, none, S'.keep _ _ Dp d2, Dp, A2.mono fun v y z => by
            obtain ⟨a, e, h⟩ := z
            exact ⟨a, e, S'.sqT S2.hand h⟩, l2, ok2, rfl⟩
        refine ⟨_, rfl, _, _, rfl, rfl, _, rfl, ite2 (fun c => ?_) (fun _ => stay H2 (Stp.refl S2.hand))⟩
        refine ⟨_, rfl, p, 5, rfl, by decide, by decide, S2.hand, fun d H3 d0 d1 S3 => ⟨rfl, _, rfl, ite2 (fun _ => ?_) (fun _ => stay H3 S3)⟩⟩
        have S23 := S2.trans S3
        have d3 := S3.keep _ _ Dp d2
        have A3 : AllIn (RowAt K H3) acc Ls := A2.mono fun v y z => by
          obtain ⟨a, e, h⟩ := z
          exact ⟨a, e, S3.sqT S2.hand h⟩
        refine ⟨_, rfl, D, rfl, ⟨_, SqL.of d3⟩, fun E hE => ?_⟩
        refine lc_list (K := K) (a := D) (xs := acc) (fun i H' => Same H3 H' ∧ ∃ (ac2 : List V) (L2 : List (List Int)), H' E = some (.lst ac2) ∧ AllIn (RowAt K H') ac2 L2 ∧ L2.length = i ∧ LsOk n L2) ⟨Same.new hE, [], [], upd_same, AllIn.nil, rfl, fun x hx => absurd hx List.not_mem_nil⟩ (fun i H' _ h => SqL.of (h.1 _ _ d3)) (fun i x H4 hi g => ?_) fun H4 g => ?_
        · obtain ⟨s4, ac2, L2, e4, A4, l4, ok4⟩ := g
          obtain ⟨xs, hx, a, rfl, ha⟩ := A3.2 i x hi
          obtain ⟨x1, x2⟩ := ok2 xs (List.mem_of_getElem? hx)
          have il := (List.getElem?_eq_some_iff.mp hx).1
          have al : ac2.length = i := by rw [A4.1, l4]
          refine ⟨rfl, _, rfl, a, xs, rfl, s4.sqT ha, by omega, fun y hy => by have := x2 y hy; omega, fun l ys H5 s5 h5 y1 y2 => ?_⟩
          have e5 := s5 _ _ e4
          refine ⟨ac2, e5, by rw [sizeLine_eq]; omega, (s4.trans s5).mut hE, _, L2 ++ [ys], upd_same, ?_, by rw [List.length_append, l4] <;> rfl, fun x hx => ?_⟩
          · exact AllIn.snoc (A4.mono fun v y z => (z.same s5).upd e5) ⟨l, rfl, sqT_updL e5 h5⟩
          · rcases List.mem_append.mp hx with h | h
            · exact ok4 x h
            · rw [List.mem_singleton.mp h]
              exact ⟨by rw [y1, x1], fun y hy => by have := y2 y hy; omega⟩
        · obtain ⟨s4, ac2, L2, e4, A4, l4, ok4⟩ := g
          exact ⟨S23.post s4, E, ac2, L2, _, _, e4, ne_hand S3.hand hE, A4, by rw [l4, A2.1, l2], ok4, rfl⟩
      · rintro σ' H' ⟨S3, D, acc, Ls, u, v, d3, Dp, A3, l3, ok3, rfl⟩
        have al : acc.length = mm + 1 := by rw [A3.1, l3]
        refine ⟨_, rfl, _, rfl, D, _, rfl, .inl (SqL.of d3), ?_⟩
        refine ⟨p, acc.length, rfl, S3.hand, by omega, by omega, fun l fa fs H4 S4 h4 F4 fl one fok => ?_⟩
        have d4 := S4.keep _ _ Dp d3
        have A4 : AllIn (RowAt K H4) acc Ls := A3.mono fun v y z => by
          obtain ⟨a, e, h⟩ := z
          exact ⟨a, e, S4.sqT S3.hand h⟩
        refine ⟨_, rfl, l, D, fa, acc, rfl, SqL.of h4, SqL.of d4, by rw [F4.1, fl], by rw [F4.1, fl]; omega, fun E ts H5 s5 tl tx e5 => ?_⟩
        refine ⟨E, _, rfl, .inl ⟨SqL.of e5, fun T hT => ?_⟩⟩
        refine new_step hT fun H6 s6 e6 => ?_
        have s46 := s5.trans s6
        have zl : (fs.zip Ls).length = ts.length := by rw [List.length_zip, tl, F4.1, fl, al, l3, Nat.min_self]
        have zl2 : (fs.zip Ls).length = mm + 1 := by rw [zl, tl, F4.1, fl, al]
        have m1' : (mm : Int) < (most : Int) := m1
        have fm : (fs.zip Ls).map (·.1) = fs := by
          rw [List.map_fst_zip]
          rw [fl, al, l3]
          exact Nat.le_refl _
        refine k T (fs.zip Ls) H6 ((S3.trans S4).post s46) ⟨ts.map V.ref, SqT.of e6, ?_⟩ ?_ ?_
        · refine ⟨by rw [List.length_map, zl], fun j v hv => ?_⟩
          rw [List.getElem?_map] at hv
          obtain ⟨t, ht, rfl⟩ := Option.map_eq_some_iff.mp hv
          obtain ⟨x, y, hx, hy, et⟩ := tx j t ht
          obtain ⟨f, hf, sa, rfl, hs⟩ := F4.2 j x hx
          obtain ⟨xs, hxs, la, rfl, hl⟩ := A4.2 j y hy
          refine ⟨(f, xs), ?_, t, sa, la, rfl, SqT.of (s6 _ _ et), s46.sqT hs, s46.sqT hl⟩
          rw [List.getElem?_zip_eq_some]
          exact ⟨hf, hxs⟩
        · refine ⟨n1, n12, by omega, by omega, fun m hm => ?_, ?_⟩
          · have h1 := List.of_mem_zip hm
            obtain ⟨a1, a2, a3⟩ := fok m.1 h1.1
            obtain ⟨b1, b2⟩ := ok3 m.2 h1.2
            exact ⟨a1, a2, a3, b1, b2⟩
          · show OneOk ((fs.zip Ls).map (·.1))
            rw [fm]
            exact one
        · omega
end
end Law

namespace L2
open PySem PySem.Spec PyProof.Rows Law
theorem expL_snoc (Ls : List (List Int)) (L : List Nd) (n : Nd) (K : List (List Int)) : expL Ls (L ++ [n]) K = ((expA Ls n (expL Ls L K).1).1, (expL Ls L K).2 ++ (expA Ls n (expL Ls L K).1).2) := by
  rw [expL_eq, List.flatMap_append, addAll_app, expL_eq, List.flatMap_cons, List.flatMap_nil, List.append_nil]
  unfold expA candA
  rw [exp1_eq]
theorem keys_has : ∀ {kvs : List (List Key × V)} {Kn : List (List Int)}, kvs.map (·.1) = Kn.map keyL → ∀ o, (valV kvs (keyL o)).isSome = decide (o ∈ Kn)
  | [], [], _, o => rfl
  | [], _ :: _, h, _ => by cases h
  | _ :: _, [], h, _ => by cases h
  | p :: kvs, c :: Kn, h, o => by
    rw [List.map_cons, List.map_cons] at h
    injection h with h1 h2
    by_cases e : c = o
    · subst e
      rw [valV_pos h1, decide_eq_true List.mem_cons_self] <;> rfl
    · rw [valV_neg (fun z => e (keyL_inj (h1.symm.trans z))), keys_has h2 o]
      refine decide_eq_decide.mpr ⟨List.mem_cons_of_mem _, fun z => ?_⟩
      rcases List.mem_cons.mp z with z | z
      · exact absurd z.symm e
      · exact z
/-- a pair (row, lot) -/
def NodAt (K : PySem.W.Frag) (H : Hp) (v : V) (n : Nd) : Prop := ∃ t a b, v = .ref t ∧ SqT K H t [.ref a, .ref b] ∧ SqT K H a (n.1.map V.int) ∧ SqT K H b (n.2.map V.int)
theorem NodAt.same {K : PySem.W.Frag} {H H' : Hp} {v : V} {n : Nd} (s : Same H H') (h : NodAt K H v n) : NodAt K H' v n := by
  obtain ⟨t, a, b, h1, h2, h3, h4⟩ := h
  exact ⟨t, a, b, h1, s.sqT h2, s.sqT h3, s.sqT h4⟩
theorem sqT_updO {K : PySem.W.Frag} {H : Hp} {a D : Addr} {o u : HO} {xs : List V} (hD : H D = some o) (d : ∀ y, HO.tup y ≠ o) (d2 : ∀ q y, HO.frz q (.tup y) ≠ o) (h : SqT K H a xs) : SqT K (upd H D u) a xs := by
  rcases h with (z | ⟨q, z⟩) | z
  · refine .inl (.inl ?_)
    rw [upd_ne (ne_of z hD (d _))]
    exact z
  · refine .inl (.inr ⟨q, ?_⟩)
    rw [upd_ne (ne_of z hD (d2 _ _))]
    exact z
  · exact .inr z
theorem NodAt.updO {K : PySem.W.Frag} {H : Hp} {D : Addr} {o u : HO} {v : V} {n : Nd} (hD : H D = some o) (d : ∀ y, HO.tup y ≠ o) (d2 : ∀ q y, HO.frz q (.tup y) ≠ o) (h : NodAt K H v n) : NodAt K (L2.upd H D u) v n := by
  obtain ⟨t, a, b, h1, h2, h3, h4⟩ := h
  exact ⟨t, a, b, h1, sqT_updO hD d d2 h2, sqT_updO hD d d2 h3, sqT_updO hD d d2 h4⟩
/-- the law's search: what is known, what was found -/
structure MergI (K : PySem.W.Frag) (H : Hp) (R L : Addr) (many : Nat) (Kn : List (List Int)) (N : List Nd) (H' : Hp) : Prop where
  same : Same H H'
  dic : ∃ kvs, H' R = some (.dT kvs) ∧ kvs.map (·.1) = Kn.map keyL
  lst : ∃ ws, H' L = some (.lst ws) ∧ AllIn (NodAt K H') ws N
  nd : Kn.Nodup
  lots : ∀ c ∈ Kn, lotF c = c
  ok : ∀ n ∈ N, NdOk many Kn.length n
  wl : N.length ≤ Kn.length
theorem MergI.more {K : PySem.W.Frag} {H H1 H2 : Hp} {R L : Addr} {many : Nat} {Kn : List (List Int)} {N : List Nd} (h : MergI K H R L many Kn N H1) (s : Same H1 H2) : MergI K H R L many Kn N H2 := by
  obtain ⟨kvs, h1, h2⟩ := h.dic
  obtain ⟨ws, h3, h4⟩ := h.lst
  exact ⟨h.same.trans s, ⟨kvs, s _ _ h1, h2⟩, ⟨ws, s _ _ h3, h4.mono fun _ _ => NodAt.same s⟩, h.nd, h.lots, h.ok, h.wl⟩
theorem MergI.few {K : PySem.W.Frag} {H H1 : Hp} {R L : Addr} {many : Nat} {Kn : List (List Int)} {N : List Nd} (h : MergI K H R L many Kn N H1) : Kn.length ≤ 4096 := lots_few h.nd h.lots
end L2
namespace Law
open PySem L2
section
variable {P : Program} {w : World} {K : PySem.W.Frag} {mg : Str → Option Value} {base : Heap}
def spLMerg (K : PySem.W.Frag) : Sp := fun vs H Q _ => ∃ (mv : Addr) (many : Nat) (ms : List Mv), vs = [.int (many : Nat), .ref mv] ∧ MvsAt K H mv ms ∧ many ≤ 12 ∧ ms.length ≤ 24 ∧ (∀ m ∈ ms, MvOk many m) ∧
  ∀ (x : V) (r : Option (List Int)) (H' : Hp), Same H H' → LR (LsOf ms) [upto many] [([], upto many)] r → (match r with | none => x = .non | some l => RowAt K H' x l) → Q x H'
abbrev nLawMerging : List Str := ["_law_many", "_law_moves_here", "_law_rows", "_law_known", "_law_ended", "_law_longer", "_law_row", "_law_lot", "_law_number", "_law_there"]
theorem scLawMerging : FnScope nLawMerging ["_law_many", "_law_moves_here"] (defScope s_law_merging) := ⟨rfl, rfl, rfl, by decide +kernel, rfl, by decide +kernel, by decide +kernel⟩
theorem ok_merging {f : Addr} {fd : FuncData} {fcLed0 : Addr} {fdcLed0 : FuncData} (F : Fun K "_law_merging" "_law_merging" s_law_merging f fd) (T : NmA mg) (cLed0 : Cl P w K mg base CX0 1 "_law_led" fcLed0 fdcLed0 ["_law_leads_here", "_law_lot"] (spLotLed K)) : FnOk P w K mg base CX0 2 f fd ["_law_many", "_law_moves_here"] (spLMerg K) := by
  refine F.ok scLawMerging (fun vs H Q E h => ?_) (fun cdv A' outer s H vs Q E hr h => ?_)
  · obtain ⟨mv, many, ms, rfl, _⟩ := h
    rfl
  · obtain ⟨mv, many, ms, rfl, hM, m12, ml, mo, k⟩ := h
    have hu := hu_of hr
    refine ⟨_, pss_cons (ps_par (i := 2) (j := 3) (by rfl) scLawMerging.nd rfl rfl (by decide) rfl rfl (pa_cons (pe_lst (pa_cons (pe_tup (pa_cons (pe_tup pa_nil) (pa_cons (pe_tupRg (by rfl) (by rfl) T.tuple (prg_1 (by rfl) T.range (pv 0))) pa_nil))) pa_nil)) (pa_cons (pe_disp1T hu (pe_tupRg (by rfl) (by rfl) T.tuple (prg_1 (by rfl) T.range (pv 0))) pe_bl) pa_nil)) (by rfl))
      (pss_cons (ps_while PassesOwn.never (pt_cmpR op_gt (pe_callB call_len_seq (by rfl) T.len PySem.boot_len (pa_cons (pv 2) pa_nil)) pe_int (nomark _))
        (pss_cons (ps_setLc (i := 4) (own := [("_law_row", 6), ("_law_lot", 7)]) (g := (gTup K 2 (gCons (gName 6) (gCons (gName 7) gNil)))) (tt := _) (by rfl) scLawMerging.nd rfl rfl (sw_true rfl rfl rfl (by decide +kernel)) (pi_list (pv 2)) (blkOk_by (own := [("_law_row", 6), ("_law_lot", 7)]) (N := nLawMerging) (sc := defScope s_law_merging) (by decide +kernel)) (fun _ _ _ _ _ => (pg_tup (by rfl) (pgs_cons (pg_name (i := 6) scLawMerging.nd rfl (Or.inl rfl)) (pgs_cons (pg_name (i := 7) scLawMerging.nd rfl (Or.inl rfl)) pgs_nil)))) (fun _ _ _ _ _ => (pts_one (pt_cmpR op_eq (pe_callB (r := rLenK K) (show CallR _ (.builtin "len") (rLenK K) from call_len_seq) (by rfl) T.len PySem.boot_len (pa_cons (pv 7) pa_nil)) pe_int (nomark _)))) (fun _ _ _ _ _ => (pv 6)))
        (pss_cons (ps_if (pt_cmpR op_gt (pe_callB call_len_seq (by rfl) T.len PySem.boot_len (pa_cons (pv 4) pa_nil)) pe_int (nomark _))
          (pss_one (ps_ret (pe_ix ix_list (pv 4) pe_int (fun _ _ => rfl)))) pss_nil)
        (pss_cons (ps_set (i := 5) scLawMerging.nd rfl (Or.inl rfl) (pe_lst pa_nil))
        (pss_cons (ps_for PassesOwn.never rfl (pi_list (pv 2)) (pg_tup (by rfl) (pgs_cons (pg_name (i := 6) scLawMerging.nd rfl (Or.inl rfl)) (pgs_cons (pg_name (i := 7) scLawMerging.nd rfl (Or.inl rfl)) pgs_nil)))
          (pss_one (ps_for PassesOwn.never rfl (pi_range1 (by rfl) T.range (pa_cons (pe_callB call_len_seq (by rfl) T.len PySem.boot_len (pa_cons (pv 1) pa_nil)) pa_nil)) (pg_name (i := 8) scLawMerging.nd rfl (Or.inl rfl))
            (pss_cons (ps_set (i := 9) scLawMerging.nd rfl (Or.inl rfl) (cLed0.call (hr.mono (by decide)) (pa_cons (pe_ix ix_tup (pe_ix ix_tup (pv 1) (pv 8) (fun _ _ => rfl)) pe_int (fun _ _ => rfl)) (pa_cons (pv 7) pa_nil))))
            (pss_one (ps_if (pt_cmp (pc_dnotin hu (pv 9) (pv 3)))
              (pss_cons (ps_dput hu (pv 3) (pv 9) pe_bl rfl)
              (pss_one (ps_expr (pe_bm PySem.F.plainAttrs_list PySem.F.slot_list_append PySem.F.type_list_append mt_append (pv 5) (pa_cons (pe_tup (pa_cons (pe_op op_catR (pv 6) (pe_tup (pa_cons (pv 8) pa_nil))) (pa_cons (pv 9) pa_nil))) pa_nil))))) pss_nil))))))
        (pss_one (ps_set (i := 2) scLawMerging.nd rfl (Or.inl rfl) (pv 5))))))))
      (pss_one (ps_ret pe_non))), ?_⟩
    obtain ⟨us, hV, hU⟩ := id hM
    -- rows = [((), all)]
    have rgok : RgOk 0 (many : Int) := RgOk.of_le (by decide) (by omega) (by decide) (by omega)
    refine ⟨by show 0 ≤ sizeLine; decide, fun p0 hp0 => ?_⟩
    refine new_step hp0 fun G0 s0 e0 => ?_
    refine ⟨_, rfl, (many : Int), rfl, rgok, fun T hT => ?_⟩
    refine new_step hT fun G1 s1 e1 => ?_
    refine ⟨by show 2 ≤ sizeLine; decide, fun p1 hp1 => ?_⟩
    refine new_step hp1 fun G2 s2 e2 => ?_
    refine ⟨by show 1 ≤ sizeLine; decide, fun L hL => ?_⟩
    refine new_step hL fun G3 s3 e3 => ?_
    refine fun R hR => ⟨_, rfl, (many : Int), rfl, rgok, fun T2 hT2 => ?_⟩
    have nR : R ≠ T2 := ne_of_none upd_same hT2
    refine ⟨_, _, rfl, by rw [upd_ne nR]; exact upd_same, keyL (upto many), T2, rfl, by rw [upd_same, keyL_v, rgV_up], _, _, rfl, ?_⟩
    have s03 := (s0.trans s1).trans (s2.trans s3)
    have hRH : H R = none := s03.free hR
    have s4 : Same H (upd (upd (upd G3 R (.dT [])) T2 (.tup (rgV 0 (many : Int)))) R (.dT [(keyL (upto many), .bl true)])) := ((s03.trans (Same.new hR)).trans (Same.new hT2)).mut hRH
    have s34 : Same G3 (upd (upd (upd G3 R (.dT [])) T2 (.tup (rgV 0 (many : Int)))) R (.dT [(keyL (upto many), .bl true)])) := ((Same.new hR).trans (Same.new hT2)).mut hR
    have d4 : (upd (upd (upd G3 R (.dT [])) T2 (.tup (rgV 0 (many : Int)))) R (.dT [(keyL (upto many), .bl true)])) R = some (.dT [(keyL (upto many), .bl true)]) := upd_same
    generalize upd (upd (upd G3 R (.dT [])) T2 (.tup (rgV 0 (many : Int)))) R (.dT [(keyL (upto many), .bl true)]) = G4 at s4 s34 d4
    rw [rgV_up] at e1
    have upOk := lot_id m12 (upto_in many) (upto_asc many)
    have nod0 : NodAt K G4 (.ref p1) ([], upto many) := ⟨p1, p0, T, rfl, SqT.of (s34 _ _ (s3 _ _ e2)), SqT.of (s34 _ _ (s3 _ _ (s2 _ _ (s1 _ _ e0)))), SqT.of (s34 _ _ (s3 _ _ (s2 _ _ e1)))⟩
    have I0 : MergI K H R L many [upto many] [([], upto many)] G4 := {
      same := s4
      dic := ⟨_, d4, rfl⟩
      lst := ⟨_, s34 _ _ e3, AllIn.snoc AllIn.nil nod0⟩
      nd := by simp
      lots := fun c hc => by rw [List.mem_singleton.mp hc]; exact upOk
      ok := fun n hn => by
        rw [List.mem_singleton.mp hn]
        exact ⟨upOk, upto_in many, by rw [upto_len]; exact m12, Nat.zero_le _⟩
      wl := Nat.le_refl _ }
    refine ⟨fun m σ H' => ∃ (Lr : Addr) (Kn : List (List Int)) (N : List Nd), MergI K H R Lr many Kn N H' ∧ (∀ r, LR (LsOf ms) Kn N r → LR (LsOf ms) [upto many] [([], upto many)] r) ∧ m = 2 * (4096 - Kn.length) + min 1 N.length ∧ ∃ u4 u5 u6 u7 u8 u9 : Option V, σ = [some (.int (many : Int)), some (.ref mv), some (.ref Lr), some (.ref R), u4, u5, u6, u7, u8, u9], ⟨_, L, [upto many], [([], upto many)], I0, (by intro r h; exact h), rfl, none, none, none, none, none, none, rfl⟩, ?_⟩
    rintro m σ H' ⟨Lr, Kn, N, I, hpr, rfl, u4, u5, u6, u7, u8, u9, rfl⟩
    obtain ⟨ws, hw, hW⟩ := I.lst
    refine ⟨_, rfl, Lr, _, rfl, .inl (SqL.of hw), _, _, rfl, rfl, _, rfl, ite2 (fun c => ?_) (fun c => ?_)⟩
    · refine ⟨fun σ' H1 => ∃ m', m' < _ ∧ ∃ (Lr : Addr) (Kn : List (List Int)) (N : List Nd), MergI K H R Lr many Kn N H1 ∧ (∀ r, LR (LsOf ms) Kn N r → LR (LsOf ms) [upto many] [([], upto many)] r) ∧ m' = 2 * (4096 - Kn.length) + min 1 N.length ∧ ∃ u4 u5 u6 u7 u8 u9 : Option V, σ' = [some (.int (many : Int)), some (.ref mv), some (.ref Lr), some (.ref R), u4, u5, u6, u7, u8, u9], fun _ _ h => h, ?_⟩
      have N0 : N ≠ [] := fun z => by
        have c := of_decide_eq_true c
        rw [hW.1, z] at c
        exact absurd c (by decide)
      have hsv : MvsAt K H' mv ms := hM.same I.same
      refine ⟨_, rfl, Lr, rfl, ⟨_, SqL.of hw⟩, fun D hD => ?_⟩
      refine lc_list (K := K) (a := Lr) (xs := ws) (fun i H2 => Same H' H2 ∧ ∃ acc, H2 D = some (.lst acc) ∧ AllIn (fun v (n : Nd) => RowAt K H2 v n.1) acc ((N.take i).filter fun n => n.2.length == 1) ∧ acc.length ≤ i) ⟨Same.new hD, [], upd_same, AllIn.nil, Nat.zero_le _⟩ (fun i H2 _ h => SqL.of (h.1 _ _ hw)) (fun i x H2 hi g => ?_) fun H2 g => ?_
      · obtain ⟨s2, acc, d2, A2, l2⟩ := g
        obtain ⟨n, hn, t, a, b, rfl, ht, ha, hb⟩ := hW.2 i x hi
        have il := (List.getElem?_eq_some_iff.mp hn).1
        have wl := I.wl
        have fw := I.few
        have tk : (N.take (i + 1)).filter (fun n => n.2.length == 1) = (N.take i).filter (fun n => n.2.length == 1) ++ (if (n.2.length == 1) = true then [n] else []) := by
          rw [List.take_add_one, hn, List.filter_append]
          show _ ++ List.filter _ [n] = _
          rw [List.filter_cons, List.filter_nil]
        refine ⟨t, _, rfl, s2.sqT ht, rfl, _, _, rfl, _, _, rfl, rfl, ?_⟩
        refine ⟨rfl, _, rfl, b, _, rfl, .inr (s2.sqT hb), rfl, _, rfl, ?_⟩
        rw [dec_one, List.length_map]
        refine ite2 (fun h => ?_) (fun h => ?_)
        · rw [tk, if_pos h]
          refine ⟨_, rfl, acc, d2, by rw [sizeLine_eq]; omega, s2.mut hD, _, upd_same, (A2.mono fun _ _ z => z.upd d2).snoc ⟨a, rfl, sqT_updL d2 (s2.sqT ha)⟩, by rw [List.length_append]; show _ + 1 ≤ _; omega⟩
        · rw [tk, if_neg h, List.append_nil]
          exact ⟨s2, acc, d2, A2, by omega⟩
      · obtain ⟨s2, acc, d2, A2, l2⟩ := g
        rw [hW.1, List.take_length] at A2
        have I2 := I.more s2
        refine ⟨_, rfl, D, _, rfl, .inl (SqL.of d2), _, _, rfl, rfl, _, rfl, ite2 (fun c1 => ?_) (fun c1 => ?_)⟩
        · have c1 := of_decide_eq_true c1
          cases hF : N.filter (fun n => n.2.length == 1) with
          | nil =>
            rw [hF] at A2
            rw [A2.1] at c1
            exact absurd c1 (by decide)
          | cons n rest =>
            rw [hF] at A2
            obtain ⟨pre, post, eN, hpre, hsn, _⟩ := List.filter_eq_cons_iff.mp hF
            have hacc : acc[0]? = some acc[0] := List.getElem?_eq_getElem (by rw [A2.1]; exact Nat.succ_pos _)
            obtain ⟨n', en, hrow⟩ := A2.2 0 _ hacc
            cases en
            refine ⟨_, rfl, D, _, (0 : Int), _, rfl, rfl, SqL.of d2, (atI_nat hacc : atI acc ((0 : Nat) : Int) = _), ?_⟩
            refine k _ (some n.1) H2 I2.same (hpr _ ?_) hrow
            rw [eN]
            exact .hit Kn pre n post (fun m hm z => hpre m hm (by rw [z] <;> rfl)) (eq_of_beq hsn)
        · have hns : ∀ n ∈ N, n.2.length ≠ 1 := fun n hn z => by
            have : n ∈ N.filter fun n => n.2.length == 1 := List.mem_filter.mpr ⟨hn, by rw [z] <;> rfl⟩
            have c1 : ¬ (0 : Int) < (acc.length : Nat) := fun z => c1 (decide_eq_true z)
            rw [A2.1] at c1
            have := List.length_pos_of_mem this
            omega
          have hw2 := s2 _ _ hw
          have hW2 := hW.mono fun _ _ z => NodAt.same s2 z
          refine ⟨by show 0 ≤ sizeLine; decide, fun L2 hL2 => ?_⟩
          have hL2H : H L2 = none := I2.same.free hL2
          obtain ⟨kv2, hk2, hK2⟩ := I2.dic
          have nRL : R ≠ L2 := ne_of_none hk2 hL2
          have nLL : Lr ≠ L2 := ne_of_none hw2 hL2
          refine new_step hL2 fun H3 s3 e3 => ?_
          have I3 : MergI K H R L2 many Kn [] H3 := {
            same := I2.same.trans s3
            dic := ⟨kv2, s3 _ _ hk2, hK2⟩
            lst := ⟨[], e3, AllIn.nil⟩
            nd := I.nd
            lots := I.lots
            ok := fun n hn => absurd hn List.not_mem_nil
            wl := Nat.zero_le _ }
          refine ⟨_, rfl, Lr, rfl, ⟨_, SqL.of (s3 _ _ hw2)⟩, ?_⟩
          refine for_list (K := K) (a := Lr) (xs := ws) (fun i σ H' => MergI K H R L2 many (expL (LsOf ms) (N.take i) Kn).1 (expL (LsOf ms) (N.take i) Kn).2 H' ∧ H' Lr = some (.lst ws) ∧ AllIn (NodAt K H') ws N ∧ ∃ u6 u7 u8 u9 : Option V, σ = [some (.int (many : Int)), some (.ref mv), some (.ref Lr), some (.ref R), some (.ref D), some (.ref L2), u6, u7, u8, u9]) ⟨I3, s3 _ _ hw2, hW2.mono fun _ _ z => NodAt.same s3 z, u6, u7, u8, u9, rfl⟩ (fun i σ H' _ h => SqL.of h.2.1) ?_ ?_
          · rintro i x σ H4 hi ⟨I4, w4, W4, u6, u7, u8, u9, rfl⟩
            obtain ⟨n, hn, t, a, b, rfl, ht, ha, hb⟩ := W4.2 i x hi
            have il := (List.getElem?_eq_some_iff.mp hn).1
            have okn := I.ok n (List.mem_of_getElem? hn)
            refine ⟨t, _, rfl, ht, rfl, _, _, rfl, _, _, rfl, rfl, ?_⟩
            refine ⟨_, rfl, mv, us, rfl, .inr (I4.same.sqT hV), ((us.length : Nat) : Int), rfl, by have := hU.1; omega, by have := hU.1; omega, ?_⟩
            rw [Int.toNat_natCast]
            refine for_range (lo := 0) (n := us.length) (fun j σ H' => MergI K H R L2 many (exp1 (LsOf ms) n j (expL (LsOf ms) (N.take i) Kn).1).1 ((expL (LsOf ms) (N.take i) Kn).2 ++ (exp1 (LsOf ms) n j (expL (LsOf ms) (N.take i) Kn).1).2) H' ∧ H' Lr = some (.lst ws) ∧ AllIn (NodAt K H') ws N ∧ SqT K H' a (n.1.map V.int) ∧ SqT K H' b (n.2.map V.int) ∧ ∃ u8 u9 : Option V, σ = [some (.int (many : Int)), some (.ref mv), some (.ref Lr), some (.ref R), some (.ref D), some (.ref L2), some (.ref a), some (.ref b), u8, u9]) ⟨by show MergI K H R L2 many (expL (LsOf ms) (N.take i) Kn).1 ((expL (LsOf ms) (N.take i) Kn).2 ++ []) H4; rw [List.append_nil]; exact I4, w4, W4, ha, hb, u8, u9, rfl⟩ ?_ ?_
            · rintro j σ H5 hj ⟨I5, w5, W5, a5, b5, u8, u9, rfl⟩
              rw [Int.zero_add]
              have jm : j < ms.length := by rw [← hU.1]; exact hj
              obtain ⟨m, aa, ss, la, hat, hm, h3, h4, h5⟩ := mv_ix hU (r := ((j : Nat) : Int)) ⟨by omega, by omega⟩
              rw [Int.toNat_natCast] at hm
              obtain ⟨_, _, _, m1, m2⟩ := mo m (List.mem_of_getElem? hm)
              have lN := leadsN m12 ⟨m1, m2⟩ okn.inn okn.len
              have sV := I5.same
              refine ⟨_, rfl, _, rfl, mv, us, ((j : Nat) : Int), _, rfl, rfl, sV.sqT hV, hat, aa, _, (1 : Int), _, rfl, rfl, sV.sqT h3, rfl, _, rfl, la, b, m.2, n.2, rfl, sV.sqT h5, b5, okn.len, fun s hs => by rw [m1]; exact okn.inn s hs, fun s hs => by have := m2 s hs; omega, fun l H6 s6 e6 => ?_⟩
              have I6 := I5.more s6
              obtain ⟨kv6, hk6, hK6⟩ := I6.dic
              obtain ⟨ws6, hw6, hW6⟩ := I6.lst
              refine ⟨_, rfl, _, rfl, R, _, rfl, DGet.t hk6 (by rw [keyL_v]; exact e6), _, rfl, ?_⟩
              rw [keys_has hK6]
              have st := exp1_step (LsOf ms) n j (expL (LsOf ms) (N.take i) Kn).1
              rw [ls_get hm] at st
              refine ite2 (fun c2 => ?_) (fun c2 => ?_)
              · have nin : leadsF m.2 n.2 ∉ (exp1 (LsOf ms) n j (expL (LsOf ms) (N.take i) Kn).1).1 := fun z => by
                  rw [decide_eq_true z] at c2
                  cases c2
                rw [if_neg nin] at st
                have fw := I6.few
                have kl := congrArg List.length hK6
                rw [List.length_map, List.length_map] at kl
                have hnone : valV kv6 (keyL (leadsF m.2 n.2)) = none := by
                  have z := keys_has hK6 (leadsF m.2 n.2)
                  rw [decide_eq_false nin] at z
                  cases h : valV kv6 (keyL (leadsF m.2 n.2)) with
                  | none => rfl
                  | some _ => rw [h] at z; cases z
                refine ⟨_, rfl, _, rfl, R, _, rfl, DPut.t (k := keyL (leadsF m.2 n.2)) hk6 (by rw [keyL_v]; exact e6) (by rw [kl, sizeLine_eq]; omega), ?_⟩
                rw [putK_new _ hnone]
                have dT : ∀ y, HO.tup y ≠ HO.dT kv6 := fun y h => by cases h
                have dT2 : ∀ q y, HO.frz q (.tup y) ≠ HO.dT kv6 := fun q y h => by cases h
                have s7 : Same H (upd H6 R (.dT (kv6 ++ [(keyL (leadsF m.2 n.2), .bl true)]))) := I6.same.mut hRH
                have nRLr : R ≠ Lr := fun z => by
                  have y := s6 _ _ w5
                  rw [← z, hk6] at y
                  cases y
                have w7 : (upd H6 R (.dT (kv6 ++ [(keyL (leadsF m.2 n.2), .bl true)]))) Lr = some (.lst ws) := by
                  rw [upd_ne (Ne.symm nRLr)]
                  exact s6 _ _ w5
                have W7 : AllIn (NodAt K (upd H6 R (.dT (kv6 ++ [(keyL (leadsF m.2 n.2), .bl true)])))) ws N := W5.mono fun _ _ z => NodAt.updO hk6 dT dT2 (NodAt.same s6 z)
                have a7 := sqT_updO (u := .dT (kv6 ++ [(keyL (leadsF m.2 n.2), .bl true)])) hk6 dT dT2 (s6.sqT a5)
                have b7 := sqT_updO (u := .dT (kv6 ++ [(keyL (leadsF m.2 n.2), .bl true)])) hk6 dT dT2 (s6.sqT b5)
                have l7 := sqT_updO (u := .dT (kv6 ++ [(keyL (leadsF m.2 n.2), .bl true)])) hk6 dT dT2 (SqT.of (K := K) e6)
                have hk7 : (upd H6 R (.dT (kv6 ++ [(keyL (leadsF m.2 n.2), .bl true)]))) R = some (.dT (kv6 ++ [(keyL (leadsF m.2 n.2), .bl true)])) := upd_same
                have hw7 : (upd H6 R (.dT (kv6 ++ [(keyL (leadsF m.2 n.2), .bl true)]))) L2 = some (.lst ws6) := by
                  rw [upd_ne (Ne.symm nRL)]
                  exact hw6
                have hW7 : AllIn (NodAt K (upd H6 R (.dT (kv6 ++ [(keyL (leadsF m.2 n.2), .bl true)])))) ws6 _ := hW6.mono fun _ _ z => NodAt.updO hk6 dT dT2 z
                generalize upd H6 R (.dT (kv6 ++ [(keyL (leadsF m.2 n.2), .bl true)])) = H7 at s7 w7 W7 a7 b7 l7 hk7 hw7 hW7
                refine ⟨_, rfl, .inl ⟨rfl, _, SqL.of hw7⟩, _, rfl, _, rfl, by show 1 ≤ sizeLine; decide, fun tb htb => ?_⟩
                refine new_step htb fun H8 s8 e8 => ?_
                refine ⟨a, tb, _, _, rfl, rfl, s8.sqT a7, SqT.of e8, by have := okn.row; have := I.few; rw [List.length_map, sizeLine_eq]; show _ + 1 ≤ _; omega, fun rb H9 s9 e9 => ?_⟩
                refine ⟨_, rfl, by show 2 ≤ sizeLine; decide, fun t2 ht2 => ?_⟩
                refine new_step ht2 fun H10 s10 e10 => ?_
                have s710 := (s8.trans s9).trans s10
                have hw10 := s710 _ _ hw7
                refine ⟨L2, ws6, _, rfl, rfl, hw10, ?_, ?_⟩
                · have := I6.wl
                  rw [hW6.1, sizeLine_eq]
                  omega
                have dL : ∀ y, HO.tup y ≠ HO.lst ws6 := fun y h => by cases h
                have dL2 : ∀ q y, HO.frz q (.tup y) ≠ HO.lst ws6 := fun q y h => by cases h
                have nw : NodAt K H10 (.ref t2) (n.1 ++ [(j : Int)], leadsF m.2 n.2) := ⟨t2, rb, l, rfl, SqT.of e10, by rw [List.map_append]; exact s10.sqT e9, s710.sqT l7⟩
                rw [st]
                have kn : (exp1 (LsOf ms) n j (expL (LsOf ms) (N.take i) Kn).1).1.length + 1 = ((exp1 (LsOf ms) n j (expL (LsOf ms) (N.take i) Kn).1).1 ++ [leadsF m.2 n.2]).length := by rw [List.length_append] <;> rfl
                refine ⟨?_, ?_, ?_, ?_, ?_, _, _, rfl⟩
                · show MergI K H R L2 many ((exp1 (LsOf ms) n j (expL (LsOf ms) (N.take i) Kn).1).1 ++ [leadsF m.2 n.2]) ((expL (LsOf ms) (N.take i) Kn).2 ++ ((exp1 (LsOf ms) n j (expL (LsOf ms) (N.take i) Kn).1).2 ++ [(n.1 ++ [(j : Int)], leadsF m.2 n.2)])) _
                  rw [← List.append_assoc]
                  refine ⟨(s7.trans s710).mut hL2H, ⟨_, by rw [upd_ne nRL]; exact s710 _ _ hk7, by rw [List.map_append, List.map_append, hK6] <;> rfl⟩, ⟨_, upd_same, (hW7.mono fun _ _ z => NodAt.updO hw10 dL dL2 (NodAt.same s710 z)).snoc (NodAt.updO hw10 dL dL2 nw)⟩, ?_, ?_, ?_, ?_⟩
                  · rw [List.nodup_append]
                    refine ⟨I6.nd, by simp, fun x hx y hy e => ?_⟩
                    rw [List.mem_singleton] at hy
                    rw [e, hy] at hx
                    exact nin hx
                  · intro c hc
                    rcases List.mem_append.mp hc with h | h
                    · exact I6.lots c h
                    · rw [List.mem_singleton.mp h]
                      exact lN.1
                  · intro z hz
                    rw [← kn]
                    rcases List.mem_append.mp hz with h | h
                    · exact (I6.ok z h).more (Nat.le_succ _)
                    · rw [List.mem_singleton.mp h]
                      refine ⟨lN.1, lN.2.1, lN.2.2, ?_⟩
                      have r0 := okn.row
                      have kl1 : (expL (LsOf ms) (N.take i) Kn).1.length = Kn.length + (expL (LsOf ms) (N.take i) Kn).2.length := by
                        rw [expL_eq, addAll_known, List.length_append, List.length_map]
                      have kl2 : (exp1 (LsOf ms) n j (expL (LsOf ms) (N.take i) Kn).1).1.length = (expL (LsOf ms) (N.take i) Kn).1.length + (exp1 (LsOf ms) n j (expL (LsOf ms) (N.take i) Kn).1).2.length := by
                        rw [exp1_eq, addAll_known, List.length_append, List.length_map]
                      show (n.1 ++ [(j : Int)]).length ≤ _
                      rw [List.length_append]
                      show n.1.length + 1 ≤ _
                      omega
                  · have := I6.wl
                    rw [← kn, List.length_append]
                    show _ + 1 ≤ _
                    omega
                · rw [upd_ne nLL]
                  exact s710 _ _ w7
                · exact W7.mono fun _ _ z => NodAt.updO hw10 dL dL2 (NodAt.same s710 z)
                · exact sqT_updO hw10 dL dL2 (s710.sqT a7)
                · exact sqT_updO hw10 dL dL2 (s710.sqT b7)
              · have isin : leadsF m.2 n.2 ∈ (exp1 (LsOf ms) n j (expL (LsOf ms) (N.take i) Kn).1).1 := by
                  refine Classical.byContradiction fun z => c2 ?_
                  rw [decide_eq_false z] <;> rfl
                rw [if_pos isin] at st
                rw [st]
                exact ⟨I6, s6 _ _ w5, W5.mono fun _ _ z => NodAt.same s6 z, s6.sqT a5, s6.sqT b5, _, _, rfl⟩
            · rintro σ H5 ⟨I5, w5, W5, a5, b5, u8, u9, rfl⟩
              have tk : N.take (i + 1) = N.take i ++ [n] := by rw [List.take_add_one, hn] <;> rfl
              rw [tk, expL_snoc]
              have ul : us.length = (LsOf ms).length := by rw [hU.1, ls_len]
              rw [ul] at I5
              exact ⟨I5, w5, W5, _, _, _, _, rfl⟩
          · rintro σ H4 ⟨I4, w4, W4, u6, u7, u8, u9, rfl⟩
            rw [hW.1, List.take_length] at I4
            refine ⟨_, rfl, ?_⟩
            have fw := I4.few
            have kl : (expL (LsOf ms) N Kn).1.length = Kn.length + (expL (LsOf ms) N Kn).2.length := by
              rw [expL_eq, addAll_known, List.length_append, List.length_map]
            have nl : 0 < N.length := List.length_pos_iff.mpr N0
            exact ⟨_, by omega, L2, _, _, I4, fun r h => hpr r (.step Kn N r N0 hns h), rfl, _, _, _, _, _, _, rfl⟩
    · have W0 : N = [] := by
        have c : ¬ (0 : Int) < (ws.length : Nat) := fun z => c (decide_eq_true z)
        exact List.eq_nil_of_length_eq_zero (by rw [← hW.1]; omega)
      subst W0
      exact k .non none H' I.same (hpr none (.nil _)) rfl
end
end Law

namespace Law
open PySem L2
theorem AllIn.app {α : Type} {R : V → α → Prop} {vs us : List V} {l m : List α} (h : AllIn R vs l) (g : AllIn R us m) : AllIn R (vs ++ us) (l ++ m) := by
  refine ⟨by rw [List.length_append, List.length_append, h.1, g.1], fun i v hv => ?_⟩
  by_cases c : i < vs.length
  · rw [List.getElem?_append_left c] at hv
    obtain ⟨x, h1, h2⟩ := h.2 i v hv
    exact ⟨x, by rw [List.getElem?_append_left (by rw [← h.1]; exact c)]; exact h1, h2⟩
  · rw [List.getElem?_append_right (by omega)] at hv
    obtain ⟨x, h1, h2⟩ := g.2 _ v hv
    exact ⟨x, by rw [List.getElem?_append_right (by rw [← h.1]; omega), ← h.1]; exact h1, h2⟩
theorem rJ_low {n i : Nat} (hi : i < n) : ∀ j, j ≤ i + 1 → rJ n (i : Int) j = []
  | 0, _ => rfl
  | j + 1, h => by
    rw [rJ_snoc _ (by omega), if_neg (by omega), rJ_low hi j (by omega)]
section
variable {P : Program} {w : World} {K : PySem.W.Frag} {mg : Str → Option Value} {base : Heap}
def spLCou (K : PySem.W.Frag) : Sp := fun vs H Q _ => ∃ many : Nat, vs = [.int (many : Nat)] ∧ many ≤ 12 ∧
  ∀ (D : Addr) (ws : List V) (H' : Hp), Same H H' → H D = none → H' D = some (.lst ws) → AllIn (RowAt K H') ws (couplesF many) → Q (.ref D) H'
abbrev nLawCouples : List Str := ["_law_many", "_law_found", "_law_one", "_law_other"]
theorem scLawCouples : FnScope nLawCouples ["_law_many"] (defScope s_law_couples) := ⟨rfl, rfl, rfl, by decide +kernel, rfl, by decide +kernel, by decide +kernel⟩
theorem ok_couples {f : Addr} {fd : FuncData} (F : Fun K "_law_couples" "_law_couples" s_law_couples f fd) (T : NmA mg) : FnOk P w K mg base CX0 1 f fd ["_law_many"] (spLCou K) := by
  refine F.ok scLawCouples (fun vs H Q E h => ?_) (fun cdv A' outer s H vs Q E hr h => ?_)
  · obtain ⟨many, rfl, _⟩ := h
    rfl
  · obtain ⟨many, rfl, m12, k⟩ := h
    have hu := hu_of hr
    refine ⟨_, pss_cons (ps_set (i := 1) scLawCouples.nd rfl (Or.inl rfl) (pe_lst pa_nil))
      (pss_cons (ps_for PassesOwn.never rfl (pi_range1 (by rfl) T.range (pa_cons (pv 0) pa_nil)) (pg_name (i := 2) scLawCouples.nd rfl (Or.inr rfl))
        (pss_one (ps_expr (pe_bm PySem.F.plainAttrs_list PySem.F.slot_list_extend PySem.F.type_list_extend mt_extend (pv 1) (pa_cons (pe_lc (own := [("_law_other", 3)]) (g := (gName 3)) (tt := tYes) rfl scLawCouples.nd  (pi_range2 (by rfl) T.range (pa_cons (pe_op op_add (pv 2) pe_int) (pa_cons (pv 0) pa_nil))) (blkOk_by (own := [("_law_other", 3)]) (N := nLawCouples) (sc := defScope s_law_couples) (by decide +kernel)) (fun _ _ _ _ _ => (pg_name (i := 3) scLawCouples.nd rfl (Or.inl rfl))) (fun _ _ _ _ _ => pts_nil) (fun _ _ _ _ _ => (pe_tup (pa_cons (pv 2) (pa_cons (pv 3) pa_nil))))) pa_nil)))))
      (pss_one (ps_ret (pv 1)))), ?_⟩
    refine ⟨by show 0 ≤ sizeLine; decide, fun F hF => ?_⟩
    refine new_step hF fun H1 s1 e1 => ?_
    refine ⟨_, rfl, (many : Int), rfl, by omega, by omega, ?_⟩
    rw [Int.toNat_natCast]
    refine for_range (lo := 0) (n := many) (fun i σ H' => Same H H' ∧ ∃ ws, H' F = some (.lst ws) ∧ AllIn (RowAt K H') ws (cI many i) ∧ ws.length ≤ i * 12 ∧ ∃ u v : Option V, σ = [some (.int (many : Int)), some (.ref F), u, v]) ⟨s1, [], e1, by show AllIn _ [] []; exact AllIn.nil, Nat.zero_le _, none, none, rfl⟩ ?_ ?_
    · rintro i σ H2 hi ⟨s2, ws, e2, A2, l2, u, v, rfl⟩
      rw [Int.zero_add]
      refine ⟨_, rfl, .inl ⟨rfl, _, SqL.of e2⟩, _, rfl, _, _, rfl, rfl, _, rfl, _, _, rfl, ⟨by omega, by omega, by omega, by omega⟩, fun D hD => ?_⟩
      have nFD : F ≠ D := ne_of_none e2 hD
      refine lc_range (lo := (i : Int) + 1) (n := ((many : Int) - ((i : Int) + 1)).toNat) (fun j H' => Same H2 H' ∧ ∃ acc, H' D = some (.lst acc) ∧ AllIn (RowAt K H') acc (rJ many (i : Int) (i + 1 + j)) ∧ acc.length ≤ j) ⟨Same.new hD, [], upd_same, by rw [rJ_low hi _ (by omega)]; exact AllIn.nil, Nat.zero_le _⟩ (fun j H3 hj g => ?_) fun H3 g => ?_
      · obtain ⟨s3, acc, d3, A3, l3⟩ := g
        have hjm : i + 1 + j < many := by omega
        have ej : (i : Int) + 1 + (j : Int) = ((i + 1 + j : Nat) : Int) := by omega
        refine ⟨rfl, _, rfl, _, rfl, by show 2 ≤ sizeLine; decide, fun t ht => ?_⟩
        refine new_step ht fun H4 s4 e4 => ?_
        have d4 := s4 _ _ d3
        refine ⟨acc, d4, by rw [sizeLine_eq]; omega, (s3.trans s4).mut hD, _, upd_same, ?_, by rw [List.length_append]; show _ + 1 ≤ _; omega⟩
        rw [show i + 1 + (j + 1) = (i + 1 + j) + 1 by omega, rJ_snoc _ hjm, if_pos (by omega)]
        refine (A3.mono fun _ _ z => (z.same s4).upd d4).snoc ⟨t, rfl, sqT_updL d4 (SqT.of ?_)⟩
        rw [e4, ej] <;> rfl
      · obtain ⟨s3, acc, d3, A3, l3⟩ := g
        have em : i + 1 + ((many : Int) - ((i : Int) + 1)).toNat = many := by omega
        rw [em, rJ_all] at A3
        have e3 := s3 _ _ e2
        refine ⟨F, D, ws, acc, rfl, rfl, e3, d3, by rw [sizeLine_eq]; omega, (s2.trans s3).mut hF, ws ++ acc, upd_same, ?_, by rw [List.length_append]; omega, _, _, rfl⟩
        rw [cI_snoc hi]
        exact AllIn.app (A2.mono fun _ _ z => (z.same s3).upd e3) (A3.mono fun _ _ z => z.upd e3)
    · rintro σ H2 ⟨s2, ws, e2, A2, l2, u, v, rfl⟩
      rw [cI_all] at A2
      exact ⟨_, rfl, k F ws H2 s2 hF e2 A2⟩
end
end Law

namespace L2
open PySem PySem.Spec PyProof.Rows Law
/-! ### couples met: the law's own going back -/
def oneB (xs c : List Int) : Bool := decide (stepS xs (c.getD 0 0) = stepS xs (c.getD 1 0))
def met0 (Ls : List (List Int)) (n : Nat) : List (List Int) := (couplesF n).filter fun c => Ls.any fun xs => oneB xs c
def stepM (Ls met : List (List Int)) (c : List Int) : Bool := Ls.any fun xs => decide (leadsF xs c ∈ met)
def ClM (Ls : List (List Int)) (n : Nat) (met : List (List Int)) : Prop := ∀ c ∈ couplesF n, c ∉ met → ∀ xs ∈ Ls, leadsF xs c ∉ met
def uM (n : Nat) (met : List (List Int)) : Nat := ((couplesF n).filter fun c => decide (c ∉ met)).length
structure OkM (Ls : List (List Int)) (n : Nat) (met : List (List Int)) : Prop where
  base : ∀ c ∈ met0 Ls n, c ∈ met
  all : ∀ c ∈ met, c ∈ couplesF n ∧ ¬ Aprt Ls c
theorem oneB_iff {n : Nat} (hn : n ≤ 12) {xs c : List Int} (hx : LdOk n xs) (hc : c ∈ couplesF n) : oneB xs c = true ↔ (leadsF xs c).length = 1 := by
  obtain ⟨a, b, rfl, _⟩ := couple_mem.mp hc
  rw [couple_one hn hx hc]
  unfold oneB
  rw [decide_eq_true_iff]
  rfl
theorem met_row {Ls : List (List Int)} {c : List Int} {i : Nat} (hi : i < Ls.length) {p : List Int} (hp : RwOk Ls.length p) (h : (rch Ls (leadsF (Ls.getD i []) c) p).length = 1) : ¬ Aprt Ls c := fun ha => ha.led hi p hp h
theorem met0_ok {n : Nat} (hn : n ≤ 12) {Ls : List (List Int)} (h : LsOk n Ls) : OkM Ls n (met0 Ls n) := by
  refine ⟨fun c hc => hc, fun c hc => ?_⟩
  unfold met0 at hc
  rw [List.mem_filter, List.any_eq_true] at hc
  obtain ⟨h1, xs, hx, h2⟩ := hc
  refine ⟨h1, ?_⟩
  obtain ⟨i, hi, rfl⟩ := List.getElem_of_mem hx
  have e : Ls.getD i [] = Ls[i] := by rw [List.getD_eq_getElem?_getD, List.getElem?_eq_getElem hi] <;> rfl
  refine met_row hi (p := []) (fun r hr => absurd hr List.not_mem_nil) ?_
  rw [e]
  exact (oneB_iff hn (h _ hx) h1).mp h2
theorem OkM.add {n : Nat} {Ls met : List (List Int)} (h : OkM Ls n met) {c : List Int} (hc : c ∈ couplesF n) (hs : stepM Ls met c = true) : OkM Ls n (met ++ [c]) := by
  refine ⟨fun d hd => List.mem_append_left _ (h.base d hd), fun d hd => ?_⟩
  rcases List.mem_append.mp hd with z | z
  · exact h.all d z
  · rw [List.mem_singleton.mp z]
    refine ⟨hc, ?_⟩
    unfold stepM at hs
    rw [List.any_eq_true] at hs
    obtain ⟨xs, hx, h2⟩ := hs
    obtain ⟨i, hi, rfl⟩ := List.getElem_of_mem hx
    have e : Ls.getD i [] = Ls[i] := by rw [List.getD_eq_getElem?_getD, List.getElem?_eq_getElem hi] <;> rfl
    have na := (h.all _ (of_decide_eq_true h2)).2
    unfold Aprt at na
    have : ∃ p, RwOk Ls.length p ∧ (rch Ls (leadsF Ls[i] c) p).length = 1 := Classical.byContradiction fun z => na fun p hp e => z ⟨p, hp, e⟩
    obtain ⟨p, hp, h3⟩ := this
    exact met_row hi hp (by rw [e]; exact h3)
theorem uM_lt {n : Nat} {met : List (List Int)} {c : List Int} (hc : c ∈ couplesF n) (hn : c ∉ met) : uM n (met ++ [c]) < uM n met := by
  unfold uM
  have e : ((couplesF n).filter fun d => decide (d ∉ met ++ [c])) = ((couplesF n).filter fun d => decide (d ∉ met)).filter fun d => decide (d ≠ c) := by
    rw [List.filter_filter]
    refine List.filter_congr fun d _ => ?_
    rw [← Bool.decide_and]
    refine decide_eq_decide.mpr ?_
    rw [List.mem_append, List.mem_singleton]
    constructor
    · exact fun z => ⟨fun y => z (.inr y), fun y => z (.inl y)⟩
    · rintro ⟨z1, z2⟩ (y | y)
      · exact z2 y
      · exact z1 y
  rw [e, List.length_filter_lt_length_iff_exists]
  exact ⟨c, List.mem_filter.mpr ⟨hc, decide_eq_true hn⟩, by simp⟩
theorem clM_full {n : Nat} {Ls met : List (List Int)} (h : uM n met = 0) : ClM Ls n met := fun c hc hn => by
  have z := List.length_eq_zero_iff.mp h
  have : c ∈ (couplesF n).filter fun c => decide (c ∉ met) := List.mem_filter.mpr ⟨hc, decide_eq_true hn⟩
  rw [z] at this
  exact absurd this List.not_mem_nil
theorem clM_apart {n : Nat} (hn : n ≤ 12) {Ls met : List (List Int)} (h : LsOk n Ls) (ok : OkM Ls n met) (cl : ClM Ls n met) : ((couplesF n).filter fun c => decide (c ∉ met)) = apartF Ls n := by
  have key : ∀ (p c : List Int), c ∈ couplesF n → c ∉ met → RwOk Ls.length p → (rch Ls c p).length ≠ 1 := by
    intro p
    induction p with
    | nil =>
      intro c hc _ _
      show c.length ≠ 1
      rw [(couple_lot hn hc).2.2.1]
      decide
    | cons r p ih =>
      intro c hc hm hp
      have z := hp r List.mem_cons_self
      have hi : r.toNat < Ls.length := by omega
      have hx : Ls.getD r.toNat [] ∈ Ls := by
        rw [List.getD_eq_getElem?_getD, List.getElem?_eq_getElem hi]
        exact List.getElem_mem _
      refine ih _ ?_ (cl c hc hm _ hx) fun x hx => hp x (List.mem_cons_of_mem _ hx)
      rcases couple_led hn (h _ hx) hc with q | q
      · refine absurd (ok.base c ?_) hm
        unfold met0
        rw [List.mem_filter, List.any_eq_true]
        exact ⟨hc, _, hx, (oneB_iff hn (h _ hx) hc).mpr q⟩
      · exact q
  refine filter_apart fun c hc => ?_
  rw [decide_eq_true_iff]
  exact ⟨fun hm p hp => key p c hc hm hp, fun ha hm => (ok.all c hm).2 ha⟩
end L2
namespace Law
open PySem L2
section
variable {P : Program} {w : World} {K : PySem.W.Frag} {mg : Str → Option Value} {base : Heap}
def spLAp (K : PySem.W.Frag) : Sp := fun vs H Q _ => ∃ (mv : Addr) (many : Nat) (ms : List Mv), vs = [.int (many : Nat), .ref mv] ∧ MvsAt K H mv ms ∧ many ≤ 12 ∧ ms.length ≤ 24 ∧ (∀ m ∈ ms, MvOk many m) ∧
  ∀ (a : Addr) (ws : List V) (H' : Hp), Same H H' → H' a = some (.tup ws) → AllIn (RowAt K H') ws (apartF (LsOf ms) many) → Q (.ref a) H'
abbrev nLawApart : List Str := ["_law_many", "_law_moves_here", "_law_couples_here", "_law_met", "_law_turn", "_law_pair", "_law_share", "_law_leads_here"]
theorem scLawApart : FnScope nLawApart ["_law_many", "_law_moves_here"] (defScope s_law_apart) := ⟨rfl, rfl, rfl, by decide +kernel, rfl, by decide +kernel, by decide +kernel⟩
theorem ok_lapart {f : Addr} {fd : FuncData} {fcLCou : Addr} {fdcLCou : FuncData} {fcLed0 : Addr} {fdcLed0 : FuncData} (F : Fun K "_law_apart" "_law_apart" s_law_apart f fd) (T : NmA mg) (cLCou : Cl P w K mg base CX0 1 "_law_couples" fcLCou fdcLCou ["_law_many"] (spLCou K)) (cLed0 : Cl P w K mg base CX0 1 "_law_led" fcLed0 fdcLed0 ["_law_leads_here", "_law_lot"] (spLotLed K)) : FnOk P w K mg base CX0 2 f fd ["_law_many", "_law_moves_here"] (spLAp K) := by
  refine F.ok scLawApart (fun vs H Q E h => ?_) (fun cdv A' outer s H vs Q E hr h => ?_)
  · obtain ⟨mv, many, ms, rfl, _⟩ := h
    rfl
  · obtain ⟨mv, many, ms, rfl, hM, m12, ml, mo, k⟩ := h
    have hu := hu_of hr
    refine ⟨_, pss_cons (ps_set (i := 2) scLawApart.nd rfl (Or.inl rfl) (cLCou.call (hr.mono (by decide)) (pa_cons (pv 0) pa_nil)))
      (pss_cons (ps_set (i := 3) scLawApart.nd rfl (Or.inr rfl) (pe_lc (own := [("_law_pair", 5)]) (g := (gName 5)) (tt := _) rfl scLawApart.nd  (pi_list (pv 2)) (blkOk_by (own := [("_law_pair", 5)]) (N := nLawApart) (sc := defScope s_law_apart) (by decide +kernel)) (fun _ _ _ _ _ => (pg_name (i := 5) scLawApart.nd rfl (Or.inr rfl))) (fun _ _ _ _ _ => (pts_one (pt_val (pe_callB (r := rAny K) (show CallR _ (.builtin "any") (rAny K) from cr_any rfl) (by rfl) T.any (by decide +kernel) (pa_cons (pe_lc (own := [("_law_share", 6), ("_law_leads_here", 7)]) (g := (gTup K 2 (gCons (gName 6) (gCons (gName 7) gNil)))) (tt := tYes) rfl scLawApart.nd  (show PI _ _ _ (iTup K _) from pi_tup (pv 1)) (blkOk_by (own := [("_law_share", 6), ("_law_leads_here", 7)]) (N := nLawApart) (sc := ({ kind := .function, names := [(".0", .local), ("_law_pair", .cell), ("any", .globalImplicit), ("_law_moves_here", .cell)], isGenerator := false, isCoroutine := false } : Scope)) (by decide +kernel)) (fun _ _ _ _ _ => (pg_tup (by rfl) (pgs_cons (pg_name (i := 6) scLawApart.nd rfl (Or.inl rfl)) (pgs_cons (pg_name (i := 7) scLawApart.nd rfl (Or.inl rfl)) pgs_nil)))) (fun _ _ _ _ _ => pts_nil) (fun _ _ _ _ _ => (pe_cmpR op_eq (pe_ix (r := rIxT K) (show IxR _ (rIxT K) from ix_tup) (pv 7) (pe_ix (r := rIxT K) (show IxR _ (rIxT K) from ix_tup) (pv 5) pe_int (fun _ _ => rfl)) (fun _ _ => rfl)) (pe_ix (r := rIxT K) (show IxR _ (rIxT K) from ix_tup) (pv 7) (pe_ix (r := rIxT K) (show IxR _ (rIxT K) from ix_tup) (pv 5) pe_int (fun _ _ => rfl)) (fun _ _ => rfl)) (nomark _)))) pa_nil))))) (fun _ _ _ _ _ => (pv 5))))
      (pss_cons (ps_for PassesOwn.never rfl (pi_range1 (by rfl) T.range (pa_cons (pe_callB call_len_seq (by rfl) T.len PySem.boot_len (pa_cons (pv 2) pa_nil)) pa_nil)) (pg_name (i := 4) scLawApart.nd rfl (Or.inl rfl))
        (pss_one (ps_for PassesOwn.never rfl (pi_list (pv 2)) (pg_name (i := 5) scLawApart.nd rfl (Or.inr rfl))
          (pss_one (ps_if (PW.pt (pw_and (pt_cmpR (op_notInD (units65 hr)) (pv 5) (pv 3) (by rfl)) (pw_and1 (pt_val (pe_callB (cr_any rfl) (by rfl) T.any (by decide +kernel) (pa_cons (pe_lc (own := [("_law_share", 6), ("_law_leads_here", 7)]) (g := (gTup K 2 (gCons (gName 6) (gCons (gName 7) gNil)))) (tt := tYes) rfl scLawApart.nd  (pi_tup (pv 1)) (blkOk_by (own := [("_law_share", 6), ("_law_leads_here", 7)]) (N := nLawApart) (sc := defScope s_law_apart) (by decide +kernel)) (fun _ _ _ _ _ => (pg_tup (by rfl) (pgs_cons (pg_name (i := 6) scLawApart.nd rfl (Or.inl rfl)) (pgs_cons (pg_name (i := 7) scLawApart.nd rfl (Or.inl rfl)) pgs_nil)))) (fun _ _ _ _ _ => pts_nil) (fun _ _ _ _ _ => (pe_cmpR (r := rInD K) (show OpR _ (compareOp .In) (rInD K) from op_inD (units65 hr)) (cLed0.call (hr.mono (by decide)) (pa_cons (pv 7) (pa_cons (pv 5) pa_nil))) (pv 3) (by rfl)))) pa_nil))))))
            (pss_one (ps_expr (pe_bm PySem.F.plainAttrs_list PySem.F.slot_list_append PySem.F.type_list_append mt_append (pv 3) (pa_cons (pv 5) pa_nil)))) pss_nil)))))
      (pss_one (ps_ret (pe_callTy call_tuple_of (by rfl) T.tuple (by decide +kernel) (pa_cons (pe_lc (own := [("_law_pair", 5)]) (g := (gName 5)) (tt := _) rfl scLawApart.nd  (pi_list (pv 2)) (blkOk_by (own := [("_law_pair", 5)]) (N := nLawApart) (sc := defScope s_law_apart) (by decide +kernel)) (fun _ _ _ _ _ => (pg_name (i := 5) scLawApart.nd rfl (Or.inl rfl))) (fun _ _ _ _ _ => (pts_one (pt_cmpR (r := rNotInD K) (show OpR _ (compareOp .NotIn) (rNotInD K) from op_notInD (units65 hr)) (pv 5) (pv 3) (by rfl)))) (fun _ _ _ _ _ => (pv 5))) pa_nil)))))), ?_⟩
    obtain ⟨us, hV, hU⟩ := id hM
    have lsok := ls_ok mo
    refine ⟨_, rfl, many, rfl, m12, fun D ws H1 s1 hD e1 A1 => ?_⟩
    refine ⟨_, rfl, D, rfl, ⟨_, SqL.of e1⟩, fun M hM2 => ?_⟩
    have nDM : D ≠ M := ne_of_none e1 hM2
    have cfew := couples_few m12
    refine lpG (walk_list (K := K) (a := D) (xs := ws)) (fun i H' => Same H1 H' ∧ ∃ acc, H' M = some (.lst acc) ∧ AllIn (RowAt K H') acc (((couplesF many).take i).filter fun c => (LsOf ms).any fun xs => oneB xs c) ∧ acc.length ≤ i) ⟨Same.new hM2, [], upd_same, AllIn.nil, Nat.zero_le _⟩ (fun i H' _ h => SqL.of (h.1 _ _ e1)) (fun i x H2 H2' hi g y => ?_) fun H2 g => ?_
    · obtain ⟨rfl, hx⟩ := y
      obtain ⟨s2, acc, d2, A2, l2⟩ := g
      obtain ⟨c, hc, a, rfl, ha⟩ := A1.2 i x hx
      have il := (List.getElem?_eq_some_iff.mp hc).1
      have cm := List.mem_of_getElem? hc
      obtain ⟨x0, x1, rfl, q0, q1, q2⟩ := couple_mem.mp cm
      have s12 := s1.trans s2
      refine ⟨rfl, _, rfl, mv, rfl, ⟨_, s12.sqT hV⟩, fun B hB => ?_⟩
      refine lpG (walk_tup (K := K) (a := mv) (xs := us)) (fun j H' => Same H2' H' ∧ H' B = some (.lst ((((LsOf ms).map fun xs => oneB xs [x0, x1]).take j).map V.bl))) ⟨Same.new hB, upd_same⟩ (fun j H' _ h => (s12.trans h.1).sqT hV) (fun j z H3 H3' hj g y => ?_) fun H3 g => ?_
      · obtain ⟨rfl, hz⟩ := y
        obtain ⟨s3, b3⟩ := g
        obtain ⟨m, hm, aa, sa, la, rfl, h3, h4, h5⟩ := hU.2 j z hz
        obtain ⟨_, _, _, m1, m2⟩ := mo m (List.mem_of_getElem? hm)
        have jl := (List.getElem?_eq_some_iff.mp hm).1
        have s13 := s12.trans s3
        have g0 : m.2[x0.toNat]? = some (stepS m.2 x0) := by
          unfold stepS
          rw [List.getD_eq_getElem?_getD, List.getElem?_eq_getElem (show x0.toNat < m.2.length by omega)] <;> rfl
        have g1 : m.2[x1.toNat]? = some (stepS m.2 x1) := by
          unfold stepS
          rw [List.getD_eq_getElem?_getD, List.getElem?_eq_getElem (show x1.toNat < m.2.length by omega)] <;> rfl
        refine ⟨aa, _, rfl, s13.sqT h3, rfl, _, _, rfl, _, _, rfl, rfl, ?_⟩
        refine ⟨rfl, _, rfl, _, rfl, a, _, (0 : Int), _, rfl, rfl, (s2.trans s3).sqT ha, (rfl : atI ([x0, x1].map V.int) 0 = some (.int x0)), la, _, x0, _, rfl, rfl, s13.sqT h5, ints_ix q0 g0,
          _, rfl, _, rfl, a, _, (1 : Int), _, rfl, rfl, (s2.trans s3).sqT ha, (rfl : atI ([x0, x1].map V.int) 1 = some (.int x1)), la, _, x1, _, rfl, rfl, s13.sqT h5, ints_ix (by omega) g1, rfl, ?_⟩
        refine ⟨_, b3, ?_, s3.mut hB, ?_⟩
        · rw [List.length_map, List.length_take, sizeLine_eq]
          unfold LsOf
          rw [List.length_map, List.length_map]
          omega
        · have e : ((LsOf ms).map fun xs => oneB xs [x0, x1])[j]? = some (oneB m.2 [x0, x1]) := by
            unfold LsOf
            rw [List.getElem?_map, List.getElem?_map, hm] <;> rfl
          rw [upd_same, dec_int, List.take_add_one (i := j), e, List.map_append] <;> rfl
      · obtain ⟨s3, b3⟩ := g
        rw [List.take_of_length_le (l := (LsOf ms).map fun xs => oneB xs [x0, x1]) (by unfold LsOf; rw [List.length_map, List.length_map, hU.1]; exact Nat.le_refl _)] at b3
        refine ⟨B, _, rfl, SqL.of b3, _, rfl, ?_⟩
        have ef : ((LsOf ms).map fun xs => oneB xs [x0, x1]).any id = (LsOf ms).any fun xs => oneB xs [x0, x1] := by
          rw [List.any_map] <;> rfl
        have tk : ((couplesF many).take (i + 1)).filter (fun c => (LsOf ms).any fun xs => oneB xs c) = ((couplesF many).take i).filter (fun c => (LsOf ms).any fun xs => oneB xs c) ++ (if ((LsOf ms).any fun xs => oneB xs [x0, x1]) = true then [[x0, x1]] else []) := by
          rw [List.take_add_one, hc, List.filter_append]
          show _ ++ List.filter _ [[x0, x1]] = _
          rw [List.filter_cons, List.filter_nil]
        rw [ef, tk]
        have e3 := s3 _ _ d2
        refine ite2 (fun h => ?_) (fun h => ?_)
        · rw [if_pos h]
          exact ⟨_, rfl, _, e3, by rw [sizeLine_eq]; omega, (s2.trans s3).mut hM2, _, upd_same, (A2.mono fun _ _ z => (z.same s3).upd e3).snoc ⟨a, rfl, sqT_updL e3 ((s2.trans s3).sqT ha)⟩, by rw [List.length_append]; show _ + 1 ≤ _; omega⟩
        · rw [if_neg h, List.append_nil]
          exact ⟨s2.trans s3, acc, e3, A2.mono fun _ _ z => z.same s3, by omega⟩
    · obtain ⟨s2, acc, d2, A2, l2⟩ := g
      rw [A1.1, List.take_length] at A2
      have wl : ws.length = (couplesF many).length := A1.1
      have hMH : H M = none := s1.free hM2
      have d1 := s2 _ _ e1
      have A12 := A1.mono fun _ _ z => RowAt.same s2 z
      refine ⟨_, rfl, D, _, rfl, .inl (SqL.of d1), ((ws.length : Nat) : Int), rfl, by omega, by omega, ?_⟩
      rw [Int.toNat_natCast]
      refine for_range (lo := 0) (n := ws.length) (fun i σ H' => Same H H' ∧ H' D = some (.lst ws) ∧ AllIn (RowAt K H') ws (couplesF many) ∧ ∃ (acc : List V) (met : List (List Int)) (u4 u5 u6 u7 : Option V), H' M = some (.lst acc) ∧ AllIn (RowAt K H') acc met ∧ OkM (LsOf ms) many met ∧ acc.length ≤ 144 + 144 * i ∧ (ClM (LsOf ms) many met ∨ uM many met + i ≤ ws.length) ∧ σ = [some (.int (many : Int)), some (.ref mv), some (.ref D), some (.ref M), u4, u5, u6, u7]) ⟨s1.trans s2, d1, A12, acc, met0 (LsOf ms) many, none, none, none, none, d2, A2, met0_ok m12 lsok, by omega, .inr (by unfold uM; have := List.length_filter_le (fun c => decide (c ∉ met0 (LsOf ms) many)) (couplesF many); omega), rfl⟩ ?_ ?_
      · rintro i σ H3 hi ⟨s3, D3, A3, acc3, met3, u4, u5, u6, u7, m3, B3, ok3, l3, cl3, rfl⟩
        refine ⟨_, rfl, D, rfl, ⟨_, SqL.of D3⟩, ?_⟩
        refine for_list (K := K) (a := D) (xs := ws) (fun j σ H' => Same H H' ∧ H' D = some (.lst ws) ∧ AllIn (RowAt K H') ws (couplesF many) ∧ ∃ (acc : List V) (met : List (List Int)) (u4 u5 u6 u7 : Option V), H' M = some (.lst acc) ∧ AllIn (RowAt K H') acc met ∧ OkM (LsOf ms) many met ∧ acc.length ≤ 144 + 144 * i + j ∧ ((met = met3 ∧ ∀ c ∈ (couplesF many).take j, c ∉ met3 → ∀ xs ∈ LsOf ms, leadsF xs c ∉ met3) ∨ (uM many met < uM many met3 ∧ ¬ ClM (LsOf ms) many met3)) ∧ σ = [some (.int (many : Int)), some (.ref mv), some (.ref D), some (.ref M), u4, u5, u6, u7]) ⟨s3, D3, A3, acc3, met3, _, _, _, _, m3, B3, ok3, by omega, .inl ⟨rfl, fun c hc => absurd hc List.not_mem_nil⟩, rfl⟩ (fun j σ H' _ h => SqL.of h.2.1) ?_ ?_
        · rintro j x σ H4 hj ⟨s4, D4, A4, acc4, met4, v4, v5, v6, v7, m4, B4, ok4, l4, or4, rfl⟩
          obtain ⟨c, hc, a, rfl, ha⟩ := A4.2 j x hj
          have jl := (List.getElem?_eq_some_iff.mp hc).1
          have cm := List.mem_of_getElem? hc
          obtain ⟨cN, clot, c2, _⟩ := couple_lot m12 cm
          have tk : (couplesF many).take (j + 1) = (couplesF many).take j ++ [c] := by rw [List.take_add_one, hc] <;> rfl
          have ed : (!decide (c ∈ met4)) = decide (c ∉ met4) := by rw [decide_not]
          refine ⟨_, rfl, _, rfl, tupD c, met4.map tupD, .tup ha (dp_ints _), .lst (SqL.of m4) (dp_all (g := tupD) (R := RowAt K H4) (fun _ _ => dp_row) B4), sh_tup _, sh_lst _, _, rfl, ?_⟩
          rw [any_tup, ed]
          refine ite2 (fun h => ?_) (fun h => ?_)
          · have cn : c ∉ met4 := of_decide_eq_true h
            refine ⟨_, rfl, mv, rfl, ⟨_, s4.sqT hV⟩, fun B hB => ?_⟩
            refine lpG (walk_tup (K := K) (a := mv) (xs := us)) (fun i H' => Same H4 H' ∧ H' B = some (.lst (((rowB (LsOf ms) met4 c).take i).map V.bl))) ⟨Same.new hB, upd_same⟩ (fun i H' _ h => (s4.trans h.1).sqT hV) (fun i z H5 H5' hi2 g y => ?_) fun H5 g => ?_
            · obtain ⟨rfl, hz⟩ := y
              obtain ⟨s5, b5⟩ := g
              obtain ⟨m, hm, aa, sa, la, rfl, h3, h4, h5⟩ := hU.2 i z hz
              obtain ⟨_, _, _, m1, m2⟩ := mo m (List.mem_of_getElem? hm)
              have il := (List.getElem?_eq_some_iff.mp hm).1
              have s15 := s4.trans s5
              refine ⟨aa, _, rfl, s15.sqT h3, rfl, _, _, rfl, _, _, rfl, rfl, ?_⟩
              refine ⟨rfl, _, rfl, _, rfl, la, a, m.2, c, rfl, s15.sqT h5, s5.sqT ha, by omega, fun s hs => by rw [m1]; exact cN s hs, fun s hs => by have := m2 s hs; omega, fun l H6 s6 e6 => ?_⟩
              have s56 := s5.trans s6
              refine ⟨_, rfl, tupD (leadsF m.2 c), met4.map tupD, .tup (SqT.of e6) (dp_ints _), .lst (SqL.of (s56 _ _ m4)) (dp_all (g := tupD) (R := RowAt K H6) (fun _ _ => dp_row) (B4.mono fun _ _ => RowAt.same s56)), sh_tup _, sh_lst _, ?_⟩
              refine ⟨_, s6 _ _ b5, ?_, s56.mut hB, ?_⟩
              · rw [List.length_map, List.length_take, sizeLine_eq]
                unfold LsOf rowB
                rw [List.length_map, List.length_map]
                omega
              · have e : (rowB (LsOf ms) met4 c)[i]? = some (decide (leadsF m.2 c ∈ met4)) := by
                  unfold rowB LsOf
                  rw [List.getElem?_map, List.getElem?_map, hm] <;> rfl
                rw [upd_same, any_tup, List.take_add_one (i := i), e, List.map_append] <;> rfl
            · obtain ⟨s5, b5⟩ := g
              rw [List.take_of_length_le (l := rowB (LsOf ms) met4 c) (by unfold rowB LsOf; rw [List.length_map, List.length_map, hU.1]; exact Nat.le_refl _)] at b5
              refine ⟨B, _, rfl, SqL.of b5, _, rfl, ?_⟩
              have ef : (rowB (LsOf ms) met4 c).any id = stepM (LsOf ms) met4 c := by
                unfold rowB stepM
                rw [List.any_map] <;> rfl
              rw [ef]
              have m5 := s5 _ _ m4
              refine ite2 (fun h2 => ?_) (fun h2 => ?_)
              · refine ⟨_, rfl, .inl ⟨rfl, _, SqL.of m5⟩, _, rfl, M, acc4, _, rfl, rfl, m5, by rw [sizeLine_eq]; omega, ?_⟩
                refine ⟨(s4.trans s5).mut hMH, by rw [upd_ne nDM]; exact s5 _ _ D4, A4.mono fun _ _ z => (z.same s5).upd m5, _, met4 ++ [c], _, _, _, _, upd_same, (B4.mono fun _ _ z => (z.same s5).upd m5).snoc ⟨a, rfl, sqT_updL m5 (s5.sqT ha)⟩, ok4.add cm h2, by rw [List.length_append]; show _ + 1 ≤ _; omega, ?_, rfl⟩
                refine .inr ⟨?_, ?_⟩
                · have := uM_lt cm cn
                  rcases or4 with ⟨rfl, _⟩ | ⟨z, _⟩
                  · exact this
                  · omega
                · rcases or4 with ⟨rfl, _⟩ | ⟨_, z⟩
                  · intro z
                    unfold stepM at h2
                    rw [List.any_eq_true] at h2
                    obtain ⟨xs, hx, h3⟩ := h2
                    exact z c cm cn xs hx (of_decide_eq_true h3)
                  · exact z
              · refine ⟨s4.trans s5, s5 _ _ D4, A4.mono fun _ _ z => z.same s5, acc4, met4, _, _, _, _, m5, B4.mono fun _ _ z => z.same s5, ok4, by omega, ?_, rfl⟩
                rcases or4 with ⟨rfl, z⟩ | z
                · refine .inl ⟨rfl, fun d hd hdn xs hx hm => ?_⟩
                  rw [tk] at hd
                  rcases List.mem_append.mp hd with y | y
                  · exact z d y hdn xs hx hm
                  · rw [List.mem_singleton.mp y] at hm
                    refine h2 ?_
                    unfold stepM
                    rw [List.any_eq_true]
                    exact ⟨xs, hx, decide_eq_true hm⟩
                · exact .inr z
          · have ci : c ∈ met4 := Classical.byContradiction fun z => h (decide_eq_true z)
            refine ⟨s4, D4, A4, acc4, met4, _, _, _, _, m4, B4, ok4, by omega, ?_, rfl⟩
            rcases or4 with ⟨rfl, z⟩ | z
            · refine .inl ⟨rfl, fun d hd hdn xs hx hm => ?_⟩
              rw [tk] at hd
              rcases List.mem_append.mp hd with y | y
              · exact z d y hdn xs hx hm
              · exact hdn (by rw [List.mem_singleton.mp y]; exact ci)
            · exact .inr z
        · rintro σ H4 ⟨s4, D4, A4, acc4, met4, v4, v5, v6, v7, m4, B4, ok4, l4, or4, rfl⟩
          rw [wl, List.take_length] at or4
          refine ⟨s4, D4, A4, acc4, met4, _, _, _, _, m4, B4, ok4, by omega, ?_, rfl⟩
          rcases or4 with ⟨rfl, h⟩ | ⟨h1, h2⟩
          · exact .inl h
          · rcases cl3 with z | z
            · exact absurd z h2
            · exact .inr (by omega)
      · rintro σ H3 ⟨s3, D3, A3, acc3, met3, u4, u5, u6, u7, m3, B3, ok3, l3, cl3, rfl⟩
        have cl : ClM (LsOf ms) many met3 := by
          rcases cl3 with z | z
          · exact z
          · exact clM_full (by omega)
        refine ⟨_, rfl, D, rfl, ⟨_, SqL.of D3⟩, fun E hE => ?_⟩
        refine lc_list (K := K) (a := D) (xs := ws) (fun i H' => Same H3 H' ∧ ∃ acc, H' E = some (.lst acc) ∧ AllIn (RowAt K H') acc (((couplesF many).take i).filter fun c => decide (c ∉ met3)) ∧ acc.length ≤ i) ⟨Same.new hE, [], upd_same, AllIn.nil, Nat.zero_le _⟩ (fun i H' _ h => SqL.of (h.1 _ _ D3)) (fun i x H4 hi g => ?_) fun H4 g => ?_
        · obtain ⟨s4, acc4, d4, A4, l4⟩ := g
          obtain ⟨c, hc, a, rfl, ha⟩ := A3.2 i x hi
          have il := (List.getElem?_eq_some_iff.mp hc).1
          refine ⟨rfl, _, rfl, _, rfl, tupD c, met3.map tupD, .tup (s4.sqT ha) (dp_ints _), .lst (SqL.of (s4 _ _ m3)) (dp_all (g := tupD) (R := RowAt K H4) (fun _ _ => dp_row) (B3.mono fun _ _ => RowAt.same s4)), sh_tup _, sh_lst _, _, rfl, ?_⟩
          rw [any_tup]
          have tk : ((couplesF many).take (i + 1)).filter (fun c => decide (c ∉ met3)) = ((couplesF many).take i).filter (fun c => decide (c ∉ met3)) ++ (if (decide (c ∉ met3)) = true then [c] else []) := by
            rw [List.take_add_one, hc, List.filter_append]
            show _ ++ List.filter _ [c] = _
            rw [List.filter_cons, List.filter_nil]
          have ed : (!decide (c ∈ met3)) = decide (c ∉ met3) := by rw [decide_not]
          rw [tk, ed]
          refine ite2 (fun h => ?_) (fun h => ?_)
          · rw [if_pos h]
            exact ⟨_, rfl, _, d4, by rw [sizeLine_eq]; omega, s4.mut hE, _, upd_same, (A4.mono fun _ _ z => z.upd d4).snoc ⟨a, rfl, sqT_updL d4 (s4.sqT ha)⟩, by rw [List.length_append]; show _ + 1 ≤ _; omega⟩
          · rw [if_neg h, List.append_nil]
            exact ⟨s4, acc4, d4, A4, by omega⟩
        · obtain ⟨s4, acc4, d4, A4, l4⟩ := g
          rw [wl, List.take_length, clM_apart m12 lsok ok3 cl] at A4
          refine ⟨E, _, rfl, .inl ⟨SqL.of d4, fun T hT => ?_⟩⟩
          exact k T acc4 _ ((s3.trans s4).trans (Same.new hT)) upd_same (A4.mono fun _ _ z => z.same (Same.new hT))
end
end Law

namespace L2
open PySem PySem.Spec PyProof.Rows Law PySem.W
/-! ### min of a list of rows of which the first is the least -/
theorem alike_ints : ∀ a b : List Int, alikeAll (a.map PyData.int) (b.map PyData.int) = true
  | [], b => by unfold alikeAll; rfl
  | x :: a, [] => by unfold alikeAll; rfl
  | x :: a, y :: b => by
    rw [List.map_cons, List.map_cons, alikeAll, alike_ints a b]
    unfold alike
    rfl
theorem alike_tupD (a b : List Int) : alike (tupD a) (tupD b) = true := by
  unfold tupD alike
  exact alike_ints a b
theorem lt_rows : ∀ {r c : List Int}, lexL r c → PyProof.Rows.lexLt itemOrd (keyToksAll (c.map PyData.int)) (keyToksAll (r.map PyData.int)) = false
  | x :: r, y :: c, h => by
    rw [List.map_cons, List.map_cons, dataLt_cons (by unfold alike; rfl), eqv_int]
    rcases h with h | ⟨rfl, h⟩
    · rw [if_neg (by rw [decide_eq_false (by omega)]; decide), dataLt_int, decide_eq_false (by omega)]
    · rw [if_pos (decide_eq_true rfl)]
      exact lt_rows h
theorem lt_tupD {r c : List Int} (h : lexL r c) : dataLt (tupD c) (tupD r) = false := by
  unfold tupD
  rw [dataLt_tuple]
  exact lt_rows h
theorem minD_first (r : List Int) : ∀ rs : List (List Int), (∀ c ∈ rs, lexL r c) → minD (tupD r) (rs.map tupD) = tupD r := by
  unfold minD
  intro rs
  induction rs with
  | nil => intro _; rfl
  | cons c rs ih =>
    intro h
    rw [List.map_cons, List.foldl_cons, lt_tupD (h c List.mem_cons_self), if_neg Bool.false_ne_true]
    exact ih fun d hd => h d (List.mem_cons_of_mem _ hd)
theorem reads_ints {h : Heap} : ∀ {us : List Value} {a b : List Int} {as bs : List Addr}, ReadsAll h us (a.map PyData.int) as → ReadsAll h us (b.map PyData.int) bs → a = b
  | [], [], [], _, _, _, _ => rfl
  | [], _ :: _, _, _, _, h, _ => by cases h
  | [], [], _ :: _, _, _, _, h => by cases h
  | _ :: _, [], _, _, _, h, _ => by cases h
  | _ :: _, _ :: _, [], _, _, _, h => by cases h
  | u :: us, x :: a, y :: b, _, _, h, g => by
    rw [List.map_cons] at h g
    cases h with
    | cons h1 h2 =>
      cases g with
      | cons g1 g2 =>
        cases h1
        cases g1
        rw [reads_ints h2 g2]
theorem reads_tup {h : Heap} {u : Value} {a b : List Int} {as bs : List Addr} (h1 : Reads h u (tupD a) as) (h2 : Reads h u (tupD b) bs) : a = b := by
  unfold tupD at h1 h2
  cases h1 with
  | tuple e1 e2 e3 e4 =>
    cases h2 with
    | tuple f1 f2 f3 f4 =>
      rw [e1] at f1
      cases f1
      rw [e3] at f3
      cases f3
      exact reads_ints e4 f4
def rMinT (K : PySem.W.Frag) : List V → Hp → VK → Prop := fun vs H Q => ∃ (a : Addr) (xs : List V) (r : List Int) (rs : List (List Int)), vs = [V.ref a] ∧ SqL K H a xs ∧ AllIn (RowAt K H) xs (r :: rs) ∧ (∀ c ∈ rs, lexL r c) ∧ ∀ v, RowAt K H v r → Q v H
theorem cr_minT {X : Cx} (hc : X.calm = true) (hu : X.A.units + 65 < cLine) : CallR X (.builtin "min") (rMinT X.K) := by
  intro pins s σ H vs us Q I r h
  obtain ⟨a, xs, c, cs, rfl, hs, hA, hl, q⟩ := h
  rw [Vals.ref1 r]
  obtain ⟨its, rv, pl, _⟩ := I.list hs
  have dp : DpAll X.K H xs ((c :: cs).map tupD) := dp_all (g := tupD) (R := RowAt X.K H) (fun _ _ => dp_row) hA
  obtain ⟨as, ra⟩ := Dp.readsAll I _ _ _ dp rv
  have dep := (lay_all tupD 1 lay_tupD (c :: cs)).2
  refine min_list_data (I.ok.hd hc) pl.isList (by simpa using ra) ?_ (by rw [← List.map_cons]; omega) fun i v h' tk bs hv hr hk => ?_
  · refine ⟨fun x hx y hy => ?_, fun x hx => ?_⟩
    · rw [← List.map_cons] at hx hy
      obtain ⟨x', _, rfl⟩ := List.mem_map.mp hx
      obtain ⟨y', _, rfl⟩ := List.mem_map.mp hy
      exact alike_tupD x' y'
    · rw [← List.map_cons] at hx
      obtain ⟨x', _, rfl⟩ := List.mem_map.mp hx
      exact fun z => by cases z
  · rw [minD_first c cs hl] at hr
    have hv : its[i]? = some v := by simpa using hv
    have il : i < xs.length := by
      rw [rv.length]
      exact (List.getElem?_eq_some_iff.mp hv).1
    obtain ⟨v', e1, rel⟩ := rv.get (List.getElem?_eq_getElem il)
    rw [hv] at e1
    cases e1
    obtain ⟨d, hd, hrow⟩ := hA.2 i _ (List.getElem?_eq_getElem il)
    have J : Inv X pins σ H { s with heap := h', toks := tk } := I.kept (t' := tk) hk
    obtain ⟨bs2, hr2⟩ := Dp.reads J (tupD d) _ _ (dp_row hrow) rel
    have e : d = c := reads_tup hr2 hr
    subst e
    exact ⟨xs[i], H, J, rel, q _ hrow⟩
end L2
namespace L2
open PySem PySem.Spec PyProof.Rows Law
/-! ### all rows of so many moves -/
def nextR (Ls : List (List Int)) (r : Nd) (i : Nat) : Nd := (r.1 ++ [(i : Int)], r.2.map (stepS (Ls.getD i [])))
def rowR (Ls : List (List Int)) (r : Nd) : List Nd := (List.range Ls.length).map (nextR Ls r)
def allR (Ls : List (List Int)) (n : Nat) : Nat → List Nd
  | 0 => [([], upto n)]
  | d + 1 => (allR Ls n d).flatMap (rowR Ls)
theorem goS_snoc (Ls : List (List Int)) (p : List Int) (i : Nat) (s : Int) : goS Ls (p ++ [(i : Int)]) s = stepS (Ls.getD i []) (goS Ls p s) := by
  rw [goS_app]
  show stepS (Ls.getD ((i : Int).toNat) []) _ = _
  rw [Int.toNat_natCast]
theorem allR_asc (Ls : List (List Int)) (n : Nat) : ∀ d, (allR Ls n d).Pairwise fun a b => lexL a.1 b.1
  | 0 => List.pairwise_singleton _ _
  | d + 1 => by
    rw [allR, List.pairwise_flatMap]
    refine ⟨fun r _ => ?_, (allR_asc Ls n d).imp fun {a b} hab x hx y hy => ?_⟩
    · unfold rowR
      rw [List.pairwise_map]
      exact List.pairwise_lt_range.imp fun {i j} hij => lexL_last (by omega) r.1
    · obtain ⟨i, _, rfl⟩ := List.mem_map.mp hx
      obtain ⟨j, _, rfl⟩ := List.mem_map.mp hy
      exact lexL_snoc hab
theorem allR_mem (Ls : List (List Int)) (n : Nat) : ∀ d, ∀ r ∈ allR Ls n d, r.1.length = d ∧ RwOk Ls.length r.1 ∧ r.2 = (upto n).map (goS Ls r.1)
  | 0, r, h => by
    rw [List.mem_singleton.mp h]
    refine ⟨rfl, fun x hx => absurd hx List.not_mem_nil, ?_⟩
    show upto n = (upto n).map fun s => s
    rw [List.map_id']
  | d + 1, r, h => by
    rw [allR] at h
    obtain ⟨q, hq, hr⟩ := List.mem_flatMap.mp h
    obtain ⟨i, hi, rfl⟩ := List.mem_map.mp hr
    obtain ⟨e1, e2, e3⟩ := allR_mem Ls n d q hq
    have hi := List.mem_range.mp hi
    refine ⟨by show (q.1 ++ [(i : Int)]).length = _; rw [List.length_append, e1] <;> rfl, e2.app fun x hx => ?_, ?_⟩
    · rw [List.mem_singleton.mp hx]
      omega
    · show q.2.map (stepS (Ls.getD i [])) = (upto n).map (goS Ls (q.1 ++ [(i : Int)]))
      rw [e3, List.map_map]
      exact List.map_congr_left fun s _ => (goS_snoc Ls q.1 i s).symm
theorem allR_all (Ls : List (List Int)) (n : Nat) : ∀ (d : Nat) (p : List Int), RwOk Ls.length p → p.length = d → (p, (upto n).map (goS Ls p)) ∈ allR Ls n d
  | 0, p, _, h => by
    rw [List.eq_nil_of_length_eq_zero h, allR]
    show ([], (upto n).map fun s => s) ∈ _
    rw [List.map_id']
    exact List.mem_singleton_self _
  | d + 1, p, hp, h => by
    obtain ⟨q, i, rfl, hl⟩ := snoc_of h
    have hi := hp i (List.mem_append_right _ (List.mem_singleton_self i))
    obtain ⟨j, rfl⟩ := Int.eq_ofNat_of_zero_le hi.1
    rw [allR]
    refine List.mem_flatMap.mpr ⟨_, allR_all Ls n d q hp.left hl, List.mem_map.mpr ⟨j, List.mem_range.mpr (by omega), ?_⟩⟩
    show (q ++ [(j : Int)], ((upto n).map (goS Ls q)).map (stepS (Ls.getD j []))) = _
    rw [List.map_map]
    exact congrArg _ (List.map_congr_left fun s _ => (goS_snoc Ls q j s).symm)
theorem allR_len (Ls : List (List Int)) (n : Nat) : ∀ d, (allR Ls n d).length = Ls.length ^ d
  | 0 => rfl
  | d + 1 => by
    have h : ∀ L : List Nd, (L.flatMap (rowR Ls)).length = L.length * Ls.length := by
      intro L
      induction L with
      | nil => rw [List.flatMap_nil, List.length_nil, Nat.zero_mul]
      | cons r L ih =>
        rw [List.flatMap_cons, List.length_append, ih, List.length_cons, Nat.succ_mul, Nat.add_comm]
        unfold rowR
        rw [List.length_map, List.length_range]
    rw [allR, h, allR_len Ls n d, Nat.pow_succ]
theorem rch_all {n : Nat} (hn : n ≤ 12) {Ls : List (List Int)} (h : LsOk n Ls) {p : List Int} (hp : RwOk Ls.length p) : rch Ls (upto n) p = lotF ((upto n).map (goS Ls p)) := by
  have z := rch_map hn h p (upto n) hp (upto_in n)
  rw [lot_id hn (upto_in n) (upto_asc n)] at z
  exact z
def oneR (r : Nd) : Bool := (lotF r.2).length == 1
/-- what all rows of so many moves tell -/
def BestM (Ls : List (List Int)) (n most : Nat) : Option (List Int) → Prop
  | some r => r.length ≤ most ∧ Best Ls (upto n) (some r)
  | none => ∀ p, RwOk Ls.length p → p.length ≤ most → (rch Ls (upto n) p).length ≠ 1
theorem oneR_mem {n : Nat} (hn : n ≤ 12) {Ls : List (List Int)} (h : LsOk n Ls) {d : Nat} {r : Nd} (hr : r ∈ allR Ls n d) : oneR r = true ↔ (rch Ls (upto n) r.1).length = 1 := by
  obtain ⟨_, e2, e3⟩ := allR_mem Ls n d r hr
  rw [rch_all hn h e2, ← e3]
  unfold oneR
  exact beq_iff_eq
theorem none_at {n : Nat} (hn : n ≤ 12) {Ls : List (List Int)} (h : LsOk n Ls) {d : Nat} (hf : (allR Ls n d).filter oneR = []) {p : List Int} (hp : RwOk Ls.length p) (hl : p.length = d) : (rch Ls (upto n) p).length ≠ 1 := fun z => by
  have m := allR_all Ls n d p hp hl
  have : (p, (upto n).map (goS Ls p)) ∈ (allR Ls n d).filter oneR := List.mem_filter.mpr ⟨m, (oneR_mem hn h m).mpr z⟩
  rw [hf] at this
  exact List.not_mem_nil this
theorem best_at {n : Nat} (hn : n ≤ 12) {Ls : List (List Int)} (h : LsOk n Ls) {d : Nat} {r : Nd} {rs : List Nd} (hf : (allR Ls n d).filter oneR = r :: rs) (hlow : ∀ p, RwOk Ls.length p → p.length < d → (rch Ls (upto n) p).length ≠ 1) : Best Ls (upto n) (some r.1) ∧ r.1.length = d := by
  have hm : r ∈ (allR Ls n d).filter oneR := by rw [hf]; exact List.mem_cons_self
  obtain ⟨m1, m2⟩ := List.mem_filter.mp hm
  obtain ⟨e1, e2, _⟩ := allR_mem Ls n d r m1
  refine ⟨⟨e2, (oneR_mem hn h m1).mp m2, fun p hp hs => ?_⟩, e1⟩
  by_cases c : p.length < d
  · exact absurd hs (hlow p hp c)
  · by_cases c2 : p.length = d
    · refine .inr ⟨by omega, ?_⟩
      have m := allR_all Ls n d p hp c2
      have : (p, (upto n).map (goS Ls p)) ∈ (allR Ls n d).filter oneR := List.mem_filter.mpr ⟨m, (oneR_mem hn h m).mpr hs⟩
      have asc : ((allR Ls n d).filter oneR).Pairwise fun a b => lexL a.1 b.1 := (allR_asc Ls n d).filter _
      rw [hf] at this asc
      rcases List.mem_cons.mp this with e | e
      · rw [← e]
        exact .inl rfl
      · exact .inr ((List.pairwise_cons.mp asc).1 _ e)
    · exact .inl (by omega)
end L2
namespace Law
open PySem L2
section
variable {P : Program} {w : World} {K : PySem.W.Frag} {mg : Str → Option Value} {base : Heap}
def spLSh (K : PySem.W.Frag) : Sp := fun vs H Q _ => ∃ (mv : Addr) (many most : Nat) (ms : List Mv), vs = [.int (many : Nat), .ref mv, .int (most : Nat)] ∧ MvsAt K H mv ms ∧ many ≤ 12 ∧ ms.length ≤ 4 ∧ most ≤ 4 ∧ (∀ m ∈ ms, MvOk many m) ∧
  ∀ (x : V) (r : Option (List Int)) (H' : Hp), Same H H' → BestM (LsOf ms) many most r → (match r with | none => x = .non | some l => RowAt K H' x l) → Q x H'
abbrev nLawShortest : List Str := ["_law_many", "_law_moves_here", "_law_most", "_law_rows", "_law_length", "_law_ended", "_law_longer", "_law_row", "_law_states", "_law_number", "_law_state"]
theorem scLawShortest : FnScope nLawShortest ["_law_many", "_law_moves_here", "_law_most"] (defScope s_law_shortest) := ⟨rfl, rfl, rfl, by decide +kernel, rfl, by decide +kernel, by decide +kernel⟩
theorem ok_shortest {f : Addr} {fd : FuncData} (F : Fun K "_law_shortest" "_law_shortest" s_law_shortest f fd) (T : NmA mg) : FnOk P w K mg base CX0 1 f fd ["_law_many", "_law_moves_here", "_law_most"] (spLSh K) := by
  refine F.ok scLawShortest (fun vs H Q E h => ?_) (fun cdv A' outer s H vs Q E hr h => ?_)
  · obtain ⟨mv, many, most, ms, rfl, _⟩ := h
    rfl
  · obtain ⟨mv, many, most, ms, rfl, hM, m12, ml, most4, mo, k⟩ := h
    have hu := hu_of hr
    refine ⟨_, pss_cons (ps_set (i := 3) scLawShortest.nd rfl (Or.inl rfl) (pe_lst (pa_cons (pe_tup (pa_cons (pe_tup pa_nil) (pa_cons (pe_tupRg (by rfl) (by rfl) T.tuple (prg_1 (by rfl) T.range (pv 0))) pa_nil))) pa_nil)))
      (pss_cons (ps_for PassesOwn.never rfl (pi_range1 (by rfl) T.range (pa_cons (pe_op op_add (pv 2) pe_int) pa_nil)) (pg_name (i := 4) scLawShortest.nd rfl (Or.inl rfl))
        (pss_cons (ps_setLc (i := 5) (own := [("_law_row", 7), ("_law_states", 8)]) (g := (gTup K 2 (gCons (gName 7) (gCons (gName 8) gNil)))) (tt := _) (by rfl) scLawShortest.nd rfl rfl (sw_true rfl rfl rfl (by decide +kernel)) (pi_list (pv 3)) (blkOk_by (own := [("_law_row", 7), ("_law_states", 8)]) (N := nLawShortest) (sc := defScope s_law_shortest) (by decide +kernel)) (fun _ _ _ _ _ => (pg_tup (by rfl) (pgs_cons (pg_name (i := 7) scLawShortest.nd rfl (Or.inl rfl)) (pgs_cons (pg_name (i := 8) scLawShortest.nd rfl (Or.inl rfl)) pgs_nil)))) (fun _ _ _ _ _ => (pts_one (pt_cmpR op_eq (pe_callB (r := rLenSet w) (show CallR _ (.builtin "len") (rLenSet w) from cr_lenSet) (by rfl) T.len PySem.boot_len (pa_cons (pe_callTy (r := rSetA K w) (show CallR _ (.type "set") (rSetA K w) from cr_setA (by rfl)) (by rfl) T.set (by decide +kernel) (pa_cons (pv 8) pa_nil)) pa_nil)) pe_int (nomark _)))) (fun _ _ _ _ _ => (pv 7)))
        (pss_cons (ps_if (pt_cmpR op_gt (pe_callB call_len_seq (by rfl) T.len PySem.boot_len (pa_cons (pv 5) pa_nil)) pe_int (nomark _))
          (pss_one (ps_ret (pe_callB (cr_minT rfl (units65 hr)) (by rfl) T.min (by decide +kernel) (pa_cons (pv 5) pa_nil)))) pss_nil)
        (pss_cons (ps_set (i := 6) scLawShortest.nd rfl (Or.inl rfl) (pe_lst pa_nil))
        (pss_cons (ps_for PassesOwn.never rfl (pi_list (pv 3)) (pg_tup (by rfl) (pgs_cons (pg_name (i := 7) scLawShortest.nd rfl (Or.inl rfl)) (pgs_cons (pg_name (i := 8) scLawShortest.nd rfl (Or.inl rfl)) pgs_nil)))
          (pss_one (ps_for PassesOwn.never rfl (pi_range1 (by rfl) T.range (pa_cons (pe_callB call_len_seq (by rfl) T.len PySem.boot_len (pa_cons (pv 1) pa_nil)) pa_nil)) (pg_name (i := 9) scLawShortest.nd rfl (Or.inr rfl))
            (pss_one (ps_expr (pe_bm PySem.F.plainAttrs_list PySem.F.slot_list_append PySem.F.type_list_append mt_append (pv 6) (pa_cons (pe_tup (pa_cons (pe_op op_catR (pv 7) (pe_tup (pa_cons (pv 9) pa_nil))) (pa_cons (pe_callTy call_tuple_of (by rfl) T.tuple (by decide +kernel) (pa_cons (pe_lc (own := [("_law_state", 10)]) (g := (gName 10)) (tt := tYes) rfl scLawShortest.nd  (pi_tup (pv 8)) (blkOk_by (own := [("_law_state", 10)]) (N := nLawShortest) (sc := defScope s_law_shortest) (by decide +kernel)) (fun _ _ _ _ _ => (pg_name (i := 10) scLawShortest.nd rfl (Or.inl rfl))) (fun _ _ _ _ _ => pts_nil) (fun _ _ _ _ _ => (pe_ix (r := rIxT K) (show IxR _ (rIxT K) from ix_tup) (pe_ix (r := rIxT K) (show IxR _ (rIxT K) from ix_tup) (pe_ix (r := rIxT K) (show IxR _ (rIxT K) from ix_tup) (pv 1) (pv 9) (fun _ _ => rfl)) pe_int (fun _ _ => rfl)) (pv 10) (fun _ _ => rfl)))) pa_nil)) pa_nil))) pa_nil)))))))
        (pss_one (ps_set (i := 3) scLawShortest.nd rfl (Or.inl rfl) (pv 6))))))))
      (pss_one (ps_ret pe_non))), ?_⟩
    obtain ⟨us, hV, hU⟩ := id hM
    have lsok := ls_ok mo
    have rgok : RgOk 0 (many : Int) := RgOk.of_le (by decide) (by omega) (by decide) (by omega)
    refine ⟨by show 0 ≤ sizeLine; decide, fun p0 hp0 => ?_⟩
    refine new_step hp0 fun G0 s0 e0 => ?_
    refine ⟨_, rfl, (many : Int), rfl, rgok, fun T hT => ?_⟩
    refine new_step hT fun G1 s1 e1 => ?_
    refine ⟨by show 2 ≤ sizeLine; decide, fun p1 hp1 => ?_⟩
    refine new_step hp1 fun G2 s2 e2 => ?_
    refine ⟨by show 1 ≤ sizeLine; decide, fun L hL => ?_⟩
    refine new_step hL fun G3 s3 e3 => ?_
    rw [rgV_up] at e1
    have nod0 : NodAt K G3 (.ref p1) ([], upto many) := ⟨p1, p0, T, rfl, SqT.of (s3 _ _ e2), SqT.of (s3 _ _ (s2 _ _ (s1 _ _ e0))), SqT.of (s3 _ _ (s2 _ _ e1))⟩
    refine ⟨_, rfl, _, _, rfl, rfl, _, rfl, by omega, by omega, ?_⟩
    have em : ((most : Int) + 1).toNat = most + 1 := by omega
    rw [em]
    refine for_range (lo := 0) (n := most + 1) (fun d σ H' => Same H H' ∧ ∃ (Lr : Addr) (ws : List V), H' Lr = some (.lst ws) ∧ AllIn (NodAt K H') ws (allR (LsOf ms) many d) ∧ (∀ p, RwOk (LsOf ms).length p → p.length < d → (rch (LsOf ms) (upto many) p).length ≠ 1) ∧ ∃ u4 u5 u6 u7 u8 u9 u10 : Option V, σ = [some (.int (many : Int)), some (.ref mv), some (.int (most : Int)), some (.ref Lr), u4, u5, u6, u7, u8, u9, u10]) ⟨(s0.trans s1).trans (s2.trans s3), L, _, e3, AllIn.snoc AllIn.nil nod0, fun p _ h => absurd h (Nat.not_lt_zero _), none, none, none, none, none, none, none, rfl⟩ ?_ ?_
    · rintro d σ H' hd ⟨sH, Lr, ws, hw, hW, hlow, u4, u5, u6, u7, u8, u9, u10, rfl⟩
      have rlen : (allR (LsOf ms) many d).length ≤ 256 := by
        rw [allR_len, ls_len]
        exact Nat.le_trans (Nat.pow_le_pow_left ml d) (Nat.le_trans (Nat.pow_le_pow_right (by decide) (show d ≤ 4 by omega)) (by decide))
      refine ⟨_, rfl, Lr, rfl, ⟨_, SqL.of hw⟩, fun D hD => ?_⟩
      refine lc_list (K := K) (a := Lr) (xs := ws) (fun i H2 => Same H' H2 ∧ ∃ acc, H2 D = some (.lst acc) ∧ AllIn (fun v (n : Nd) => RowAt K H2 v n.1) acc (((allR (LsOf ms) many d).take i).filter oneR) ∧ acc.length ≤ i) ⟨Same.new hD, [], upd_same, AllIn.nil, Nat.zero_le _⟩ (fun i H2 _ h => SqL.of (h.1 _ _ hw)) (fun i x H2 hi g => ?_) fun H2 g => ?_
      · obtain ⟨s2, acc, d2, A2, l2⟩ := g
        obtain ⟨n, hn, t, a, b, rfl, ht, ha, hb⟩ := hW.2 i x hi
        have il := (List.getElem?_eq_some_iff.mp hn).1
        obtain ⟨q1, q2, q3⟩ := allR_mem _ _ _ n (List.mem_of_getElem? hn)
        have nN : InN many n.2 := by rw [q3]; exact mapN lsok q2 (upto_in many)
        have nl : n.2.length ≤ 12 := by rw [q3, List.length_map, upto_len]; exact m12
        have tk : ((allR (LsOf ms) many d).take (i + 1)).filter oneR = ((allR (LsOf ms) many d).take i).filter oneR ++ (if oneR n = true then [n] else []) := by
          rw [List.take_add_one, hn, List.filter_append]
          show _ ++ List.filter _ [n] = _
          rw [List.filter_cons, List.filter_nil]
        refine ⟨t, _, rfl, s2.sqT ht, rfl, _, _, rfl, _, _, rfl, rfl, ?_⟩
        refine ⟨rfl, _, rfl, b, n.2, rfl, .inr (s2.sqT hb), by omega, fun q c hq hc => ?_⟩
        refine ⟨q, _, c, rfl, upd_same, fun ⟨ms2, nd2, ln2, iff2⟩ => ⟨rfl, _, rfl, ?_⟩⟩
        have cl : c = (lotF n.2).length := by
          rw [← ln2]
          exact lot_len (nN.in12 m12) nd2 fun k => by rw [← iff2 k, decide_eq_true_iff]
        rw [dec_one, cl]
        refine new_step hq fun H3 s3' e3' => ?_
        have d3 := s3' _ _ d2
        have s23 := s2.trans s3'
        refine ite2 (fun h => ?_) (fun h => ?_)
        · have h : oneR n = true := h
          rw [tk, if_pos h]
          refine ⟨_, rfl, acc, d3, by rw [sizeLine_eq]; omega, s23.mut hD, _, upd_same, (A2.mono fun _ _ z => (z.same s3').upd d3).snoc ⟨a, rfl, sqT_updL d3 (s23.sqT ha)⟩, by rw [List.length_append]; show _ + 1 ≤ _; omega⟩
        · have h : ¬ oneR n = true := h
          rw [tk, if_neg h, List.append_nil]
          exact ⟨s23, acc, d3, A2.mono fun _ _ z => z.same s3', by omega⟩
      · obtain ⟨s2, acc, d2, A2, l2⟩ := g
        rw [hW.1, List.take_length] at A2
        refine ⟨_, rfl, D, _, rfl, .inl (SqL.of d2), _, _, rfl, rfl, _, rfl, ite2 (fun c1 => ?_) (fun c1 => ?_)⟩
        · have c1 := of_decide_eq_true c1
          cases hF : (allR (LsOf ms) many d).filter oneR with
          | nil =>
            rw [hF] at A2
            rw [A2.1] at c1
            exact absurd c1 (by decide)
          | cons n rest =>
            rw [hF] at A2
            have asc : ((allR (LsOf ms) many d).filter oneR).Pairwise fun a b => lexL a.1 b.1 := (allR_asc _ _ d).filter _
            rw [hF] at asc
            have A3 : AllIn (RowAt K H2) acc (n.1 :: rest.map (·.1)) := ⟨by rw [A2.1, List.length_cons, List.length_cons, List.length_map], fun i v hv => by
              obtain ⟨m, h1, h2⟩ := A2.2 i v hv
              refine ⟨m.1, ?_, h2⟩
              have : ((n :: rest).map (·.1))[i]? = some m.1 := by rw [List.getElem?_map, h1] <;> rfl
              exact this⟩
            obtain ⟨b1, b2⟩ := best_at m12 lsok hF hlow
            refine ⟨_, rfl, D, acc, n.1, _, rfl, SqL.of d2, A3, fun c hc => ?_, fun v hv => ?_⟩
            · obtain ⟨m, hm, rfl⟩ := List.mem_map.mp hc
              exact (List.pairwise_cons.mp asc).1 m hm
            · exact k v (some n.1) H2 (sH.trans s2) ⟨by omega, b1⟩ hv
        · have c1 : ¬ (0 : Int) < (acc.length : Nat) := fun z => c1 (decide_eq_true z)
          have hF : (allR (LsOf ms) many d).filter oneR = [] := List.eq_nil_of_length_eq_zero (by rw [← A2.1]; omega)
          have hlow' : ∀ p, RwOk (LsOf ms).length p → p.length < d + 1 → (rch (LsOf ms) (upto many) p).length ≠ 1 := fun p hp hl => by
            by_cases z : p.length < d
            · exact hlow p hp z
            · exact none_at m12 lsok hF hp (by omega)
          have hw2 := s2 _ _ hw
          have hW2 := hW.mono fun _ _ z => NodAt.same s2 z
          have sH2 := sH.trans s2
          refine ⟨by show 0 ≤ sizeLine; decide, fun L2 hL2 => ?_⟩
          have hL2H : H L2 = none := sH2.free hL2
          have nLL : Lr ≠ L2 := ne_of_none hw2 hL2
          refine new_step hL2 fun H3 s3 e3 => ?_
          refine ⟨_, rfl, Lr, rfl, ⟨_, SqL.of (s3 _ _ hw2)⟩, ?_⟩
          refine for_list (K := K) (a := Lr) (xs := ws) (fun i σ H' => Same H H' ∧ H' Lr = some (.lst ws) ∧ AllIn (NodAt K H') ws (allR (LsOf ms) many d) ∧ (∃ acc, H' L2 = some (.lst acc) ∧ AllIn (NodAt K H') acc (((allR (LsOf ms) many d).take i).flatMap (rowR (LsOf ms))) ∧ acc.length ≤ i * 4) ∧ ∃ u4 u7 u8 u9 u10 : Option V, σ = [some (.int (many : Int)), some (.ref mv), some (.int (most : Int)), some (.ref Lr), u4, some (.ref D), some (.ref L2), u7, u8, u9, u10]) ⟨sH2.trans s3, s3 _ _ hw2, hW2.mono fun _ _ z => NodAt.same s3 z, ⟨[], e3, AllIn.nil, Nat.zero_le _⟩, _, u7, u8, u9, u10, rfl⟩ (fun i σ H' _ h => SqL.of h.2.1) ?_ ?_
          · rintro i x σ H4 hi ⟨s4, w4, W4, ⟨acc4, l4, A4, n4⟩, v4, v7, v8, v9, v10, rfl⟩
            obtain ⟨n, hn, t, a, b, rfl, ht, ha, hb⟩ := W4.2 i x hi
            have il := (List.getElem?_eq_some_iff.mp hn).1
            obtain ⟨q1, q2, q3⟩ := allR_mem _ _ _ n (List.mem_of_getElem? hn)
            have nN : InN many n.2 := by rw [q3]; exact mapN lsok q2 (upto_in many)
            have nl : n.2.length ≤ 12 := by rw [q3, List.length_map, upto_len]; exact m12
            refine ⟨t, _, rfl, ht, rfl, _, _, rfl, _, _, rfl, rfl, ?_⟩
            refine ⟨_, rfl, mv, us, rfl, .inr (s4.sqT hV), ((us.length : Nat) : Int), rfl, by have := hU.1; omega, by have := hU.1; omega, ?_⟩
            rw [Int.toNat_natCast]
            refine for_range (lo := 0) (n := us.length) (fun j σ H' => Same H H' ∧ H' Lr = some (.lst ws) ∧ AllIn (NodAt K H') ws (allR (LsOf ms) many d) ∧ SqT K H' a (n.1.map V.int) ∧ SqT K H' b (n.2.map V.int) ∧ (∃ acc, H' L2 = some (.lst acc) ∧ AllIn (NodAt K H') acc (((allR (LsOf ms) many d).take i).flatMap (rowR (LsOf ms)) ++ (rowR (LsOf ms) n).take j) ∧ acc.length ≤ i * 4 + j) ∧ ∃ u4 u9 u10 : Option V, σ = [some (.int (many : Int)), some (.ref mv), some (.int (most : Int)), some (.ref Lr), u4, some (.ref D), some (.ref L2), some (.ref a), some (.ref b), u9, u10]) ⟨s4, w4, W4, ha, hb, ⟨acc4, l4, by rw [List.take_zero, List.append_nil]; exact A4, n4⟩, _, _, _, rfl⟩ ?_ ?_
            · rintro j σ H5 hj ⟨s5, w5, W5, a5, b5, ⟨acc5, l5, A5, n5⟩, w4', w9, w10, rfl⟩
              rw [Int.zero_add]
              have jm : j < ms.length := by rw [← hU.1]; exact hj
              obtain ⟨m, aa, ss, la, hat, hm, h3, h4, h5⟩ := mv_ix hU (r := ((j : Nat) : Int)) ⟨by omega, by omega⟩
              rw [Int.toNat_natCast] at hm
              obtain ⟨_, _, _, m1, m2⟩ := mo m (List.mem_of_getElem? hm)
              refine ⟨_, rfl, .inl ⟨rfl, _, SqL.of l5⟩, _, rfl, _, rfl, by show 1 ≤ sizeLine; decide, fun tb htb => ?_⟩
              refine new_step htb fun H6 s6 e6 => ?_
              refine ⟨a, tb, _, _, rfl, rfl, s6.sqT a5, SqT.of e6, by rw [List.length_map, q1, sizeLine_eq]; show _ + 1 ≤ _; omega, fun rb H7 s7 e7 => ?_⟩
              have s57 := s6.trans s7
              refine ⟨_, rfl, b, rfl, ⟨_, s57.sqT b5⟩, fun E hE => ?_⟩
              refine lc_tup (K := K) (a := b) (xs := n.2.map V.int) (fun i H' => Same H7 H' ∧ H' E = some (.lst (((n.2.take i).map (stepS m.2)).map V.int))) ⟨Same.new hE, upd_same⟩ (fun i H' _ h => h.1.sqT (s57.sqT b5)) (fun i2 x H8 hi2 g => ?_) fun H8 g => ?_
              · obtain ⟨s8, d8⟩ := g
                rw [List.getElem?_map] at hi2
                obtain ⟨z, hz, rfl⟩ := Option.map_eq_some_iff.mp hi2
                have zl := (List.getElem?_eq_some_iff.mp hz).1
                obtain ⟨z0, z1⟩ := nN z (List.mem_of_getElem? hz)
                have g0 : m.2[z.toNat]? = some (stepS m.2 z) := by
                  unfold stepS
                  rw [List.getD_eq_getElem?_getD, List.getElem?_eq_getElem (show z.toNat < m.2.length by omega)] <;> rfl
                have s08 := s5.trans (s57.trans s8)
                refine ⟨rfl, _, rfl, _, rfl, mv, us, ((j : Nat) : Int), _, rfl, rfl, s08.sqT hV, hat, aa, _, (1 : Int), _, rfl, rfl, s08.sqT h3, rfl, _, rfl, la, _, z, _, rfl, rfl, s08.sqT h5, ints_ix z0 g0, _, d8, by rw [List.length_map, List.length_map, List.length_take, sizeLine_eq]; omega, s8.mut hE, ?_⟩
                rw [upd_same, List.take_add_one, hz, List.map_append, List.map_append] <;> rfl
              · obtain ⟨s8, d8⟩ := g
                rw [List.length_map, List.take_length] at d8
                refine ⟨E, _, rfl, .inl ⟨SqL.of d8, fun T2 hT2 => ?_⟩⟩
                refine new_step hT2 fun H9 s9 e9 => ?_
                refine ⟨by show 2 ≤ sizeLine; decide, fun t2 ht2 => ?_⟩
                refine new_step ht2 fun H10 s10 e10 => ?_
                have s710 := (s8.trans s9).trans s10
                have s510 := s57.trans s710
                have l10 := s510 _ _ l5
                refine ⟨L2, acc5, _, rfl, rfl, l10, by rw [sizeLine_eq]; omega, ?_⟩
                have dL : ∀ y, HO.tup y ≠ HO.lst acc5 := fun y h => by cases h
                have dL2 : ∀ q y, HO.frz q (.tup y) ≠ HO.lst acc5 := fun q y h => by cases h
                have nw : NodAt K H10 (.ref t2) (n.1 ++ [(j : Int)], n.2.map (stepS m.2)) := ⟨t2, rb, T2, rfl, SqT.of e10, by rw [List.map_append]; exact s710.sqT e7, SqT.of (s10 _ _ e9)⟩
                have tj : (rowR (LsOf ms) n).take (j + 1) = (rowR (LsOf ms) n).take j ++ [(n.1 ++ [(j : Int)], n.2.map (stepS m.2))] := by
                  have : (rowR (LsOf ms) n)[j]? = some (n.1 ++ [(j : Int)], n.2.map (stepS m.2)) := by
                    unfold rowR nextR
                    rw [List.getElem?_map, List.getElem?_range (by rw [ls_len]; exact jm)]
                    show some (n.1 ++ [(j : Int)], n.2.map (stepS ((LsOf ms).getD j []))) = _
                    rw [ls_get hm]
                  rw [List.take_add_one, this] <;> rfl
                refine ⟨(s5.trans s510).mut hL2H, by rw [upd_ne nLL]; exact s510 _ _ w5, W5.mono fun _ _ z => NodAt.updO l10 dL dL2 (NodAt.same s510 z), sqT_updO l10 dL dL2 (s510.sqT a5), sqT_updO l10 dL dL2 (s510.sqT b5), ⟨_, upd_same, ?_, by rw [List.length_append]; show _ + 1 ≤ _; omega⟩, _, _, _, rfl⟩
                rw [tj, ← List.append_assoc]
                exact (A5.mono fun _ _ z => NodAt.updO l10 dL dL2 (NodAt.same s510 z)).snoc (NodAt.updO l10 dL dL2 nw)
            · rintro σ H5 ⟨s5, w5, W5, a5, b5, ⟨acc5, l5, A5, n5⟩, w4', w9, w10, rfl⟩
              have tk : (allR (LsOf ms) many d).take (i + 1) = (allR (LsOf ms) many d).take i ++ [n] := by rw [List.take_add_one, hn] <;> rfl
              have fl : (rowR (LsOf ms) n).take us.length = rowR (LsOf ms) n := List.take_of_length_le (by unfold rowR; rw [List.length_map, List.length_range, ls_len, hU.1]; exact Nat.le_refl _)
              rw [fl] at A5
              have um := hU.1
              refine ⟨s5, w5, W5, ⟨acc5, l5, ?_, by omega⟩, _, _, _, _, _, rfl⟩
              rw [tk, List.flatMap_append, List.flatMap_cons, List.flatMap_nil, List.append_nil]
              exact A5
          · rintro σ H4 ⟨s4, w4, W4, ⟨acc4, l4, A4, n4⟩, v4, v7, v8, v9, v10, rfl⟩
            rw [hW.1, List.take_length] at A4
            exact ⟨_, rfl, s4, L2, acc4, l4, A4, hlow', _, _, _, _, _, _, _, rfl⟩
    · rintro σ H' ⟨sH, Lr, ws, hw, hW, hlow, u4, u5, u6, u7, u8, u9, u10, rfl⟩
      exact k .non none H' sH (fun p hp hl => hlow p hp (by omega)) rfl
end
end Law

namespace L2
open PySem PySem.Spec PyProof.Rows
theorem TyOf.same {K : PySem.W.Frag} {H H' : Hp} {x : V} {t : Value} (s : Same H H') (h : TyOf K H x t) : TyOf K H' x t := by
  cases h with
  | non => exact .non
  | bl x => exact .bl x
  | int i => exact .int i
  | str x => exact .str x
  | flt x => exact .flt x
  | lst e => exact .lst (s _ _ e)
  | frz e => exact .frz (s _ _ e)
  | tup e => exact .tup (s _ _ e)
  | dK e => exact .dK (s _ _ e)
  | dT e => exact .dT (s _ _ e)
  | ins e c1 c2 c3 c4 c5 => exact .ins (s _ _ e) c1 c2 c3 c4 c5
theorem TyX.same {K : PySem.W.Frag} {H H' : Hp} {x : V} {t : Value} (s : Same H H') (h : TyX K H x t) : TyX K H' x t := by
  cases h with
  | base h => exact .base (h.same s)
  | byt b => exact .byt b
  | set e => exact .set (s _ _ e)
  | kList e c => exact .kList e c
  | kTuple e c => exact .kTuple e c
  | kDict e c => exact .kDict e c
  | fTuple e => exact .fTuple (s _ _ e)
  | fDict e => exact .fDict (s _ _ e)
end L2
namespace Law
open PySem L2
theorem Known.same {K : PySem.W.Frag} {H H' : Hp} {x : V} (s : Same H H') (h : Known K H x) : Known K H' x := by
  rcases h with h | ⟨bi, bb, ⟨t, h1, h2, h3⟩, h4, h5⟩
  · exact .inl h
  · exact .inr ⟨bi, bb, ⟨t, h1.same s, h2, h3⟩, h4, h5⟩
/-- a part of a thing: a tuple of values, or none -/
inductive P1
  | tup (xs : List V)
  | odd
inductive P2
  | tup (l : List P1)
  | odd
def NoTup (K : PySem.W.Frag) (H : Hp) (x : V) : Prop := ∃ t, TyX K H x t ∧ PySem.W.kitOne K t (.type "tuple") = some false
def At1 (K : PySem.W.Frag) (H : Hp) (x : V) : P1 → Prop
  | .tup xs => ∃ s, x = .ref s ∧ SqT K H s xs ∧ xs.length ≤ 1000 ∧ ∀ y ∈ xs, Known K H y
  | .odd => NoTup K H x
def At2 (K : PySem.W.Frag) (H : Hp) (x : V) : P2 → Prop
  | .tup l => ∃ s ws, x = .ref s ∧ SqT K H s ws ∧ AllIn (At1 K H) ws l ∧ l.length ≤ 200
  | .odd => NoTup K H x
theorem NoTup.same {K : PySem.W.Frag} {H H' : Hp} {x : V} (s : Same H H') (h : NoTup K H x) : NoTup K H' x := by
  obtain ⟨t, h1, h2⟩ := h
  exact ⟨t, h1.same s, h2⟩
theorem At1.same {K : PySem.W.Frag} {H H' : Hp} {x : V} {p : P1} (s : Same H H') (h : At1 K H x p) : At1 K H' x p := by
  cases p with
  | tup xs =>
    obtain ⟨a, h1, h2, h3, h4⟩ := h
    exact ⟨a, h1, s.sqT h2, h3, fun y hy => (h4 y hy).same s⟩
  | odd => exact NoTup.same s h
theorem At2.same {K : PySem.W.Frag} {H H' : Hp} {x : V} {p : P2} (s : Same H H') (h : At2 K H x p) : At2 K H' x p := by
  cases p with
  | tup l =>
    obtain ⟨a, ws, h1, h2, h3, h4⟩ := h
    exact ⟨a, ws, h1, s.sqT h2, h3.mono fun _ _ => At1.same s, h4⟩
  | odd => exact NoTup.same s h
def pairW (n : Nat) : P1 → Bool
  | .tup xs => xs.length == 2 && xs.all (isW 0 ((n : Int) - 1))
  | .odd => false
def cOf : P1 → List Int
  | .tup xs => xs.map fun | .int i => i | _ => 0
  | .odd => []
theorem catAny {K : PySem.W.Frag} {H : Hp} {a b : Addr} {xs ys : List V} {Q : VK} (ha : SqT K H a xs) (hb : SqT K H b ys) (hl : xs.length + ys.length ≤ sizeLine) (k : ∀ p H', Same H H' → SqT K H' p (xs ++ ys) → Q (.ref p) H') : rCatA K (.ref a) (.ref b) H Q :=
  ⟨a, b, xs, ys, rfl, rfl, ha, hb, hl, fun z => k b H (Same.refl H) (by rw [z]; exact hb), fun _ z => k a H (Same.refl H) (by rw [z, List.append_nil]; exact ha), fun _ _ p hp => k p _ (Same.new hp) (SqT.of upd_same)⟩
theorem slAny {K : PySem.W.Frag} {H : Hp} {a : Addr} {xs : List V} {lo hi : Option Int} {Q : VK} (ha : SqT K H a xs) (k : ∀ p H', Same H H' → SqT K H' p (cutV xs lo hi) → Q (.ref p) H') : rSlA K (.ref a) lo hi H Q := by
  refine ⟨a, xs, rfl, ha, fun z => k a H (Same.refl H) ?_, fun _ p hp => k p _ (Same.new hp) (SqT.of upd_same)⟩
  unfold cutV
  rw [z.1, z.2, List.drop_zero, Nat.sub_zero, List.take_length]
  exact ha
def rLtTI (K : PySem.W.Frag) : R2 := fun x y H Q => ∃ (a b : Addr) (ns ms : List Int), x = .ref a ∧ y = .ref b ∧ SqT K H a (ns.map V.int) ∧ SqT K H b (ms.map V.int) ∧ Q (.bl (HT.lexLt ns ms)) H
theorem dec_two (n : Nat) : decide (V.int (n : Int) = V.int 2) = (n == 2) := by
  rw [dec_int]
  by_cases e : n = 2
  · subst e
    rfl
  · rw [beq_eq_false_iff_ne.mpr e, beq_eq_false_iff_ne.mpr (by omega)]
def ascB (cs : List (List Int)) : Bool := (cs.zip (cs.drop 1)).all fun p => HT.lexLt p.1 p.2
def lotPB (n : Nat) : P2 → Bool
  | .tup l => l.all (pairW n) && ascB (l.map cOf)
  | .odd => false
def coB (cs : List (List Int)) : Bool := cs.all fun c => decide (c.getD 0 0 < c.getD 1 0)
def lotCB (n : Nat) (p : P2) : Bool := lotPB n p && match p with
  | .tup l => coB (l.map cOf)
  | .odd => true
def bookB (n : Nat) (Ls : List (List Int)) (p : P2) : Bool := lotCB n p && match p with
  | .tup l => decide (0 < l.length) && keptB Ls (l.map cOf)
  | .odd => true
theorem isW_int {lo hi : Int} {x : V} (h : isW lo hi x = true) : ∃ i, x = .int i ∧ lo ≤ i ∧ i ≤ hi := by
  cases x with
  | int i =>
    have h : (decide (lo ≤ i) && decide (i ≤ hi)) = true := h
    rw [Bool.and_eq_true] at h
    exact ⟨i, rfl, of_decide_eq_true h.1, of_decide_eq_true h.2⟩
  | _ => cases h
theorem pair_ok {n : Nat} {p : P1} (h : pairW n p = true) : ∃ a b : Int, p = .tup [.int a, .int b] ∧ cOf p = [a, b] ∧ InN n [a, b] := by
  cases p with
  | odd => cases h
  | tup xs =>
    have h : (xs.length == 2 && xs.all (isW 0 ((n : Int) - 1))) = true := h
    rw [Bool.and_eq_true] at h
    have l2 := eq_of_beq h.1
    match xs, l2, h.2 with
    | [x, y], _, h2 =>
      rw [List.all_eq_true] at h2
      obtain ⟨a, rfl, a1, a2⟩ := isW_int (h2 x (by simp))
      obtain ⟨b, rfl, b1, b2⟩ := isW_int (h2 y (by simp))
      refine ⟨a, b, rfl, rfl, fun z hz => ?_⟩
      rcases List.mem_cons.mp hz with rfl | hz
      · omega
      · rw [List.mem_singleton.mp hz]
        omega
theorem pairs_rows {K : PySem.W.Frag} {H : Hp} {n : Nat} {ws : List V} {l : List P1} (h : AllIn (At1 K H) ws l) (ok : l.all (pairW n) = true) : AllIn (RowAt K H) ws (l.map cOf) := by
  refine ⟨by rw [h.1, List.length_map], fun i v hv => ?_⟩
  obtain ⟨p, h1, h2⟩ := h.2 i v hv
  rw [List.all_eq_true] at ok
  obtain ⟨a, b, rfl, e, _⟩ := pair_ok (ok p (List.mem_of_getElem? h1))
  obtain ⟨s, rfl, h3, _⟩ := h2
  exact ⟨[a, b], by rw [List.getElem?_map, h1] <;> rfl, s, rfl, h3⟩
theorem pairs_in {n : Nat} {l : List P1} (ok : l.all (pairW n) = true) : ∀ c ∈ l.map cOf, ∃ a b : Int, c = [a, b] ∧ InN n [a, b] := fun c hc => by
  obtain ⟨p, hp, rfl⟩ := List.mem_map.mp hc
  rw [List.all_eq_true] at ok
  obtain ⟨a, b, _, e, h⟩ := pair_ok (ok p hp)
  exact ⟨a, b, e, h⟩
section
variable {P : Program} {w : World} {K : PySem.W.Frag} {mg : Str → Option Value} {base : Heap}
def spRowK (K : PySem.W.Frag) : Sp := fun vs H Q _ => ∃ (b : Int) (a : Addr) (xs : List V), vs = [.int b, .ref a] ∧ SqT K H a xs ∧ xs.length ≤ 1000 ∧ (∀ x ∈ xs, Known K H x) ∧ ∀ H', Same H H' → Q (.bl (xs.all (isW 0 (b - 1)))) H'
abbrev nIsRowBelowK : List Str := ["bound", "thing", "part"]
theorem scIsRowBelowK : FnScope nIsRowBelowK ["bound", "thing"] (defScope s_is_row_below) := ⟨rfl, rfl, rfl, by decide +kernel, rfl, by decide +kernel, by decide +kernel⟩
theorem ok_rowK {f : Addr} {fd : FuncData} {fcWithin : Addr} {fdcWithin : FuncData} (F : Fun K "is_row_below" "is_row_below" s_is_row_below f fd) (T : NmA mg) (cWithin : Cl P w K mg base CX0 2 "is_within" fcWithin fdcWithin ["low", "high", "thing"] (spWithin K)) : FnOk P w K mg base CX0 3 f fd ["bound", "thing"] (spRowK K) := by
  refine F.ok scIsRowBelowK (fun vs H Q E h => ?_) (fun cdv A' outer s H vs Q E hr h => ?_)
  · obtain ⟨b, a, xs, rfl, _⟩ := h
    rfl
  · obtain ⟨b, a, xs, rfl, hS, hz, hx, k⟩ := h
    have hu := hu_of hr
    refine ⟨_, pss_one (ps_ret (pe_and (pe_callB call_isi (by rfl) T.isi (by decide +kernel) (pa_cons (pv 1) (pa_cons (pe_bltn (v := .ty "tuple") (u := .type "tuple") (by rfl) T.tuple (by decide +kernel) rfl) pa_nil))) (pe_one (pe_callB (cr_all rfl) (by rfl) T.all (by decide +kernel) (pa_cons (pe_lc (own := [("part", 2)]) (g := (gName 2)) (tt := tYes) rfl scIsRowBelowK.nd  (pi_tup (pv 1)) (blkOk_by (own := [("part", 2)]) (N := nIsRowBelowK) (sc := defScope s_is_row_below) (by decide +kernel)) (fun _ _ _ _ _ => (pg_name (i := 2) scIsRowBelowK.nd rfl (Or.inl rfl))) (fun _ _ _ _ _ => pts_nil) (fun _ _ _ _ _ => (cWithin.call (hr.mono (by decide)) (pa_cons pe_int (pa_cons (pe_op op_sub (pv 0) pe_int) (pa_cons (pv 2) pa_nil)))))) pa_nil))))), ?_⟩
    refine ⟨_, rfl, _, _, _, _, _, rfl, .ty "tuple", tyx_tup hS, kit_tt, _, rfl, iteT ?_⟩
    refine ⟨_, rfl, a, rfl, ⟨_, hS⟩, fun D hD => ?_⟩
    refine lc_tup (K := K) (a := a) (xs := xs) (fun i H' => Same H H' ∧ H' D = some (.lst (((xs.take i).map (isW 0 (b - 1))).map V.bl))) ⟨Same.new hD, upd_same⟩ (fun i H' _ h => h.1.sqT hS) ?_ ?_
    · rintro i x H' hi ⟨s1, h1⟩
      have il := (List.getElem?_eq_some_iff.mp hi).1
      have put : ∀ v : Bool, isW 0 (b - 1) x = v → ∃ acc, H' D = some (.lst acc) ∧ acc.length < sizeLine ∧ Same H (upd H' D (.lst (acc ++ [V.bl v]))) ∧ (upd H' D (.lst (acc ++ [V.bl v]))) D = some (.lst (((xs.take (i + 1)).map (isW 0 (b - 1))).map V.bl)) := fun v e =>
        ⟨_, h1, by rw [List.length_map, List.length_map, List.length_take, sizeLine_eq]; omega, s1.mut hD, by rw [upd_same, List.take_add_one, hi, List.map_append, List.map_append, ← e] <;> rfl⟩
      rcases hx x (List.mem_of_getElem? hi) with ⟨z, rfl⟩ | ⟨bi, bb, ty, hb, hw⟩
      · exact ⟨rfl, _, rfl, _, _, rfl, rfl, _, rfl, _, _, _, rfl, .inl ⟨z, rfl, put _ rfl⟩⟩
      · refine ⟨rfl, _, rfl, _, _, rfl, rfl, _, rfl, _, _, _, rfl, .inr ⟨bi, bb, ?_, hb, put _ (hw _ _)⟩⟩
        obtain ⟨t, h1, h2, h3⟩ := ty
        exact ⟨t, h1.same s1, h2, h3⟩
    · rintro H' ⟨s1, h1⟩
      rw [List.take_length] at h1
      refine ⟨D, _, rfl, SqL.of h1, ?_⟩
      rw [all_take]
      exact k H' s1
def spPairP (K : PySem.W.Frag) : Sp := fun vs H Q _ => ∃ (n : Nat) (x : V) (p : P1), vs = [.int (n : Nat), x] ∧ At1 K H x p ∧ ∀ H', Same H H' → Q (.bl (pairW n p)) H'
abbrev nIsPairBelow : List Str := ["bound", "thing"]
theorem scIsPairBelow : FnScope nIsPairBelow ["bound", "thing"] (defScope s_is_pair_below) := ⟨rfl, rfl, rfl, by decide +kernel, rfl, by decide +kernel, by decide +kernel⟩
theorem ok_pairP {f : Addr} {fd : FuncData} {fcRowK : Addr} {fdcRowK : FuncData} (F : Fun K "is_pair_below" "is_pair_below" s_is_pair_below f fd) (T : NmA mg) (cRowK : Cl P w K mg base CX0 3 "is_row_below" fcRowK fdcRowK ["bound", "thing"] (spRowK K)) : FnOk P w K mg base CX0 4 f fd ["bound", "thing"] (spPairP K) := by
  refine F.ok scIsPairBelow (fun vs H Q E h => ?_) (fun cdv A' outer s H vs Q E hr h => ?_)
  · obtain ⟨n, x, p, rfl, _⟩ := h
    rfl
  · obtain ⟨n, x, p, rfl, hA, k⟩ := h
    have hu := hu_of hr
    refine ⟨_, pss_one (ps_ret (pe_and (pe_callB call_isi (by rfl) T.isi (by decide +kernel) (pa_cons (pv 1) (pa_cons (pe_bltn (v := .ty "tuple") (u := .type "tuple") (by rfl) T.tuple (by decide +kernel) rfl) pa_nil))) (pe_and (pe_cmpR op_eq (pe_callB call_len_seq (by rfl) T.len PySem.boot_len (pa_cons (pv 1) pa_nil)) pe_int (nomark _)) (pe_one (cRowK.call (hr.mono (by decide)) (pa_cons (pv 0) (pa_cons (pv 1) pa_nil))))))), ?_⟩
    cases p with
    | odd =>
      obtain ⟨t, h1, h2⟩ := hA
      refine ⟨_, rfl, _, _, _, _, _, rfl, .ty "tuple", h1, h2, _, rfl, iteF ?_⟩
      exact k H (Same.refl H)
    | tup xs =>
      obtain ⟨s, rfl, hS, hz, hx⟩ := hA
      refine ⟨_, rfl, _, _, _, _, _, rfl, .ty "tuple", tyx_tup hS, kit_tt, _, rfl, iteT ?_⟩
      refine ⟨_, rfl, s, _, rfl, .inr hS, rfl, _, rfl, ?_⟩
      rw [dec_two]
      have e : pairW n (.tup xs) = (xs.length == 2 && xs.all (isW 0 ((n : Int) - 1))) := rfl
      refine ite2 (fun h => ?_) (fun h => ?_)
      · refine ⟨_, rfl, _, rfl, (n : Int), s, xs, rfl, hS, hz, hx, fun H1 s1 => ?_⟩
        rw [h, Bool.true_and] at e
        rw [← e]
        exact k H1 s1
      · rw [Bool.not_eq_true] at h
        rw [h, Bool.false_and] at e
        have z := k H (Same.refl H)
        rw [e] at z
        exact z
def spAscP (K : PySem.W.Frag) : Sp := fun vs H Q _ => ∃ (s : Addr) (ws : List V) (cs : List (List Int)), vs = [.ref s] ∧ SqT K H s ws ∧ AllIn (RowAt K H) ws cs ∧ cs.length ≤ 200 ∧ ∀ H', Same H H' → Q (.bl (ascB cs)) H'
abbrev nIsAscending : List Str := ["things", "one", "other"]
theorem scIsAscending : FnScope nIsAscending ["things"] (defScope s_is_ascending) := ⟨rfl, rfl, rfl, by decide +kernel, rfl, by decide +kernel, by decide +kernel⟩
theorem ok_ascP {f : Addr} {fd : FuncData} (F : Fun K "is_ascending" "is_ascending" s_is_ascending f fd) (T : NmA mg) : FnOk P w K mg base CX0 1 f fd ["things"] (spAscP K) := by
  refine F.ok scIsAscending (fun vs H Q E h => ?_) (fun cdv A' outer s H vs Q E hr h => ?_)
  · obtain ⟨s, ws, cs, rfl, _⟩ := h
    rfl
  · obtain ⟨s, ws, cs, rfl, hS, aS, hl, k⟩ := h
    refine ⟨_, pss_one (ps_ret (pe_callB (cr_all rfl) (by rfl) T.all (by decide +kernel) (pa_cons (pe_lc (own := [("one", 1), ("other", 2)]) (g := (gTup K 2 (gCons (gName 1) (gCons (gName 2) gNil)))) (tt := tYes) rfl scIsAscending.nd  (RZ.pi_zipA (by rfl) T.zip (pa_cons (pv 0) (pa_cons (pe_slice sl_tupA (pv 0) (po_some pe_int) po_none) pa_nil))) (blkOk_by (own := [("one", 1), ("other", 2)]) (N := nIsAscending) (sc := defScope s_is_ascending) (by decide +kernel)) (fun _ _ _ _ _ => (pg_tup (by rfl) (pgs_cons (pg_name (i := 1) scIsAscending.nd rfl (Or.inl rfl)) (pgs_cons (pg_name (i := 2) scIsAscending.nd rfl (Or.inl rfl)) pgs_nil)))) (fun _ _ _ _ _ => pts_nil) (fun _ _ _ _ _ => (pe_cmpR (r := rLtTI K) (show OpR _ (compareOp .Lt) (rLtTI K) from op_ltT hr.units0) (pv 1) (pv 2) (nomark _)))) pa_nil))), ?_⟩
    refine ⟨_, rfl, _, rfl, 1, rfl, ?_⟩
    unfold tNoPart
    refine slAny hS fun s2 H1 s1 hS2 => ?_
    have cl : cutV ws (some 1) none = ws.drop 1 := by
      unfold cutV
      rw [show HT.sIx ws.length 0 (some 1) = min 1 ws.length from HT.sIx_nat _ _ 1, show HT.sIx ws.length ws.length none = ws.length from rfl]
      by_cases c : ws.length = 0
      · rw [List.length_eq_zero_iff.mp c] <;> rfl
      · rw [show min 1 ws.length = 1 by omega, List.take_of_length_le (by rw [List.length_drop]; exact Nat.le_refl _)]
    rw [cl] at hS2
    have hS1 := s1.sqT hS
    have aS1 : AllIn (RowAt K H1) ws cs := aS.mono fun _ _ => RowAt.same s1
    have wl := aS.1
    refine ⟨s, s2, _, _, rfl, .inr ⟨hS1, hS2, fun D hD => ?_⟩⟩
    refine lc_it (walk_zipT (xs := ws) (ys := ws.drop 1) (n := ws.length - 1) (by rw [List.length_drop]; omega)) (fun i H' => Same H1 H' ∧ H' D = some (.lst ((((cs.zip (cs.drop 1)).map fun p => HT.lexLt p.1 p.2).take i).map V.bl))) ⟨Same.new hD, upd_same⟩ (fun i H' _ h => ⟨h.1.sqT hS1, h.1.sqT hS2⟩) (fun i x H2 H3 hi g y => ?_) fun H2 g => ?_
    · obtain ⟨s2', d2⟩ := g
      obtain ⟨T, x1, x2, rfl, hT, rfl, e1, e2⟩ := y
      have e2 : (ws.drop 1)[i]? = some x2 := e2
      rw [List.getElem?_drop] at e2
      obtain ⟨t1, ht1, a1, rfl, r1⟩ := aS1.2 i _ e1
      obtain ⟨t2, ht2, a2, rfl, r2⟩ := aS1.2 (1 + i) _ e2
      refine new_step hT fun H4 s4 e4 => ?_
      have s14 := s2'.trans s4
      refine ⟨T, _, rfl, SqT.of e4, rfl, _, _, rfl, _, _, rfl, rfl, ?_⟩
      refine ⟨rfl, _, rfl, _, rfl, a1, a2, t1, t2, rfl, rfl, s14.sqT r1, s14.sqT r2, _, s4 _ _ d2, by rw [List.length_map, List.length_take, sizeLine_eq]; omega, s14.mut hD, ?_⟩
      have e : ((cs.zip (cs.drop 1)).map fun p => HT.lexLt p.1 p.2)[i]? = some (HT.lexLt t1 t2) := by
        have z : (cs.zip (cs.drop 1))[i]? = some (t1, t2) := by
          rw [List.getElem?_zip_eq_some]
          exact ⟨ht1, by rw [List.getElem?_drop]; exact ht2⟩
        rw [List.getElem?_map, z] <;> rfl
      rw [upd_same, List.take_add_one, e, List.map_append] <;> rfl
    · obtain ⟨s2', d2⟩ := g
      rw [List.take_of_length_le (l := (cs.zip (cs.drop 1)).map fun p => HT.lexLt p.1 p.2) (by rw [List.length_map, List.length_zip, List.length_drop]; omega)] at d2
      refine ⟨D, _, rfl, SqL.of d2, ?_⟩
      have e : ((cs.zip (cs.drop 1)).map fun p => HT.lexLt p.1 p.2).all id = ascB cs := by
        unfold ascB
        rw [List.all_map] <;> rfl
      rw [e]
      exact k H2 (s1.trans s2')
def spLotPP (K : PySem.W.Frag) : Sp := fun vs H Q _ => ∃ (n : Nat) (x : V) (p : P2), vs = [.int (n : Nat), x] ∧ At2 K H x p ∧ ∀ H', Same H H' → Q (.bl (lotPB n p)) H'
abbrev nIsLotOfPairs : List Str := ["bound", "thing", "part"]
theorem scIsLotOfPairs : FnScope nIsLotOfPairs ["bound", "thing"] (defScope s_is_lot_of_pairs) := ⟨rfl, rfl, rfl, by decide +kernel, rfl, by decide +kernel, by decide +kernel⟩
theorem ok_lotPP {f : Addr} {fd : FuncData} {fcPairP : Addr} {fdcPairP : FuncData} {fcAscP : Addr} {fdcAscP : FuncData} (F : Fun K "is_lot_of_pairs" "is_lot_of_pairs" s_is_lot_of_pairs f fd) (T : NmA mg) (cPairP : Cl P w K mg base CX0 4 "is_pair_below" fcPairP fdcPairP ["bound", "thing"] (spPairP K)) (cAscP : Cl P w K mg base CX0 1 "is_ascending" fcAscP fdcAscP ["things"] (spAscP K)) : FnOk P w K mg base CX0 5 f fd ["bound", "thing"] (spLotPP K) := by
  refine F.ok scIsLotOfPairs (fun vs H Q E h => ?_) (fun cdv A' outer s H vs Q E hr h => ?_)
  · obtain ⟨n, x, p, rfl, _⟩ := h
    rfl
  · obtain ⟨n, x, p, rfl, hA, k⟩ := h
    have hu := hu_of hr
    refine ⟨_, pss_cons (ps_if (PW.pt (pw_or (pt_not (pt_val (pe_callB call_isi (by rfl) T.isi (by decide +kernel) (pa_cons (pv 1) (pa_cons (pe_bltn (v := .ty "tuple") (u := .type "tuple") (by rfl) T.tuple (by decide +kernel) rfl) pa_nil))))) (pw_or1 (pt_not (pt_val (pe_callB (cr_all rfl) (by rfl) T.all (by decide +kernel) (pa_cons (pe_lc (own := [("part", 2)]) (g := (gName 2)) (tt := tYes) rfl scIsLotOfPairs.nd  (pi_tup (pv 1)) (blkOk_by (own := [("part", 2)]) (N := nIsLotOfPairs) (sc := defScope s_is_lot_of_pairs) (by decide +kernel)) (fun _ _ _ _ _ => (pg_name (i := 2) scIsLotOfPairs.nd rfl (Or.inl rfl))) (fun _ _ _ _ _ => pts_nil) (fun _ _ _ _ _ => (cPairP.call (hr.mono (by decide)) (pa_cons (pv 0) (pa_cons (pv 2) pa_nil))))) pa_nil)))))))
        (pss_one (ps_ret pe_bl)) pss_nil)
      (pss_one (ps_ret (cAscP.call (hr.mono (by decide)) (pa_cons (pv 1) pa_nil)))), ?_⟩
    cases p with
    | odd =>
      obtain ⟨t, h1, h2⟩ := hA
      refine ⟨_, rfl, _, _, _, _, _, rfl, .ty "tuple", h1, h2, _, rfl, iteT ?_⟩
      exact k H (Same.refl H)
    | tup l =>
      obtain ⟨s, ws, rfl, hT, aS, hl⟩ := hA
      refine ⟨_, rfl, _, _, _, _, _, rfl, .ty "tuple", tyx_tup hT, kit_tt, _, rfl, ?_⟩
      refine iteF ⟨_, rfl, s, rfl, ⟨_, hT⟩, fun D hD => ?_⟩
      have wl := aS.1
      refine lc_tup (K := K) (a := s) (xs := ws) (fun i H' => Same H H' ∧ H' D = some (.lst (((l.map (pairW n)).take i).map V.bl))) ⟨Same.new hD, upd_same⟩ (fun i H' _ h => h.1.sqT hT) (fun i x H1 hi g => ?_) fun H1 g => ?_
      · obtain ⟨s1, d1⟩ := g
        obtain ⟨p, hp, ha⟩ := aS.2 i x hi
        have il := (List.getElem?_eq_some_iff.mp hi).1
        refine ⟨rfl, _, rfl, _, rfl, n, x, p, rfl, ha.same s1, fun H2 s2 => ?_⟩
        refine ⟨_, s2 _ _ d1, by rw [List.length_map, List.length_take, sizeLine_eq]; omega, (s1.trans s2).mut hD, ?_⟩
        have e : (l.map (pairW n))[i]? = some (pairW n p) := by rw [List.getElem?_map, hp] <;> rfl
        rw [upd_same, List.take_add_one, e, List.map_append] <;> rfl
      · obtain ⟨s1, d1⟩ := g
        rw [List.take_of_length_le (l := l.map (pairW n)) (by rw [List.length_map, wl]; exact Nat.le_refl _)] at d1
        refine ⟨D, _, rfl, SqL.of d1, _, rfl, ?_⟩
        have e : (l.map (pairW n)).all id = l.all (pairW n) := by rw [List.all_map] <;> rfl
        rw [e]
        have eL : lotPB n (.tup l) = (l.all (pairW n) && ascB (l.map cOf)) := rfl
        cases hc : l.all (pairW n) with
        | false =>
          rw [hc, Bool.false_and] at eL
          rw [eL] at k
          exact iteT (k H1 s1)
        | true =>
          rw [hc, Bool.true_and] at eL
          rw [eL] at k
          refine iteF ⟨_, rfl, s, ws, l.map cOf, rfl, s1.sqT hT, pairs_rows (aS.mono fun _ _ => At1.same s1) hc, by rw [List.length_map]; exact hl, fun H2 s2 => k H2 (s1.trans s2)⟩
def spLotCP (K : PySem.W.Frag) : Sp := fun vs H Q _ => ∃ (n : Nat) (x : V) (p : P2), vs = [.int (n : Nat), x] ∧ At2 K H x p ∧ ∀ H', Same H H' → Q (.bl (lotCB n p)) H'
abbrev nIsLotOfCouples : List Str := ["bound", "thing", "one", "other"]
theorem scIsLotOfCouples : FnScope nIsLotOfCouples ["bound", "thing"] (defScope s_is_lot_of_couples) := ⟨rfl, rfl, rfl, by decide +kernel, rfl, by decide +kernel, by decide +kernel⟩
theorem ok_lotCP {f : Addr} {fd : FuncData} {fcLotPP : Addr} {fdcLotPP : FuncData} (F : Fun K "is_lot_of_couples" "is_lot_of_couples" s_is_lot_of_couples f fd) (T : NmA mg) (cLotPP : Cl P w K mg base CX0 5 "is_lot_of_pairs" fcLotPP fdcLotPP ["bound", "thing"] (spLotPP K)) : FnOk P w K mg base CX0 6 f fd ["bound", "thing"] (spLotCP K) := by
  refine F.ok scIsLotOfCouples (fun vs H Q E h => ?_) (fun cdv A' outer s H vs Q E hr h => ?_)
  · obtain ⟨n, x, p, rfl, _⟩ := h
    rfl
  · obtain ⟨n, x, p, rfl, hA, k⟩ := h
    have hu := hu_of hr
    refine ⟨_, pss_one (ps_ret (pe_and (cLotPP.call (hr.mono (by decide)) (pa_cons (pv 0) (pa_cons (pv 1) pa_nil))) (pe_one (pe_callB (cr_all rfl) (by rfl) T.all (by decide +kernel) (pa_cons (pe_lc (own := [("one", 2), ("other", 3)]) (g := (gTup K 2 (gCons (gName 2) (gCons (gName 3) gNil)))) (tt := tYes) rfl scIsLotOfCouples.nd  (pi_tup (pv 1)) (blkOk_by (own := [("one", 2), ("other", 3)]) (N := nIsLotOfCouples) (sc := defScope s_is_lot_of_couples) (by decide +kernel)) (fun _ _ _ _ _ => (pg_tup (by rfl) (pgs_cons (pg_name (i := 2) scIsLotOfCouples.nd rfl (Or.inl rfl)) (pgs_cons (pg_name (i := 3) scIsLotOfCouples.nd rfl (Or.inl rfl)) pgs_nil)))) (fun _ _ _ _ _ => pts_nil) (fun _ _ _ _ _ => (pe_cmpR op_lt (pv 2) (pv 3) (nomark _)))) pa_nil))))), ?_⟩
    refine ⟨_, rfl, _, rfl, n, x, p, rfl, hA, fun H1 s1 => ⟨_, rfl, ?_⟩⟩
    have hA1 := hA.same s1
    cases hc : lotPB n p with
    | false =>
      have e : lotCB n p = false := by unfold lotCB; rw [hc, Bool.false_and]
      rw [e] at k
      exact iteF (k H1 s1)
    | true =>
      cases p with
      | odd => cases hc
      | tup l =>
        have hc2 : (l.all (pairW n) && ascB (l.map cOf)) = true := hc
        rw [Bool.and_eq_true] at hc2
        obtain ⟨s, ws, rfl, hT, aS, hl⟩ := hA1
        have aR := pairs_rows aS hc2.1
        have wl := aS.1
        refine iteT ⟨_, rfl, s, rfl, ⟨_, hT⟩, fun D hD => ?_⟩
        refine lc_tup (K := K) (a := s) (xs := ws) (fun i H' => Same H1 H' ∧ H' D = some (.lst ((((l.map cOf).map fun c => decide (c.getD 0 0 < c.getD 1 0)).take i).map V.bl))) ⟨Same.new hD, upd_same⟩ (fun i H' _ h => h.1.sqT hT) (fun i x H2 hi g => ?_) fun H2 g => ?_
        · obtain ⟨s2, d2⟩ := g
          obtain ⟨c, hcc, a, rfl, r⟩ := aR.2 i x hi
          obtain ⟨u, v, rfl, _⟩ := pairs_in hc2.1 c (List.mem_of_getElem? hcc)
          have il := (List.getElem?_eq_some_iff.mp hi).1
          refine ⟨a, _, rfl, s2.sqT r, rfl, _, _, rfl, _, _, rfl, rfl, ?_⟩
          refine ⟨rfl, _, rfl, _, rfl, _, _, rfl, rfl, _, d2, by rw [List.length_map, List.length_take, sizeLine_eq]; omega, s2.mut hD, ?_⟩
          have e : ((l.map cOf).map fun c => decide (c.getD 0 0 < c.getD 1 0))[i]? = some (decide (u < v)) := by rw [List.getElem?_map, hcc] <;> rfl
          rw [upd_same, List.take_add_one, e, List.map_append] <;> rfl
        · obtain ⟨s2, d2⟩ := g
          rw [List.take_of_length_le (l := (l.map cOf).map fun c => decide (c.getD 0 0 < c.getD 1 0)) (by rw [List.length_map, List.length_map, wl]; exact Nat.le_refl _)] at d2
          refine ⟨D, _, rfl, SqL.of d2, ?_⟩
          have e : ((l.map cOf).map fun c => decide (c.getD 0 0 < c.getD 1 0)).all id = lotCB n (.tup l) := by
            unfold lotCB
            rw [hc, Bool.true_and, List.all_map] <;> rfl
          rw [e]
          exact k H2 (s1.trans s2)
def spBook (K : PySem.W.Frag) (C : Addr) : Sp := fun vs H Q _ => ∃ (q : Addr) (x : V) (many : Nat) (ms : List Mv) (p : P2), vs = [.ref q, x] ∧ SysAt K C H q many ms ∧ many ≤ 12 ∧ ms.length ≤ 24 ∧ (∀ m ∈ ms, MvOk many m) ∧ At2 K H x p ∧ ∀ H', Same H H' → Q (.bl (bookB many (LsOf ms) p)) H'
abbrev nIsBook : List Str := ["system", "thing"]
theorem scIsBook : FnScope nIsBook ["system", "thing"] (defScope s_is_book) := ⟨rfl, rfl, rfl, by decide +kernel, rfl, by decide +kernel, by decide +kernel⟩
theorem ok_is_book {f : Addr} {fd : FuncData} {fcKeptT : Addr} {fdcKeptT : FuncData} {fcLotCP : Addr} {fdcLotCP : FuncData} {C : Addr} (F : Fun K "is_book" "is_book" s_is_book f fd) (T : NmA mg) (cKeptT : Cl P w K mg base CX0 3 "is_kept" fcKeptT fdcKeptT ["system", "couples"] (spKeptT K C)) (cLotCP : Cl P w K mg base CX0 6 "is_lot_of_couples" fcLotCP fdcLotCP ["bound", "thing"] (spLotCP K)) (S : SysT K mg C) : FnOk P w K mg base CX0 7 f fd ["system", "thing"] (spBook K C) := by
  refine F.ok scIsBook (fun vs H Q E h => ?_) (fun cdv A' outer s H vs Q E hr h => ?_)
  · obtain ⟨q, x, many, ms, p, rfl, _⟩ := h
    rfl
  · obtain ⟨q, x, many, ms, p, rfl, hM, m12, ml, mo, hA, k⟩ := h
    have hu := hu_of hr
    refine ⟨_, pss_one (ps_ret (pe_and (cLotCP.call (hr.mono (by decide)) (pa_cons (pe_fld (pv 0) rfl) (pa_cons (pv 1) pa_nil))) (pe_and (pe_cmpR op_gt (pe_callB call_len_seq (by rfl) T.len PySem.boot_len (pa_cons (pv 1) pa_nil)) pe_int (nomark _)) (pe_one (cKeptT.call (hr.mono (by decide)) (pa_cons (pv 0) (pa_cons (pv 1) pa_nil))))))), ?_⟩
    obtain ⟨dx, mv, hp, us, hV, hU⟩ := id hM
    refine ⟨_, rfl, q, C, dx, _, _, rfl, hp, S.cl, S.nK, sysF_many _ _, _, rfl, many, x, p, rfl, hA, fun H1 s1 => ⟨_, rfl, ?_⟩⟩
    have hA1 := hA.same s1
    cases hc : lotCB many p with
    | false =>
      have e : bookB many (LsOf ms) p = false := by unfold bookB; rw [hc, Bool.false_and]
      rw [e] at k
      exact iteF (k H1 s1)
    | true =>
      cases p with
      | odd => cases hc
      | tup l =>
        have hc1 : lotPB many (.tup l) = true := by
          unfold lotCB at hc
          rw [Bool.and_eq_true] at hc
          exact hc.1
        have hc2 : (l.all (pairW many) && ascB (l.map cOf)) = true := hc1
        rw [Bool.and_eq_true] at hc2
        obtain ⟨s, ws, rfl, hT, aS, hl⟩ := hA1
        have aR := pairs_rows aS hc2.1
        have eb : bookB many (LsOf ms) (.tup l) = (decide (0 < l.length) && keptB (LsOf ms) (l.map cOf)) := by
          unfold bookB
          rw [hc, Bool.true_and]
        refine iteT ⟨_, rfl, s, _, rfl, .inr hT, _, _, rfl, rfl, _, rfl, ite2 (fun c => ?_) (fun c => ?_)⟩
        · have c := of_decide_eq_true c
          rw [decide_eq_true (show 0 < l.length by have := aS.1; omega), Bool.true_and] at eb
          rw [eb] at k
          refine ⟨_, rfl, _, rfl, q, s, many, ms, ws, l.map cOf, rfl, hM.same s1, m12, ml, mo, hT, aR, ⟨by rw [List.length_map]; exact hl, fun c hc => ?_⟩, fun H2 s2 => k H2 (s1.trans s2)⟩
          obtain ⟨a, b, rfl, h⟩ := pairs_in hc2.1 c hc
          exact ⟨rfl, h⟩
        · have z : ¬ (0 : Int) < (ws.length : Nat) := fun z => c (decide_eq_true z)
          rw [decide_eq_false (show ¬ 0 < l.length by have := aS.1; omega), Bool.false_and] at eb
          rw [eb] at k
          exact k H1 s1
end
end Law

namespace SW
open PySem PySem.Spec PyProof.Rows L2
section
variable {P : Program} {w : World} {A : Around} {E : Value → Shared → Prop} {s : Shared} {a : Addr} {L : List (Addr × List Int)} {es : Array (Int × Value)} {ep : Nat} {t : SetTable}
/-- a set of tuples, as many as its table holds -/
structure SetW (P : Program) (w : World) (h : Heap) (a : Addr) (L : List (Addr × List Int)) (es : Array (Int × Value)) (ep : Nat) (t : SetTable) : Prop where
  obj : ∃ o, h.get? a = some o ∧ o.ExactSet ∧ o.data = .set es ep t
  ents : es.toList = rowsOf P w L
  tb : TabOk t (L.map fun p => thash P w p.2)
  one : (L.map (·.2)).Nodup
  tups : ∀ p ∈ L, IsT P w h p.2 p.1
  pl : t.plain = true
  lead : w.params.followText "set-order" = true ∨ t.led = true
  free : L.length * 5 < t.mask * 3
theorem SetW.of (R : SetTR P w s.heap a L es ep t) : SetW P w s.heap a L es ep t := ⟨R.ob, R.rows, R.tab, R.nd, R.tup, R.plain, R.led, R.room⟩
theorem SetW.small (R : SetW P w s.heap a L es ep t) (h : L.length < 64) : SetTR P w s.heap a L es ep t := ⟨R.obj, R.ents, R.tb, R.one, R.tups, R.pl, R.lead, R.free, h⟩
theorem SetW.cnt (R : SetW P w s.heap a L es ep t) : es.size = L.length := by
  rw [← Array.length_toList, R.ents]
  unfold rowsOf
  rw [List.length_map]
theorem SetW.ok (R : SetW P w s.heap a L es ep t) : t.fits es.size = true := by
  have q1 := R.tb.sz
  rw [List.length_map] at q1
  have q2 := R.cnt
  have q3 := R.free
  unfold SetTable.fits SetTable.fill
  rw [R.tb.dm, Bool.and_eq_true, beq_iff_eq, decide_eq_true_eq]
  refine ⟨by omega, ?_⟩
  show t.place.size + 0 ≤ t.mask
  omega
theorem SetW.ent (R : SetW P w s.heap a L es ep t) {i : Nat} {p : Addr × List Int} (h : L[i]? = some p) : es[i]? = some (thash P w p.2, Value.ref p.1) := by
  have z : es.toList[i]? = some (thash P w p.2, Value.ref p.1) := by
    rw [R.ents]
    unfold rowsOf
    rw [List.getElem?_map, h] <;> rfl
  simpa using z
theorem SetW.gv (R : SetW P w s.heap a L es ep t) : ¬ t.gaveWay = true := by
  unfold SetTable.gaveWay
  rw [mask_odd R.tb.mok]
  decide
/-- the c-th place looked at -/
def pos (t : SetTable) (h : Int) (c : Nat) : SetTable.Probe := nth t.mask (t.probeStart h) c
theorem pos_way (t : SetTable) (h : Int) (c : Nat) : (pos t h c).j = way t.mask h c := rfl
theorem pos_add (t : SetTable) (h : Int) (c d : Nat) : nth t.mask (pos t h c) d = pos t h (c + d) := (nth_add t.mask c _ d).symm
theorem nth_dummy (m : Nat) : ∀ (n : Nat) (p : SetTable.Probe), p.dummy = none → (nth m p n).dummy = none
  | 0, _, h => h
  | n + 1, p, h => by
    refine nth_dummy m n (adv m p) ?_
    unfold adv
    split
    · exact h
    · exact h
theorem find_from (R : SetW P w s.heap a L es ep t) {x : Addr} {k : List Int} (hx : IsT P w s.heap k x) (hu : A.units < cLine) {K : Nat} (kf : K < 10 * SetTable.turns t.mask)
    (out : way t.mask (thash P w k) K ∉ t.place.toList) (inn : ∀ c, c < K → way t.mask (thash P w k) c ∈ t.place.toList) {Q : SetFound → Shared → Prop}
    (yes : k ∈ L.map (·.2) → Q (.there none) s) (no : k ∉ L.map (·.2) → Q (.free (way t.mask (thash P w k) K) false) s) :
    ∀ (f c : Nat) (o : Option SetTable.Probe), o.getD (t.probeStart (thash P w k)) = pos t (thash P w k) c → c ≤ K → K < c + f →
      (∀ (i : Nat) (p : Addr × List Int), L[i]? = some p → p.2 = k → ∃ d, c ≤ d ∧ d < K ∧ t.place.toList[i]? = some (way t.mask (thash P w k) d)) →
      wpAny (model P w) A (setSearchFrom a (.ref x) (thash P w k) true f o) Q E s := by
  obtain ⟨ob, gob, exo, dat⟩ := R.obj
  have tabl := R.tb
  intro f
  induction f with
  | zero => intro c o _ h1 h2; exact absurd h2 (by omega)
  | succ f ih =>
    intro c o ho hc hf past
    have sameHash : ∀ (i : Nat) (p : Addr × List Int), L[i]? = some p → (es[i]?.map (·.1)).getD 0 = thash P w p.2 := fun i p hp => by
      rw [R.ent hp] <;> rfl
    rw [setSearchFrom_succ]
    refine wpAny_bind (wpAny_setState_of gob dat R.ok ?_)
    refine wp_if_neg R.gv ?_
    have spec := go_spec t tabl.ris tabl.dm (fun i => (es[i]?.map (·.1)).getD 0) (thash P w k) (10 * SetTable.turns t.mask) (K - c) (pos t (thash P w k) c) (nth_dummy _ c _ rfl) (by omega)
      (fun d hd => by rw [pos_add, pos_way]; exact inn _ (by omega)) (by rw [pos_add, pos_way, show c + (K - c) = K by omega]; exact out)
    rcases spec with ⟨d, i, hd, hi, _, skip, hp⟩ | ⟨skip, hp⟩
    · rw [pos_add, pos_way] at hi
      rw [pos_add, pos_add, pos_way] at hp
      have found : t.probe (fun i => (es[i]?.map (·.1)).getD 0) (thash P w k) (o.getD (t.probeStart (thash P w k))) = some (.candidate (way t.mask (thash P w k) (c + d)) i (pos t (thash P w k) (c + (d + 1)))) := by
        rw [ho]
        exact hp
      rw [found]
      dsimp only
      have il : i < L.length := by
        have z1 := (List.getElem?_eq_some_iff.mp hi).1
        have z2 := tabl.sz
        rw [List.length_map] at z2
        rw [Array.length_toList] at z1
        omega
      obtain ⟨p, hpi⟩ : ∃ p, L[i]? = some p := ⟨_, List.getElem?_eq_getElem il⟩
      have pm : p ∈ L := List.mem_of_getElem? hpi
      have here : t.slot (way t.mask (thash P w k) (c + d)) = .live i := slot_live tabl.ris hi
      have rest : wpAny (model P w) A (searchRest a (.ref x) (thash P w k) true f es t (way t.mask (thash P w k) (c + d)) i (pos t (thash P w k) (c + (d + 1)))) Q E s := by
        unfold searchRest
        rw [R.ent hpi]
        dsimp only
        refine wpAny_bind (wpAny_holding (wpAny_eqBool_tuple hu (R.tups p pm) hx ?_))
        refine wpAny_bind (wpAny_setState_of gob dat R.ok ?_)
        dsimp only
        by_cases e : p.2 = k
        · refine wp_if_pos (by simp [e]) (wpAny_pure (yes ?_))
          exact List.mem_map.mpr ⟨p, pm, e⟩
        · refine wp_if_neg (by simp [e]) ?_
          rw [sameMem]
          simp only [if_true, here, R.ent hpi]
          refine wpAny_bind (wpAny_isSame_ref_self (wpAny_bind (wpAny_pure ?_)))
          simp only [if_true]
          refine wp_if_neg (by simp [e]) ?_
          refine ih (c + (d + 1)) _ rfl (by omega) (by omega) fun i0 p0 h0 e0 => ?_
          obtain ⟨d0, z1, z2, z3⟩ := past i0 p0 h0 e0
          refine ⟨d0, ?_, z2, z3⟩
          have hh : (es[i0]?.map (·.1)).getD 0 = thash P w k := by rw [sameHash i0 p0 h0, e0]
          rcases Nat.lt_trichotomy d0 (c + d) with y | y | y
          · refine absurd hh (skip (d0 - c) i0 (by omega) ?_)
            rw [pos_add, pos_way, show c + (d0 - c) = d0 by omega]
            exact z3
          · rw [y] at z3
            have live := slot_live tabl.ris z3
            rw [here] at live
            injection live with ei
            rw [← ei, hpi] at h0
            cases h0
            exact absurd e0 e
          · omega
      by_cases hl : t.led = true
      · exact wp_if_neg (by simp [hl]) rest
      · refine wp_if_pos (by simp [hl]) ?_
        refine wpAny_bind (seen_tup hx (fun y hy => ?_) ?_)
        · obtain ⟨e, he, rfl⟩ := List.mem_map.mp hy
          have e1 : e ∈ es ∧ e.1 = thash P w k := by simpa using he
          have e2 : e ∈ es.toList := by simpa using e1.1
          rw [R.ents] at e2
          obtain ⟨p2, hp2, rfl⟩ := List.mem_map.mp e2
          exact ⟨p2.2, p2.1, rfl, R.tups p2 hp2⟩
        · exact wp_if_neg (by decide) rest
    · rw [pos_add, show c + (K - c) = K by omega, pos_way] at hp
      have found : t.probe (fun i => (es[i]?.map (·.1)).getD 0) (thash P w k) (o.getD (t.probeStart (thash P w k))) = some (.empty (way t.mask (thash P w k) K) none) := by
        rw [ho]
        exact hp
      rw [found]
      refine wpAny_pure (no fun hm => ?_)
      obtain ⟨p0, h0, e0⟩ := List.mem_map.mp hm
      obtain ⟨i0, g0⟩ := List.mem_iff_getElem?.mp h0
      obtain ⟨d0, z1, z2, z3⟩ := past i0 p0 g0 e0
      refine skip (d0 - c) i0 (by omega) ?_ (by rw [sameHash i0 p0 g0, e0])
      rw [pos_add, pos_way, show c + (d0 - c) = d0 by omega]
      exact z3
end
end SW
namespace SW
open PySem PySem.Spec PyProof.Rows L2
section
variable {P : Program} {w : World} {A : Around} {E : Value → Shared → Prop} {s : Shared} {a : Addr} {L : List (Addr × List Int)} {es : Array (Int × Value)} {ep : Nat} {t : SetTable}
theorem find_at (R : SetW P w s.heap a L es ep t) {x : Addr} {k : List Int} (hx : IsT P w s.heap k x) (hu : A.units < cLine) {Q : SetFound → Shared → Prop} (yes : k ∈ L.map (·.2) → Q (.there none) s)
    (no : ∀ K, k ∉ L.map (·.2) → way t.mask (thash P w k) K ∉ t.place.toList → (∀ c, c < K → way t.mask (thash P w k) c ∈ t.place.toList) → Q (.free (way t.mask (thash P w k) K) false) s) :
    wpAny (model P w) A (setSearch a (.ref x) (thash P w k) true) Q E s := by
  have fr := R.free
  obtain ⟨K, kf, out, inn⟩ := R.tb.first (by rw [List.length_map]; omega) (thash P w k)
  have few : K < 100000 := by
    have z : SetTable.turns t.mask ≤ 142 := by
      unfold SetTable.turns
      rcases R.tb.mok with e | e | e <;> omega
    omega
  unfold setSearch
  refine find_from R hx hu kf out inn yes (fun h => no K h out inn) 100000 0 none rfl (Nat.zero_le _) (by omega) fun i p hp e => ?_
  have g1 : (L.map fun p => thash P w p.2)[i]? = some (thash P w k) := by rw [List.getElem?_map, hp, ← e] <;> rfl
  have il : i < t.place.toList.length := by
    have z1 := (List.getElem?_eq_some_iff.mp hp).1
    have z2 := R.tb.sz
    rw [List.length_map] at z2
    rw [Array.length_toList]
    omega
  obtain ⟨j, hj⟩ : ∃ j, t.place.toList[i]? = some j := ⟨_, List.getElem?_eq_getElem il⟩
  obtain ⟨c, hc, ec⟩ := R.tb.before out g1 hj
  exact ⟨c, Nat.zero_le _, hc, by rw [hj, ec]⟩
theorem put_in (R : SetW P w s.heap a L es ep t) {x : Addr} {k : List Int} (hx : IsT P w s.heap k x) (hu : A.units < cLine) (rm : (L.length + 1) * 5 < t.mask * 3) {Q : Bool → Shared → Prop}
    (hQ : ∀ b h' L' es' ep' t', Heap.SameBut a s.heap h' → SetW P w h' a L' es' ep' t' → (k ∈ L.map (·.2) → L' = L) → (k ∉ L.map (·.2) → L'.Perm ((x, k) :: L)) → Q b { s with heap := h' }) :
    wpAny (model P w) A (setAddHashed a (.ref x) (thash P w k)) Q E s := by
  obtain ⟨ob, gob, exo, dat⟩ := R.obj
  unfold setAddHashed
  refine wpAny_holding ?_
  rw [show (100000 : Nat) = 99999 + 1 from rfl, setAddHashedIn_succ]
  refine wpAny_bind (wpAny_setState_of gob dat R.ok ?_)
  refine wp_if_neg (by simp [byScan, Value.scannable]) ?_
  refine wpAny_bind (find_at R hx hu (fun hm => wpAny_pure (hQ false s.heap L es ep t (Heap.SameBut.refl a s.heap) R (fun _ => rfl) fun z => absurd hm z)) fun K hm out inn => ?_)
  refine wpAny_bind (wpAny_setState_of gob dat R.ok ?_)
  obtain ⟨c1, c2, c3, c4, c5, c6, c7, c8, c9⟩ := R.tb.put out inn
  dsimp only
  have pl1 : (t.put (way t.mask (thash P w k) K)).1.plain = true := by rw [c6]; exact R.pl
  generalize hput : t.put (way t.mask (thash P w k) K) = pp at c1 c3 c4 c5 c6 c7 c8 c9 pl1 ⊢
  obtain ⟨t1, j⟩ := pp
  dsimp only at c1 c3 c4 c5 c6 c7 c8 c9 pl1 ⊢
  subst c1
  refine wp_if_pos pl1 (wpAny_bind (hashBy_tup hx ?_))
  simp only [if_true]
  have rows1 : (SetTable.insertAt es (SetTable.below t.place (way t.mask (thash P w k) K)) (thash P w k, Value.ref x)).toList = rowsOf P w (L.take (SetTable.below t.place (way t.mask (thash P w k) K)) ++ (x, k) :: L.drop (SetTable.below t.place (way t.mask (thash P w k) K))) := by
    rw [SetTable.toList_insertAt, rows_put, R.ents]
  generalize SetTable.below t.place (way t.mask (thash P w k) K) = j at c2 c3 rows1 ⊢
  have perm1 := put_perm L j (x, k)
  have len1 : (L.take j ++ (x, k) :: L.drop j).length = L.length + 1 := perm1.length_eq
  have tb1 : TabOk t1 ((L.take j ++ (x, k) :: L.drop j).map fun p => thash P w p.2) := by
    rw [List.map_append, List.map_cons, List.map_take, List.map_drop]
    exact c3
  have one1 : ((L.take j ++ (x, k) :: L.drop j).map (·.2)).Nodup := by
    rw [(perm1.map (·.2)).nodup_iff, List.map_cons, List.nodup_cons]
    exact ⟨hm, R.one⟩
  generalize SetTable.insertAt es j (thash P w k, Value.ref x) = es1 at rows1 ⊢
  generalize L.take j ++ (x, k) :: L.drop j = L1 at perm1 len1 tb1 one1 rows1
  have cnt1 : es1.size = L.length + 1 := by
    rw [← Array.length_toList, rows1]
    unfold rowsOf
    rw [List.length_map, len1]
  refine wpAny_bind (wpAny_storeSet_of gob dat ?_ (by rw [cnt1, sizeLine_eq]; have := R.tb.mok; rcases this with e | e | e <;> omega))
  have sb : Heap.SameBut a s.heap (s.heap.update a (Obj.putSet es1 t1)) := Heap.SameBut.update ..
  have st := store_at (es' := es1) (t' := t1) gob dat
  generalize s.heap.update a (Obj.putSet es1 t1) = h1 at sb st ⊢
  have notfull : ¬ t1.tooFull = true := by
    unfold SetTable.tooFull
    rw [decide_eq_true_eq, c9, c4, List.length_map]
    omega
  refine wp_if_neg (by simp [notfull]) ?_
  refine wpAny_pure (hQ true h1 L1 es1 (ep + 1) t1 sb ⟨⟨_, st, ⟨exo.1, exo.2.1, exo.2.2⟩, rfl⟩, rows1, tb1, one1, fun p hp => ?_, pl1, by rw [c5]; exact R.lead, by rw [len1, c4]; exact rm⟩ (fun z => absurd z hm) fun _ => perm1)
  rcases List.mem_cons.mp (perm1.mem_iff.mp hp) with e | e
  · rw [e]
    exact isT_same hx gob dat sb
  · exact isT_same (R.tups p e) gob dat sb
theorem add_any (R : SetW P w s.heap a L es ep t) {x : Addr} {k : List Int} (hx : IsT P w s.heap k x) (hu : A.units < cLine) (hl : L.length ≤ 72) {Q : Bool → Shared → Prop}
    (hQ : ∀ b h' L' es' ep' t', Heap.SameBut a s.heap h' → SetW P w h' a L' es' ep' t' → (k ∈ L.map (·.2) → L' = L) → (k ∉ L.map (·.2) → L'.Perm ((x, k) :: L)) → Q b { s with heap := h' }) :
    wpAny (model P w) A (setAddHashed a (.ref x) (thash P w k)) Q E s := by
  by_cases c : L.length + 1 < 64
  · exact add_at (R.small (by omega)) hx hu c fun b h' L' es' ep' t' h1 h2 => hQ b h' L' es' ep' t' h1 (SetW.of (s := { s with heap := h' }) h2)
  · refine put_in R hx hu ?_ hQ
    have fr := R.free
    rcases R.tb.mok with e | e | e <;> rw [e] at fr ⊢ <;> omega
end
end SW
namespace SW
open PySem PySem.Spec PyProof.Rows L2
section
variable {P : Program} {w : World} {A : Around} {E : Value → Shared → Prop} {s : Shared}
theorem SetW.keep {h h' : Heap} {a : Addr} {L : List (Addr × List Int)} {es : Array (Int × Value)} {ep : Nat} {t : SetTable} (R : SetW P w h a L es ep t) (st : ∀ o, h.get? a = some o → h'.get? a = some o) (tt : ∀ p ∈ L, IsT P w h' p.2 p.1) : SetW P w h' a L es ep t :=
  let ⟨o, ho, r⟩ := R.obj
  ⟨⟨o, st o ho, r⟩, R.ents, R.tb, R.one, tt, R.pl, R.lead, R.free⟩
def News0 (P : Program) (w : World) (Z : Addr) (ks : List (Addr × List Int)) (i : Nat) (h : Heap) : Prop := ∃ L es ep t, SetW P w h Z L es ep t ∧ Got ks i L
/-- the loop of set.update, for up to 72 tuples -/
theorem upd_loop {I : Addr} {fp wr : List Addr} {G : Array GenState → Array GenState → Prop} {n : Nat} {Pv : Nat → Value → Prop} {St : Nat → Shared → Prop} {R : Result → Shared → Prop}
    (Wk : WalksS P w A.in1 I fp wr G n Pv St) (Z : Addr) (zf : Z ∉ fp) (ks : List (Addr × List Int)) (en : n = ks.length) (few : ks.length ≤ 72) (val : ∀ i v, Pv i v → ∃ p, ks[i]? = some p ∧ v = .ref p.1)
    (h0 : Heap) (kt : ∀ p ∈ ks, IsT P w h0 p.2 p.1) (z0 : h0.get? Z = none) (w0 : ∀ b ∈ wr, h0.get? b = none) (hu : A.in1.units < cLine) :
    ∀ (m i : Nat) (s : Shared), i + m = n → St i s → (∀ b o, h0.get? b = some o → s.heap.get? b = some o) → News0 P w Z ks i s.heap →
      (∀ s', Moved (Z :: wr) G s s' → News0 P w Z ks n s'.heap → (∀ b o, h0.get? b = some o → s'.heap.get? b = some o) → R (.ok (.ret .none)) s') →
      codeAny (model P w) A (.builtin "set.update.loop" ⟨[.ref Z, .ref I], []⟩) R s := by
  have zw : Z ∉ wr := fun h => zf (Wk.sub _ h)
  have wider : ∀ b ∈ wr, b ∈ Z :: wr := fun b hb => List.mem_cons_of_mem _ hb
  have still : ∀ {s s' : Shared}, Moved wr G s s' → (∀ b o, h0.get? b = some o → s.heap.get? b = some o) → ∀ b o, h0.get? b = some o → s'.heap.get? b = some o := by
    intro s s' mv kp b o e
    refine mv.heap b o (fun hb => ?_) (kp b o e)
    rw [w0 b hb] at e
    cases e
  intro m
  induction m with
  | zero =>
    intro i s im st kp ⟨L, es, ep, t, hS, g⟩ fin
    have ei : i = n := im
    subst ei
    refine codeAny_builtin F.entry_set_update_loop ?_
    rw [Around.under_plainId F.plain_set_update_loop _]
    show wpAny _ A.in1 (pyNext (.ref I) >>= _) _ _ s
    refine wpAny_bind (Wk.done s _ _ st fun s' mv => ?_)
    have kp' := still mv kp
    show wpAny _ A.in1 (ret Value.none) _ _ s'
    exact wpAny_pure (fin s' (mv.mono wider) ⟨L, es, ep, t, hS.keep (fun o e => mv.heap Z o zw e) fun p hp => isT_keep (kt p (List.mem_of_mem_take (g.sub p hp))) kp', g⟩ kp')
  | succ m ih =>
    intro i s im st kp ⟨L, es, ep, t, hS, g⟩ fin
    have less : i < n := by omega
    refine codeAny_builtin F.entry_set_update_loop ?_
    rw [Around.under_plainId F.plain_set_update_loop _]
    show wpAny _ A.in1 (pyNext (.ref I) >>= _) _ _ s
    refine wpAny_bind (Wk.item i s _ _ less st fun v s1 hP st1 mv => ?_)
    obtain ⟨p, hp, rfl⟩ := val i v hP
    have kp1 := still mv kp
    have hS1 : SetW P w s1.heap Z L es ep t := hS.keep (fun o e => mv.heap Z o zw e) fun q hq => isT_keep (kt q (List.mem_of_mem_take (g.sub q hq))) kp1
    have ip : IsT P w s1.heap p.2 p.1 := isT_keep (kt p (List.mem_of_getElem? hp)) kp1
    show wpAny _ A.in1 (holding [Value.ref p.1] (setAdd Z (.ref p.1)) >>= _) _ _ s1
    refine wpAny_bind (wpAny_holding ?_)
    unfold setAdd
    refine wpAny_holding (wpAny_bind (wpAny_pyHash_tuple hu ip ?_))
    have gl := g.len
    refine add_any (s := { s1 with toks := s1.toks + (p.2.length + 1) }) hS1 ip hu (by omega) fun b h2 L2 es2 ep2 t2 sb hS2 c1 c2 => ?_
    have g2 : Got ks (i + 1) L2 := by
      by_cases c : p.2 ∈ L.map (·.2)
      · rw [c1 c]
        exact g.same hp c
      · exact g.more hp (c2 c)
    have kp2 : ∀ b o, h0.get? b = some o → h2.get? b = some o := fun b o e => by
      rw [sb.2 b fun z => ?_]
      · exact kp1 b o e
      · rw [z, z0] at e
        cases e
    refine wpAny_pure ⟨plainId_quiet F.plain_set_update_loop _, ih (i + 1) _ (by omega) (Wk.frame _ s1 _ _ st1 (Nat.le_add_right _ _) fun b hb o e => ?_) kp2 ⟨L2, es2, ep2, t2, hS2, g2⟩ fun s3 mv3 n3 kp3 => fin s3 (Moved.trans Wk.gtrans ((mv.mono wider).then_heap (Nat.le_add_right _ _) fun b o hb e => ?_) mv3) n3 kp3⟩
    · rw [sb.2 b fun z => zf (z ▸ hb)]
      exact e
    · rw [sb.2 b fun z => hb (z ▸ List.mem_cons_self)]
      exact e
end
end SW
namespace SW
open PySem PySem.Spec PyProof.Rows L2
section
variable {P : Program} {w : World} {A : Around} {E : Value → Shared → Prop} {s : Shared}
set_option maxRecDepth 100000 in
set_option maxHeartbeats 3200000 in
/-- set(xs), xs a tuple of up to 72 tuples of ints -/
theorem call_setTup {l : Addr} {items : Array Value} (ks : List (Addr × List Int)) {Q : Value → Shared → Prop} (hh : A.handled = none) (hl : s.heap.IsTuple l items) (hit : items.toList = ks.map fun p => Value.ref p.1)
    (kt : ∀ p ∈ ks, IsT P w s.heap p.2 p.1) (few : ks.length ≤ 72) (hu : A.units + 3 < cLine)
    (h : ∀ (h' : Heap) (tk : Nat), News0 P w s.heap.objs.size ks ks.length h' → (∀ b o, s.heap.get? b = some o → h'.get? b = some o) → Q (.ref s.heap.objs.size) { s with heap := h', toks := tk }) :
    wpAny (model P w) A (call (.type "set") [Value.ref l]) Q E s := by
  have hisz : items.size = ks.length := by
    have q := congrArg List.length hit; rw [Array.length_toList, List.length_map] at q; exact q
  obtain ⟨c, tl, hmro⟩ := F.called_set.mro; have hmade := F.called_set.made; have hsub := F.called_set.sub
  refine wpAny_call (codeAny_of_tree ?_)
  show wpAny _ _ (callAny (.type "set") _) _ _ _
  refine wpAny_pure ⟨Code.quiet_builtin _ (show _ by decide +kernel), codeAny_builtin F.entry_type_call ?_⟩
  rw [Around.under_plain (weight_type_call_type "set" [Value.ref l] []) rfl]
  have h1 := F.called_set.notType; have h2 := F.called_set.canCreate; have hct := F.typeCall_set_1 (.ref l)
  repeat (any_goals (first | (assumption) | (wp_step)))
  refine codeAny_mono (code_set_led1 (.ref l) (E := E) (Q₁ := fun obj s₁ => obj = .ref s.heap.objs.size ∧ s₁ = { s with heap := s.heap.push (freshSet w) }) ⟨rfl, rfl⟩) fun r s₁ hr => ?_
  rcases r with e | fl
  · exact hr
  · cases fl with
    | ret obj =>
      obtain ⟨rfl, rfl⟩ := hr
      have hS : (s.heap.push (freshSet w)).get? s.heap.objs.size = some (freshSet w) := Heap.get?_push_size _ rfl
      have hT : Shared.TypeIs { s with heap := s.heap.push (freshSet w) } (.ref s.heap.objs.size) "set" := ⟨_, hS, rfl⟩
      have hli := F.called_set.init.lookup; have hbi := F.called_set.init.bind (.ref s.heap.objs.size)
      repeat (any_goals (first | (assumption) | (wp_step)))
      refine codeAny_mono (codeAny_call_builtin (R := wants (fun r s₂ => r = .none ∧ ∃ h' tk, s₂ = { s with heap := h', toks := tk } ∧ News0 P w s.heap.objs.size ks ks.length h' ∧ (∀ b o, s.heap.get? b = some o → h'.get? b = some o)) E)
        F.called_set.init.plain F.entry_set_init (check_set_init_1 hT ?_)) fun r₂ s₂ hr₂ => ?_
      · obtain ⟨⟨ocls, odict, odata, oslots⟩, hol, hcl, nl, hdl⟩ := hl
        simp only at hcl hdl
        subst hcl hdl
        have hol' : (s.heap.push (freshSet w)).get? l = some { cls := .type "tuple", dict := odict, data := .seq items nl, slots := oslots } := Heap.get?_push_of_some _ hol
        have hsls := F.sub_tuple_set; have hslf := F.sub_tuple_frozenset
        have hne : (Value.type "tuple" == Value.type "dict") = false := show _ by decide
        have hl1 : (s.heap.push (freshSet w)).IsTuple l items := ⟨_, hol', rfl, nl, rfl⟩
        unfold Builtin.«set.__init__»; unfold noKeywords; unfold Builtin.Frozenset.updateFrom
        generalize hPI : pyIter = PI
        wp_walk; subst hPI
        refine wpAny_pyIter_tuple hl1 ?_; refine wpAny_bind (wpAny_runValue ?_)
        have hlS : l < s.heap.objs.size := Heap.lt_size hol
        have hh3 : A.in1.in1.in1.handled = none := by simp [hh]
        have hneI : l ≠ (s.heap.push (freshSet w)).objs.size := by
          rw [Heap.size_push]; exact (Nat.ne_of_lt (Nat.lt_succ_of_lt hlS))
        have hSf : s.heap.objs.size ∉ [(s.heap.push (freshSet w)).objs.size, l] := by
          rw [Heap.size_push]; simp only [List.mem_cons, List.mem_singleton, List.not_mem_nil, or_false, not_or]; exact ⟨Nat.ne_of_lt (Nat.lt_succ_self _), Nat.ne_of_gt hlS⟩
        have none_of : ∀ b, s.heap.objs.size ≤ b → s.heap.get? b = none := fun b hb => by
          cases q : s.heap.get? b with
          | none => rfl
          | some o => exact absurd (Heap.lt_size q) (Nat.not_lt.mpr hb)
        have hval : ∀ (i : Nat) (v : Value), items[i]? = some v → ∃ p, ks[i]? = some p ∧ v = .ref p.1 := fun i v hv => by
          have q : items.toList[i]? = some v := by rw [Array.getElem?_toList]; exact hv
          rw [hit, List.getElem?_map] at q
          obtain ⟨p, hp, e⟩ := Option.map_eq_some_iff.mp q
          exact ⟨p, hp, e.symm⟩
        refine upd_loop ((Walks.tuple hh3 _ l hneI items).toS) s.heap.objs.size hSf ks hisz few hval s.heap kt (none_of _ (Nat.le_refl _)) (fun b hb => none_of b (by rw [List.mem_singleton.mp hb, Heap.size_push]; exact Nat.le_succ _)) hu
          items.size 0 _ (Nat.zero_add _) ⟨⟨_, Heap.get?_push_size _ rfl, rfl, rfl⟩, (hl1.push _)⟩ (fun b o e => Heap.get?_push_of_some _ (Heap.get?_push_of_some _ e)) ?hS0 ?hR
        case hS0 =>
          have hget : ((s.heap.push (freshSet w)).push { cls := .type "tuple_iterator", data := .fields #[.ref l, .int 0 0] }).get? s.heap.objs.size = some (freshSet w) := Heap.get?_push_of_some _ hS
          exact ⟨[], #[], 0, _, SetW.of (s := { s with heap := (s.heap.push (freshSet w)).push { cls := .type "tuple_iterator", data := .fields #[.ref l, .int 0 0] } }) (setTR_fresh hget), Got.zero ks⟩
        case hR =>
          intro s' hm nw kp
          obtain ⟨h', g2, d', tk', os'⟩ := s'
          have eg : g2 = s.gens := hm.gens; have ed : d' = s.drawn := hm.drawn; have eo : os' = s.os := hm.os
          subst eg ed eo
          show wpAny _ _ _ _ _ _; refine wpAny_pure ?_
          show wpAny _ _ (ret Value.none) _ _ _; rw [hisz] at nw
          exact wpAny_pure ⟨rfl, h', tk', rfl, nw, kp⟩
      · rcases r₂ with e | fl₂
        · exact hr₂
        · cases fl₂ with
          | ret r =>
            obtain ⟨rfl, h', tk, rfl, nw, kp⟩ := hr₂
            repeat (any_goals (first | (assumption) | (wp_step)))
            exact h _ _ nw kp
          | _ => exact (hr₂.elim)
    | _ => exact (hr.elim)
end
end SW
namespace SW
open PySem PySem.Spec PyProof.Rows L2 Law PySem.W
theorem perm_back {α β : Type} {f : α → β} {a b : List β} (h : a.Perm b) : ∀ l : List α, b = l.map f → ∃ m : List α, a = m.map f ∧ m.Perm l := by
  induction h with
  | nil =>
    intro l e
    cases l with
    | nil => exact ⟨[], rfl, .nil⟩
    | cons _ _ => cases e
  | cons x _ ih =>
    intro l e
    cases l with
    | nil => cases e
    | cons p l =>
      injection e with e1 e2
      obtain ⟨m, e3, pm⟩ := ih l e2
      exact ⟨p :: m, by rw [List.map_cons, e1, e3], pm.cons p⟩
  | swap x y t =>
    intro l e
    match l, e with
    | [], e => cases e
    | [_], e => cases e
    | p :: q :: l, e =>
      injection e with e1 e2
      injection e2 with e2 e3
      exact ⟨q :: p :: l, by rw [List.map_cons, List.map_cons, e1, e2, e3], .swap p q l⟩
  | trans _ _ ih1 ih2 =>
    intro l e
    obtain ⟨m, e1, pm⟩ := ih2 l e
    obtain ⟨n, e2, pn⟩ := ih1 m e1
    exact ⟨n, e2, pn.trans pm⟩
theorem reads_row {h : Heap} : ∀ {vs : List Value} {k : List Int}, IntsAre vs k → ReadsAll h vs (k.map PyData.int) []
  | _, _, .nil => .nil
  | _, _, .cons i t r => readsAll_cons_val (.int i t) (reads_row r)
theorem reads_isT {P : Program} {w : World} {h : Heap} {k : List Int} {a : Addr} (x : IsT P w h k a) : Reads h (.ref a) (tupD k) [] := by
  obtain ⟨o, its, n, ho, hc, hd, hi⟩ := x
  exact reads_tuple_at ho hc hd (reads_row (ints_of_items hi))
theorem merge_le {α : Type} (bs : List (α × List Int)) : (bs.mergeSort (dataLe false fun b => tupD b.2)).Pairwise fun a b => dataLt (tupD b.2) (tupD a.2) = false := by
  have T : TotalLe (dataLe false fun b : α × List Int => tupD b.2) := sortLe_total (listOrd itemOrd) false fun b : α × List Int => keyToks (tupD b.2)
  refine (List.pairwise_mergeSort T.trans (fun a b => by rcases T.total a b with h | h <;> rw [h] <;> simp) bs).imp fun {a b} h => ?_
  rw [dataLe_eq] at h
  cases q : dataLt (tupD b.2) (tupD a.2) with
  | false => rfl
  | true =>
    have h : (!dataLt (tupD b.2) (tupD a.2)) = true := h
    rw [q] at h
    cases h
theorem each_refs : ∀ {out : List Value} {bs : List (Addr × List Int)}, EachIs (fun v (b : Addr × List Int) => v = .ref b.1) out bs → out = bs.map fun b => Value.ref b.1 := by
  intro out bs h
  induction h with
  | nil => rfl
  | cons r _ ih => rw [List.map_cons, r, ih]
theorem refs_each : ∀ bs : List (Addr × List Int), EachIs (fun v (b : Addr × List Int) => v = .ref b.1) (bs.map fun b => Value.ref b.1) bs
  | [] => .nil
  | _ :: bs => .cons rfl (refs_each bs)
theorem each_with {α β : Type} {R R' : α → β → Prop} {xs : List α} {bs : List β} (h : EachIs R xs bs) (k : ∀ x b, b ∈ bs → R x b → R' x b) : EachIs R' xs bs := by
  induction h with
  | nil => exact .nil
  | cons r _ ih => exact .cons (k _ _ List.mem_cons_self r) (ih fun x b hb => k x b (List.mem_cons_of_mem _ hb))
section
variable {P : Program} {w : World} {A : Around} {E : Value → Shared → Prop} {s : Shared}
theorem sorted_setW {a : Addr} {L : List (Addr × List Int)} {es : Array (Int × Value)} {ep : Nat} {t : SetTable} {Q : Value → Shared → Prop} (R : SetW P w s.heap a L es ep t) (hh : A.handled = none) (hu : A.units + 5 < cLine)
    (nn : ∀ p ∈ L, p.2 ≠ []) (l72 : L.length ≤ 100)
    (hQ : ∀ s' p (M : List (Addr × List Int)) (c : Nat), (∀ b o, s.heap.get? b = some o → s'.heap.get? b = some o) → s'.gens = s.gens → s'.os = s.os → s.heap.objs.size ≤ p →
      s'.heap.get? p = some (seqObj "list" (M.map fun q => Value.ref q.1).toArray c) → M.Perm L → M.Pairwise (fun a b => dataLt (tupD b.2) (tupD a.2) = false) → Q (.ref p) s') :
    wpAny (model P w) A (call (.builtin "sorted") [.ref a]) Q E s := by
  obtain ⟨o, ho, hex, hd⟩ := R.obj
  have cnt := R.cnt
  refine Calls.call_function_entry kind_sorted plain_sorted entry_sorted (args_sorted1 _) ?_
  unfold Builtin.«sorted»
  refine wpAny_bind (m := checkCount "sorted" 1 1 _) (wpAny_pure ?_)
  refine wpAny_bind (collect_set (A := A.in1) hh ⟨o, ho, hex.1, hd⟩ R.ok (by unfold scanBound; omega) R.tb.ris R.lead fun s1 vs k1 hz g1 o1 pm => ?_)
  have hes : es.toList.map (·.2) = L.map fun q => Value.ref q.1 := by
    rw [R.ents]
    unfold L2.rowsOf
    rw [List.map_map] <;> rfl
  rw [hes] at pm
  obtain ⟨L1, rfl, p1⟩ := perm_back pm L rfl
  have len1 := p1.length_eq
  refine wpAny_bind (wpAny_newList ?_ (by rw [sizeLine_eq, List.length_map]; omega))
  have kp : ∀ b u, s.heap.get? b = some u → (s1.heap.push (seqObj "list" (L1.map fun q => Value.ref q.1).toArray 0)).get? b = some u := fun b u e => Heap.get?_push_of_some _ (k1 b u e)
  have hoL : (s1.heap.push (seqObj "list" (L1.map fun q => Value.ref q.1).toArray 0)).get? s1.heap.objs.size = some (seqObj "list" (L1.map fun q => Value.ref q.1).toArray 0) := Heap.get?_push_size _ rfl
  have enc : ∀ d ∈ L1.map (fun b => tupD b.2), ∃ b ∈ L, d = tupD b.2 := fun d hd => by
    obtain ⟨b, hb, rfl⟩ := List.mem_map.mp hd
    exact ⟨b, p1.mem_iff.mp hb, rfl⟩
  refine wpAny_bind (wpAny_holding (list_sort_data (s := { s1 with heap := s1.heap.push (seqObj "list" (L1.map fun q => Value.ref q.1).toArray 0) }) (bs := L1) (enc := fun b => tupD b.2) hoL (refs_each L1)
    (each_with (refs_each L1) fun v b hb e => ⟨[], ?_, List.not_mem_nil⟩) (fun d hd d' hd' => ?_) (.inl fun d hd => ?_) (by rw [sizeLine_eq]; omega) (fun b hb => ?_) fun out lo eo => ?_))
  · rw [e]
    exact reads_isT (P := P) (w := w) (isT_keep (R.tups b (p1.mem_iff.mp hb)) kp)
  · obtain ⟨b, _, rfl⟩ := enc d hd
    obtain ⟨b', _, rfl⟩ := enc d' hd'
    exact alike_tupD _ _
  · obtain ⟨b, hb, rfl⟩ := enc d hd
    have z := nn b hb
    unfold tupD
    cases h : b.2 with
    | nil => exact absurd h z
    | cons x r => exact ⟨_, _, rfl⟩
  · have z := (lay_tupD b.2).2
    have := Around.in1_units A
    omega
  · obtain ⟨c, hc⟩ := sortedHeap_at (vs := L1.map fun q => Value.ref q.1) (out := out.toArray) hoL
    have eout := each_refs eo
    rw [eout] at hc
    have pM := List.mergeSort_perm L1 (dataLe false fun b => tupD b.2)
    refine wpAny_pure ⟨_, rfl, hQ _ s1.heap.objs.size (L1.mergeSort (dataLe false fun b => tupD b.2)) c (fun b u e => ?_) g1 o1 hz (by rw [eout]; exact hc) (pM.trans p1) (merge_le L1)⟩
    have q := k1 b u e
    have lt := Heap.lt_size q
    show (sortedHeap (s1.heap.push (seqObj "list" (L1.map fun q => Value.ref q.1).toArray 0)) s1.heap.objs.size (L1.map fun q => Value.ref q.1) out.toArray).get? b = some u
    rw [sortedHeap_old (Nat.ne_of_lt lt) (by rw [size_push']; exact Nat.lt_succ_of_lt lt)]
    exact kp b u e
end
end SW
namespace L2
open PySem PySem.Spec PyProof.Rows Law
/-- sorted(set(xs)), xs a tuple of pairs -/
def tSortSet (K : PySem.W.Frag) (te : TE) : TE := fun σ H Q => te σ H fun x H1 => ∃ (s : Addr) (ws : List V) (cs : List (List Int)), x = .ref s ∧ SqT K H1 s ws ∧ AllIn (RowAt K H1) ws cs ∧ cs.length ≤ 70 ∧ (∀ c ∈ cs, c.length = 2 ∧ ∀ y ∈ c, 0 ≤ y ∧ y < 64) ∧
  ∀ (p : Addr) (us : List V) (ds : List (List Int)) (H2 : Hp), Same H1 H2 → H2 p = some (.lst us) → AllIn (RowAt K H2) us ds → ds.Pairwise lexL → (∀ c, c ∈ ds ↔ c ∈ cs) → Q (.ref p) H2
end L2
namespace L2
open PySem PySem.Spec PyProof.Rows Law PySem.W
theorem rows_keys {K : PySem.W.Frag} {H : Hp} : ∀ {ws : List V} {cs : List (List Int)}, AllIn (RowAt K H) ws cs → ∃ ks : List (Addr × List Int), ws = ks.map (fun p => V.ref p.1) ∧ cs = ks.map (·.2) ∧ ∀ p ∈ ks, SqT K H p.1 (p.2.map V.int)
  | [], [], _ => ⟨[], rfl, rfl, fun p hp => absurd hp List.not_mem_nil⟩
  | [], _ :: _, h => by cases h.1
  | _ :: _, [], h => by cases h.1
  | x :: ws, c :: cs, h => by
    obtain ⟨d, hd, a, rfl, ha⟩ := h.2 0 x rfl
    cases hd
    obtain ⟨ks, e1, e2, hk⟩ := rows_keys (K := K) (H := H) (ws := ws) (cs := cs) ⟨Nat.succ.inj h.1, fun i y hy => h.2 (i + 1) y hy⟩
    refine ⟨(a, c) :: ks, by rw [List.map_cons, e1], by rw [List.map_cons, e2], fun p hp => ?_⟩
    rcases List.mem_cons.mp hp with rfl | hp
    · exact ha
    · exact hk p hp
theorem keys_rows {K : PySem.W.Frag} {H : Hp} {ks : List (Addr × List Int)} (hk : ∀ p ∈ ks, SqT K H p.1 (p.2.map V.int)) : AllIn (RowAt K H) (ks.map fun p => V.ref p.1) (ks.map (·.2)) := by
  refine ⟨by rw [List.length_map, List.length_map], fun i x hx => ?_⟩
  rw [List.getElem?_map] at hx
  obtain ⟨p, hp, rfl⟩ := Option.map_eq_some_iff.mp hx
  exact ⟨p.2, by rw [List.getElem?_map, hp] <;> rfl, p.1, rfl, hk p (List.mem_of_getElem? hp)⟩
theorem lex_of_le {a b : List Int} (h : dataLt (tupD b) (tupD a) = false) (ne : a ≠ b) (la : a.length = 2) (lb : b.length = 2) : lexL a b := by
  match a, b, la, lb with
  | [x, y], [x', y'], _, _ =>
    have h : dataLt (.tuple [.int x', .int y']) (.tuple [.int x, .int y]) = false := h
    rw [dataLt_ii] at h
    have h := of_decide_eq_false h
    show x < x' ∨ (x = x' ∧ (y < y' ∨ (y = y' ∧ False)))
    have ne : ¬ (x = x' ∧ y = y') := fun z => ne (by rw [z.1, z.2])
    omega
theorem pe_sortSet {X : Cx} {e : Expr} {te : TE} {p p2 pos pos2 : Pos} (hc : X.calm = true) (hu : X.A.units + 65 < cLine) (hg : Gl X "set") (hm : X.mg "set" = none) (hg2 : Gl X "sorted") (hm2 : X.mg "sorted" = none) (he : PE X e te)
    (na : starEach [e] X.env = (false, eval e X.env) :: starEach [] X.env := by rfl) :
    PE X (.Call (.Name "sorted" p) [.Call (.Name "set" p2) [e] [] pos2] [] pos) (tSortSet X.K te) := by
  refine ⟨fun pins s σ H Q I h => ?_⟩
  refine Call_ (ld_blt I hg2 hm2 PyProof.Rows.boot_sorted ?_)
  refine PyProof.Rows.callWith_builtin1 (PyProof.Rows.args_cons ?_ rfl) rfl rfl
  refine Call_ (ld_blt I hg hm PyProof.Rows.boot_set ?_)
  refine PyProof.Rows.callWith_type1 (PyProof.Rows.args_cons (thn (he.run pins s σ H _ I h) fun v s1 ⟨x, H1, I1, r1, q1⟩ => PyProof.Rows.args_nil ?_) na) na rfl
  obtain ⟨a, ws, cs, rfl, ht, hA, l70, two, q⟩ := q1
  cases r1
  obtain ⟨its, rv, pt, _⟩ := I1.tuple ht
  obtain ⟨ks, rfl, rfl, hk⟩ := rows_keys hA
  rw [List.length_map] at l70
  refine SW.call_setTup (P := X.prog) (w := X.w) ks (I1.ok.hd hc) pt (by simpa using refs_of_vals rv) (fun p hp => I1.isT (hk p hp)) (by omega) (by omega) fun h' tk nw k => ?_
  obtain ⟨L, es, ep, t, R, g⟩ := nw
  refine PyProof.Rows.args_nil ?_
  have sub : ∀ p ∈ L, p ∈ ks := fun p hp => List.mem_of_mem_take (g.sub p hp)
  have all : ∀ p ∈ ks, p.2 ∈ L.map (·.2) := fun p hp => g.all p (by rw [List.take_length]; exact hp)
  have gl := g.len
  have I2 : Inv X pins σ H1 { s1 with heap := h', toks := tk } := I1.kept fun b o e => k b o e
  refine SW.sorted_setW (s := { s1 with heap := h', toks := tk }) R (I2.ok.hd hc) (by omega) (fun p hp z => ?_) (by omega) fun s' p M c kp eg eo hp hout pm pw => ?_
  · have := (two p.2 (List.mem_map.mpr ⟨p, sub p hp, rfl⟩)).1
    rw [z] at this
    cases this
  · have hn : H1 p = none := I2.hok.fresh hp
    have lM : M.length ≤ ks.length := by rw [pm.length_eq]; omega
    have hlen : (M.map fun q => V.ref q.1).length ≤ sizeLine := by rw [List.length_map, sizeLine_eq]; omega
    have J : Inv X pins σ (upd H1 p (.lst (M.map fun q => V.ref q.1))) { { s1 with heap := h', toks := tk } with heap := s'.heap, gens := s'.gens, drawn := s'.drawn, toks := s'.toks } :=
      I2.call (ch := []) (Un.laid kp hp hn) (I2.hok.laid kp hp ⟨hlen, _, c, vals_of_refs M, hout⟩) (by rw [eg]; exact I2.bare) (fun _ z => nomatch z)
    have e : s' = { { s1 with heap := h', toks := tk } with heap := s'.heap, gens := s'.gens, drawn := s'.drawn, toks := s'.toks } := by
      cases s'
      cases s1
      cases eo
      rfl
    rw [e]
    have inK : ∀ q ∈ M, q ∈ ks := fun q hq => sub q (pm.mem_iff.mp hq)
    have nd : (M.map (·.2)).Nodup := (pm.map (·.2)).nodup_iff.mpr R.one
    refine ⟨.ref p, _, J, rfl, q p (M.map fun q => V.ref q.1) (M.map (·.2)) _ (Same.new hn) upd_same (keys_rows fun q hq => (Same.new hn).sqT (hk q (inK q hq))) ?_ fun c => ?_⟩
    · have both := List.Pairwise.and pw (List.pairwise_map.mp nd)
      rw [List.pairwise_map]
      refine List.Pairwise.imp_of_mem (fun {a b} ha hb h => lex_of_le h.1 h.2 ?_ ?_) both
      · exact (two a.2 (List.mem_map.mpr ⟨a, inK a ha, rfl⟩)).1
      · exact (two b.2 (List.mem_map.mpr ⟨b, inK b hb, rfl⟩)).1
    · constructor
      · intro h
        obtain ⟨q, hq, rfl⟩ := List.mem_map.mp h
        exact List.mem_map.mpr ⟨q, inK q hq, rfl⟩
      · intro h
        obtain ⟨q, hq, rfl⟩ := List.mem_map.mp h
        exact (pm.map (·.2)).mem_iff.mpr (all q hq)
end L2
namespace L2
open PySem PySem.Spec PyProof.Rows Law
/-! ### ascending lots of couples -/
theorem lexLt_two {a b c d : Int} : HT.lexLt [a, b] [c, d] = true ↔ lexL [a, b] [c, d] := by
  have e : lexL [a, b] [c, d] ↔ (a < c ∨ (a = c ∧ b < d)) := by
    show (a < c ∨ (a = c ∧ (b < d ∨ (b = d ∧ False)))) ↔ _
    simp
  rw [e]
  unfold HT.lexLt
  by_cases h : a = c
  · rw [if_pos h]
    unfold HT.lexLt
    by_cases h2 : b = d
    · rw [if_pos h2]
      unfold HT.lexLt
      simp
      omega
    · rw [if_neg h2, decide_eq_true_iff]
      omega
  · rw [if_neg h, decide_eq_true_iff]
    omega
theorem ascB_iff : ∀ {cs : List (List Int)}, (∀ c ∈ cs, c.length = 2) → (ascB cs = true ↔ cs.Pairwise lexL)
  | [], _ => by simp [ascB]
  | [c], _ => by simp [ascB]
  | c :: d :: cs, h => by
    have ih := ascB_iff (cs := d :: cs) fun x hx => h x (List.mem_cons_of_mem _ hx)
    have e : ascB (c :: d :: cs) = (HT.lexLt c d && ascB (d :: cs)) := rfl
    have hc := h c List.mem_cons_self
    have hd := h d (by simp)
    match c, d, hc, hd with
    | [a, b], [a', b'], _, _ =>
      rw [e, Bool.and_eq_true, ih, lexLt_two, List.pairwise_cons (a := [a, b])]
      constructor
      · rintro ⟨h1, h2⟩
        refine ⟨fun x hx => ?_, h2⟩
        rcases List.mem_cons.mp hx with rfl | hx
        · exact h1
        · exact lexL_trans h1 ((List.pairwise_cons.mp h2).1 x hx)
      · rintro ⟨h1, h2⟩
        exact ⟨h1 _ List.mem_cons_self, h2⟩
theorem lexL_ext : ∀ {a b : List (List Int)}, a.Pairwise lexL → b.Pairwise lexL → (∀ k, k ∈ a ↔ k ∈ b) → a = b
  | [], [], _, _, _ => rfl
  | [], y :: b, _, _, h => absurd ((h y).mpr List.mem_cons_self) List.not_mem_nil
  | x :: a, [], _, _, h => absurd ((h x).mp List.mem_cons_self) List.not_mem_nil
  | x :: a, y :: b, ha, hb, h => by
    rw [List.pairwise_cons] at ha hb
    have exy : x = y := by
      rcases List.mem_cons.mp ((h x).mp List.mem_cons_self) with e | e
      · exact e
      rcases List.mem_cons.mp ((h y).mpr List.mem_cons_self) with e2 | e2
      · exact e2.symm
      exact absurd (lexL_trans (hb.1 x e) (ha.1 y e2)) (lexL_irr _)
    subst exy
    rw [lexL_ext ha.2 hb.2 fun k => ⟨fun hk => ?_, fun hk => ?_⟩]
    · rcases List.mem_cons.mp ((h k).mp (List.mem_cons_of_mem _ hk)) with e | e
      · exact absurd (ha.1 k hk) (by rw [e]; exact lexL_irr _)
      · exact e
    · rcases List.mem_cons.mp ((h k).mpr (List.mem_cons_of_mem _ hk)) with e | e
      · exact absurd (hb.1 k hk) (by rw [e]; exact lexL_irr _)
      · exact e
theorem eqv_lists (cs ds : List (List Int)) : PyData.eqv (.list (cs.map tupD)) (.list (ds.map tupD)) = decide (cs = ds) := by
  rw [PyData.eqv]
  exact eqvAll_map tupD eqv_tupD cs ds
end L2
namespace Law
open PySem L2
theorem asc_eq {cs ds : List (List Int)} (h2 : ∀ c ∈ cs, c.length = 2) (hd : ds.Pairwise lexL) (hm : ∀ c, c ∈ ds ↔ c ∈ cs) : decide (cs = ds) = ascB cs := by
  cases h : ascB cs with
  | true => exact decide_eq_true (lexL_ext ((ascB_iff h2).mp h) hd fun k => (hm k).symm)
  | false =>
    refine decide_eq_false fun e => ?_
    rw [← e] at hd
    rw [(ascB_iff h2).mpr hd] at h
    cases h
def goodP (n : Nat) (p : P1) : Bool := pairW n p && decide ((cOf p).getD 0 0 < (cOf p).getD 1 0)
theorem good_all (n : Nat) : ∀ l : List P1, l.all (goodP n) = (l.all (pairW n) && coB (l.map cOf))
  | [] => rfl
  | p :: l => by
    have e : coB ((p :: l).map cOf) = (decide ((cOf p).getD 0 0 < (cOf p).getD 1 0) && coB (l.map cOf)) := rfl
    rw [List.all_cons, List.all_cons, good_all n l, e]
    unfold goodP
    cases pairW n p <;> cases decide ((cOf p).getD 0 0 < (cOf p).getD 1 0) <;> simp
theorem book_eq (n : Nat) (Ls : List (List Int)) (l : List P1) : bookB n Ls (.tup l) = (l.all (goodP n) && ascB (l.map cOf) && decide (0 < l.length) && keptB Ls (l.map cOf)) := by
  have e : bookB n Ls (.tup l) = ((l.all (pairW n) && ascB (l.map cOf)) && coB (l.map cOf) && (decide (0 < l.length) && keptB Ls (l.map cOf))) := rfl
  rw [e, good_all]
  cases l.all (pairW n) <;> cases ascB (l.map cOf) <;> cases coB (l.map cOf) <;> simp
section
variable {P : Program} {w : World} {K : PySem.W.Frag} {mg : Str → Option Value} {base : Heap}
def spLBook (K : PySem.W.Frag) : Sp := fun vs H Q _ => ∃ (x : V) (mv : Addr) (many : Nat) (ms : List Mv) (p : P2), vs = [.int (many : Nat), .ref mv, x] ∧ MvsAt K H mv ms ∧ many ≤ 12 ∧ ms.length ≤ 24 ∧ (∀ m ∈ ms, MvOk many m) ∧ At2 K H x p ∧ (∀ l, p = .tup l → l.length ≤ 70) ∧ ∀ H', Same H H' → Q (.bl (bookB many (LsOf ms) p)) H'
abbrev nLawIsBook : List Str := ["_law_many", "_law_moves_here", "_law_thing", "_law_pair", "_law_end", "_law_share", "_law_leads_here"]
theorem scLawIsBook : FnScope nLawIsBook ["_law_many", "_law_moves_here", "_law_thing"] (defScope s_law_is_book) := ⟨rfl, rfl, rfl, by decide +kernel, rfl, by decide +kernel, by decide +kernel⟩
theorem ok_lbook {f : Addr} {fd : FuncData} {fcLed0 : Addr} {fdcLed0 : FuncData} (F : Fun K "_law_is_book" "_law_is_book" s_law_is_book f fd) (T : NmA mg) (cLed0 : Cl P w K mg base CX0 1 "_law_led" fcLed0 fdcLed0 ["_law_leads_here", "_law_lot"] (spLotLed K)) : FnOk P w K mg base CX0 2 f fd ["_law_many", "_law_moves_here", "_law_thing"] (spLBook K) := by
  refine F.ok scLawIsBook (fun vs H Q E h => ?_) (fun cdv A' outer s H vs Q E hr h => ?_)
  · obtain ⟨x, mv, many, ms, p, rfl, _⟩ := h
    rfl
  · obtain ⟨x, mv, many, ms, p, rfl, hM, m12, ml, mo, hA, hl70, k⟩ := h
    have hu := hu_of hr
    refine ⟨_, pss_cons (ps_if (PW.pt (pw_or (pt_not (pt_val (pe_callB call_isi (by rfl) T.isi (by decide +kernel) (pa_cons (pv 2) (pa_cons (pe_bltn (v := .ty "tuple") (u := .type "tuple") (by rfl) T.tuple (by decide +kernel) rfl) pa_nil))))) (pw_or1 (pt_cmpR op_eq (pe_callB call_len_seq (by rfl) T.len PySem.boot_len (pa_cons (pv 2) pa_nil)) pe_int (nomark _)))))
        (pss_one (ps_ret pe_bl)) pss_nil)
      (pss_cons (ps_for PassesOwn.never rfl (pi_tup (pv 2)) (pg_name (i := 3) scLawIsBook.nd rfl (Or.inr rfl))
        (pss_cons (ps_if (PW.pt (pw_or (pt_not (pt_val (pe_callB call_isi (by rfl) T.isi (by decide +kernel) (pa_cons (pv 3) (pa_cons (pe_bltn (v := .ty "tuple") (u := .type "tuple") (by rfl) T.tuple (by decide +kernel) rfl) pa_nil))))) (pw_or1 (pt_cmpR op_ne (pe_callB call_len_seq (by rfl) T.len PySem.boot_len (pa_cons (pv 3) pa_nil)) pe_int (nomark _)))))
          (pss_one (ps_ret pe_bl)) pss_nil)
        (pss_cons (ps_if (pt_not (pt_val (pe_callB (cr_all rfl) (by rfl) T.all (by decide +kernel) (pa_cons (pe_lc (own := [("_law_end", 4)]) (g := (gName 4)) (tt := tYes) rfl scLawIsBook.nd  (pi_tup (pv 3)) (blkOk_by (own := [("_law_end", 4)]) (N := nLawIsBook) (sc := defScope s_law_is_book) (by decide +kernel)) (fun _ _ _ _ _ => (pg_name (i := 4) scLawIsBook.nd rfl (Or.inl rfl))) (fun _ _ _ _ _ => pts_nil) (fun _ _ _ _ _ => (pe_and (pe_callB (r := rIsi K) (show CallR _ (.builtin "isinstance") (rIsi K) from call_isi) (by rfl) T.isi (by decide +kernel) (pa_cons (pv 4) (pa_cons (pe_bltn (v := .ty "int") (u := .type "int") (by rfl) T.int (by decide +kernel) rfl) pa_nil))) (pe_and (pe_not (pe_callB (r := rIsi K) (show CallR _ (.builtin "isinstance") (rIsi K) from call_isi) (by rfl) T.isi (by decide +kernel) (pa_cons (pv 4) (pa_cons (pe_bltn (v := .ty "bool") (u := .type "bool") (by rfl) T.bool (by decide +kernel) rfl) pa_nil)))) (pe_one (pe_chain op_le op_lt pe_int (pv 4) (pv 0))))))) pa_nil))))
          (pss_one (ps_ret pe_bl)) pss_nil)
        (pss_one (ps_if (pt_cmpR op_ge (pe_ix ix_tup (pv 3) pe_int (fun _ _ => rfl)) (pe_ix ix_tup (pv 3) pe_int (fun _ _ => rfl)) (nomark _))
          (pss_one (ps_ret pe_bl)) pss_nil)))))
      (pss_cons (ps_if (pt_cmpR (op_neD hr.units) (pe_callTy call_list_of (by rfl) T.list (by decide +kernel) (pa_cons (pv 2) pa_nil)) (pe_sortSet rfl (units65 hr) (by rfl) T.set (by rfl) T.sorted (pv 2)) (nomark _))
        (pss_one (ps_ret pe_bl)) pss_nil)
      (pss_cons (ps_for PassesOwn.never rfl (pi_tup (pv 2)) (pg_name (i := 3) scLawIsBook.nd rfl (Or.inr rfl))
        (pss_one (ps_if (pt_not (pt_val (pe_callB (cr_all rfl) (by rfl) T.all (by decide +kernel) (pa_cons (pe_lc (own := [("_law_share", 5), ("_law_leads_here", 6)]) (g := (gTup K 2 (gCons (gName 5) (gCons (gName 6) gNil)))) (tt := tYes) rfl scLawIsBook.nd  (pi_tup (pv 1)) (blkOk_by (own := [("_law_share", 5), ("_law_leads_here", 6)]) (N := nLawIsBook) (sc := defScope s_law_is_book) (by decide +kernel)) (fun _ _ _ _ _ => (pg_tup (by rfl) (pgs_cons (pg_name (i := 5) scLawIsBook.nd rfl (Or.inl rfl)) (pgs_cons (pg_name (i := 6) scLawIsBook.nd rfl (Or.inl rfl)) pgs_nil)))) (fun _ _ _ _ _ => pts_nil) (fun _ _ _ _ _ => (pe_cmpR (r := rInDT K) (show OpR _ (compareOp .In) (rInDT K) from op_inDT (units65 hr)) (cLed0.call (hr.mono (by decide)) (pa_cons (pv 6) (pa_cons (pv 3) pa_nil))) (pv 2) (by rfl)))) pa_nil))))
          (pss_one (ps_ret pe_bl)) pss_nil)))
      (pss_one (ps_ret pe_bl))))), ?_⟩
    obtain ⟨us, hV, hU⟩ := id hM
    cases p with
    | odd =>
      obtain ⟨t, h1, h2⟩ := hA
      refine ⟨_, rfl, _, _, _, _, _, rfl, .ty "tuple", h1, h2, _, rfl, iteT ?_⟩
      exact k H (Same.refl H)
    | tup l =>
      obtain ⟨s, ws, rfl, hT, aS, hl⟩ := hA
      have l70 := hl70 l rfl
      have wl := aS.1
      have eb := book_eq many (LsOf ms) l
      refine ⟨_, rfl, _, _, _, _, _, rfl, .ty "tuple", tyx_tup hT, kit_tt, _, rfl, iteF ?_⟩
      refine ⟨_, rfl, s, _, rfl, .inr hT, rfl, _, rfl, ?_⟩
      rw [dec_int]
      refine ite2 (fun c => ?_) (fun c => ?_)
      · have c : (ws.length : Int) = 0 := eq_of_beq c
        rw [decide_eq_false (show ¬ 0 < l.length by omega), Bool.and_false, Bool.false_and] at eb
        rw [eb] at k
        exact k H (Same.refl H)
      have l0 : 0 < l.length := by
        have c : ¬ (ws.length : Int) = 0 := fun z => c (beq_iff_eq.mpr z)
        omega
      rw [decide_eq_true l0, Bool.and_true] at eb
      refine ⟨_, rfl, s, rfl, ⟨_, hT⟩, ?_⟩
      refine for_tup (K := K) (a := s) (xs := ws) (fun i σ H' => Same H H' ∧ (∀ p ∈ l.take i, goodP many p = true) ∧ ∃ u v w' z : Option V, σ = [some (.int (many : Int)), some (.ref mv), some (.ref s), u, v, w', z]) ⟨Same.refl H, fun p hp => absurd hp List.not_mem_nil, none, none, none, none, rfl⟩ (fun i σ H' _ h => h.1.sqT hT) ?_ ?_
      · rintro i x σ H1 hi ⟨s1, gd, u, v, w', z, rfl⟩
        obtain ⟨p, hp, ha⟩ := aS.2 i x hi
        have pm := List.mem_of_getElem? hp
        have ha1 := ha.same s1
        have bad : goodP many p = false → ∀ H', Same H H' → Q (.bl false) H' := fun e H' s' => by
          have z : l.all (goodP many) = false := by
            rw [List.all_eq_false]
            exact ⟨p, pm, by rw [e]; decide⟩
          rw [z, Bool.false_and, Bool.false_and] at eb
          rw [eb] at k
          exact k H' s'
        have bad1 : pairW many p = false → goodP many p = false := fun e => by unfold goodP; rw [e, Bool.false_and]
        cases p with
        | odd =>
          obtain ⟨t, h1, h2⟩ := ha1
          refine ⟨_, rfl, _, _, _, _, _, rfl, .ty "tuple", h1, h2, _, rfl, iteT ?_⟩
          exact bad rfl H1 s1
        | tup xs =>
          obtain ⟨a, rfl, hS, hz, hx⟩ := ha1
          refine ⟨_, rfl, _, _, _, _, _, rfl, .ty "tuple", tyx_tup hS, kit_tt, _, rfl, iteF ?_⟩
          refine ⟨_, rfl, a, _, rfl, .inr hS, rfl, _, rfl, ?_⟩
          rw [dec_two]
          refine ite2 (fun c => ?_) (fun c => ?_)
          · have c : (xs.length == 2) = false := by cases h : (xs.length == 2) with
              | false => rfl
              | true => rw [h] at c; cases c
            refine bad (bad1 ?_) H1 s1
            show (xs.length == 2 && xs.all (isW 0 ((many : Int) - 1))) = false
            rw [c, Bool.false_and]
          have c2 : (xs.length == 2) = true := by cases h : (xs.length == 2) with
            | true => rfl
            | false => rw [h] at c; exact absurd rfl c
          refine ⟨_, rfl, a, rfl, ⟨_, hS⟩, fun D hD => ?_⟩
          refine lc_tup (K := K) (a := a) (xs := xs) (fun j H' => Same H1 H' ∧ H' D = some (.lst (((xs.map (isW 0 ((many : Int) - 1))).take j).map V.bl))) ⟨Same.new hD, upd_same⟩ (fun j H' _ h => h.1.sqT hS) (fun j y H2 hj g => ?_) fun H2 g => ?_
          · obtain ⟨s2, d2⟩ := g
            have jl := (List.getElem?_eq_some_iff.mp hj).1
            have put : ∀ v : Bool, isW 0 ((many : Int) - 1) y = v → ∃ acc, H2 D = some (.lst acc) ∧ acc.length < sizeLine ∧ Same H1 (upd H2 D (.lst (acc ++ [V.bl v]))) ∧ (upd H2 D (.lst (acc ++ [V.bl v]))) D = some (.lst (((xs.map (isW 0 ((many : Int) - 1))).take (j + 1)).map V.bl)) := fun v e => by
              refine ⟨_, d2, by rw [List.length_map, List.length_take, sizeLine_eq]; omega, s2.mut hD, ?_⟩
              have e2 : (xs.map (isW 0 ((many : Int) - 1)))[j]? = some v := by rw [List.getElem?_map, hj, ← e] <;> rfl
              rw [upd_same, List.take_add_one, e2, List.map_append] <;> rfl
            rcases hx y (List.mem_of_getElem? hj) with ⟨q, rfl⟩ | ⟨bi, bb, ⟨t, ty, h1, h2⟩, hb, hw⟩
            · refine ⟨rfl, _, rfl, _, _, _, _, _, rfl, .ty "int", .base (.int q), kit_ty (r := true) (by decide +kernel), _, rfl, iteT ?_⟩
              refine ⟨_, rfl, _, _, _, _, _, rfl, .ty "bool", .base (.int q), kit_ty (r := false) (by decide +kernel), _, rfl, true, rfl, iteT ?_⟩
              have ew : isW 0 ((many : Int) - 1) (.int q) = (decide (0 ≤ q) && decide (q ≤ (many : Int) - 1)) := rfl
              refine ⟨_, rfl, _, _, rfl, rfl, _, rfl, ite2 (fun c4 => ?_) (fun c4 => ?_)⟩
              · refine ⟨_, rfl, _, _, rfl, rfl, put _ ?_⟩
                rw [ew, c4, Bool.true_and]
                exact decide_eq_decide.mpr (by omega)
              · rw [Bool.not_eq_true] at c4
                exact put _ (by rw [ew, c4, Bool.false_and])
            · have ty2 := ty.same s2
              have w0 := hw 0 ((many : Int) - 1)
              cases bi with
              | false =>
                refine ⟨rfl, _, rfl, _, _, _, _, _, rfl, .ty "int", ty2, h1, _, rfl, iteF ?_⟩
                exact put _ w0
              | true =>
                have hbb : bb = true := by
                  cases bb with
                  | true => rfl
                  | false => cases hb
                subst hbb
                refine ⟨rfl, _, rfl, _, _, _, _, _, rfl, .ty "int", ty2, h1, _, rfl, iteT ?_⟩
                refine ⟨_, rfl, _, _, _, _, _, rfl, .ty "bool", ty2, h2, _, rfl, false, rfl, iteF ?_⟩
                exact put _ w0
          · obtain ⟨s2, d2⟩ := g
            rw [List.take_of_length_le (l := xs.map (isW 0 ((many : Int) - 1))) (by rw [List.length_map]; exact Nat.le_refl _)] at d2
            refine ⟨D, _, rfl, SqL.of d2, _, rfl, ?_⟩
            have e : (xs.map (isW 0 ((many : Int) - 1))).all id = xs.all (isW 0 ((many : Int) - 1)) := by rw [List.all_map] <;> rfl
            rw [e]
            have ep : pairW many (.tup xs) = xs.all (isW 0 ((many : Int) - 1)) := by
              show (xs.length == 2 && xs.all (isW 0 ((many : Int) - 1))) = _
              rw [c2, Bool.true_and]
            have s12 := s1.trans s2
            cases hall : xs.all (isW 0 ((many : Int) - 1)) with
            | false =>
              refine iteT ?_
              exact bad (bad1 (by rw [ep, hall])) H2 s12
            | true =>
              refine iteF ?_
              obtain ⟨u0, v0, e0, e1, e2⟩ := pair_ok (p := .tup xs) (ep.trans hall)
              cases e0
              refine ⟨_, rfl, a, _, (0 : Int), _, rfl, rfl, s2.sqT hS, rfl, _, rfl, a, _, (1 : Int), _, rfl, rfl, s2.sqT hS, rfl, _, _, rfl, rfl, _, rfl, ite2 (fun c3 => ?_) (fun c3 => ?_)⟩
              · have c3 := of_decide_eq_true c3
                refine bad ?_ H2 s12
                show (pairW many (.tup [.int u0, .int v0]) && decide (u0 < v0)) = false
                rw [decide_eq_false (by omega), Bool.and_false]
              · have c3 : ¬ v0 ≤ u0 := fun z => c3 (decide_eq_true z)
                refine ⟨s12, fun q hq => ?_, _, _, _, _, rfl⟩
                rw [List.take_add_one, hp] at hq
                rcases List.mem_append.mp hq with h | h
                · exact gd q h
                · rw [List.mem_singleton.mp h]
                  show (pairW many (.tup [.int u0, .int v0]) && decide (u0 < v0)) = true
                  rw [ep, hall, decide_eq_true (by omega)] <;> rfl
      · rintro σ H1 ⟨s1, gd, u, v, w', z, rfl⟩
        rw [wl, List.take_length] at gd
        have gall : l.all (goodP many) = true := List.all_eq_true.mpr gd
        have pall : l.all (pairW many) = true := by
          rw [good_all, Bool.and_eq_true] at gall
          exact gall.1
        rw [gall, Bool.true_and] at eb
        have aR1 : AllIn (RowAt K H1) ws (l.map cOf) := pairs_rows (aS.mono fun _ _ => At1.same s1) pall
        have pin := pairs_in pall
        have two : ∀ c ∈ l.map cOf, c.length = 2 := fun c hc => by
          obtain ⟨a, b, rfl, _⟩ := pin c hc
          rfl
        refine ⟨_, rfl, s, ws, rfl, .inr (s1.sqT hT), fun L hL => ?_⟩
        refine new_step hL fun H2 s2 e2 => ?_
        have s12 := s1.trans s2
        have aR2 := aR1.mono fun _ _ z => RowAt.same s2 z
        refine ⟨_, rfl, s, ws, l.map cOf, rfl, s12.sqT hT, aR2, by rw [List.length_map]; exact l70, fun c hc => ⟨two c hc, fun y hy => ?_⟩, fun p5 us5 ds H3 s3 e3 A3 asc mem => ?_⟩
        · obtain ⟨a, b, rfl, hi⟩ := pin c hc
          have := hi y hy
          omega
        refine ⟨.list ((l.map cOf).map tupD), .list (ds.map tupD), .lst (SqL.of (s3 _ _ e2)) (dp_all (g := tupD) (R := RowAt K H3) (fun _ _ => dp_row) (aR2.mono fun _ _ => RowAt.same s3)), .lst (SqL.of e3) (dp_all (g := tupD) (R := RowAt K H3) (fun _ _ => dp_row) A3), sh_lst _, sh_lst _, _, rfl, ?_⟩
        rw [eqv_lists, asc_eq two asc mem]
        have s13 := s12.trans s3
        cases hasc : ascB (l.map cOf) with
        | false =>
          rw [hasc, Bool.false_and] at eb
          rw [eb] at k
          exact iteT (k H3 s13)
        | true =>
        rw [hasc, Bool.true_and] at eb
        rw [eb] at k
        refine iteF ⟨_, rfl, s, rfl, ⟨_, s13.sqT hT⟩, ?_⟩
        have aR3 := aR2.mono fun _ _ z => RowAt.same s3 z
        have rl : (l.map cOf).length ≤ 70 := by rw [List.length_map]; exact l70
        refine for_tup (K := K) (a := s) (xs := ws) (fun i σ H' => Same H3 H' ∧ (∀ c ∈ (l.map cOf).take i, (LsOf ms).all (fun xs => decide (leadsF xs c ∈ l.map cOf)) = true) ∧ ∃ u v w' z : Option V, σ = [some (.int (many : Int)), some (.ref mv), some (.ref s), u, v, w', z]) ⟨Same.refl H3, fun p hp => absurd hp List.not_mem_nil, u, v, w', z, rfl⟩ (fun i σ H' _ h => h.1.sqT (s13.sqT hT)) ?_ ?_
        · rintro i x σ H4 hi ⟨s4, gd4, u, v, w', z, rfl⟩
          have s14 := s13.trans s4
          have aR4 := aR3.mono fun _ _ z => RowAt.same s4 z
          obtain ⟨c, hc, a, rfl, ha⟩ := aR4.2 i x hi
          have cm := List.mem_of_getElem? hc
          obtain ⟨c0, c1, rfl, cN⟩ := pin c cm
          refine ⟨_, rfl, mv, rfl, ⟨_, s14.sqT hV⟩, fun B hB => ?_⟩
          refine lpG (walk_tup (K := K) (a := mv) (xs := us)) (fun j H' => Same H4 H' ∧ H' B = some (.lst (((rowB (LsOf ms) (l.map cOf) [c0, c1]).take j).map V.bl))) ⟨Same.new hB, upd_same⟩ (fun j H' _ h => (s14.trans h.1).sqT hV) (fun j z H5 H5' hj g y => ?_) fun H5 g => ?_
          · obtain ⟨rfl, hz⟩ := y
            obtain ⟨s5, b5⟩ := g
            obtain ⟨m, hm, aa, sa, la, rfl, h3, h4, h5⟩ := hU.2 j z hz
            obtain ⟨_, _, _, m1, m2⟩ := mo m (List.mem_of_getElem? hm)
            have jl := (List.getElem?_eq_some_iff.mp hm).1
            have s15 := s14.trans s5
            refine ⟨aa, _, rfl, s15.sqT h3, rfl, _, _, rfl, _, _, rfl, rfl, ?_⟩
            refine ⟨rfl, _, rfl, _, rfl, la, a, m.2, [c0, c1], rfl, s15.sqT h5, s5.sqT ha, by show 2 ≤ 12; decide, fun s hs => by rw [m1]; exact cN s hs, fun s hs => by have := m2 s hs; omega, fun l6 H6 s6 e6 => ?_⟩
            have s46 := s5.trans s6
            refine ⟨_, rfl, tupD (leadsF m.2 [c0, c1]), (l.map cOf).map tupD, .tup (SqT.of e6) (dp_ints _), .tup ((s14.trans s46).sqT hT) (dp_all (g := tupD) (R := RowAt K H6) (fun _ _ => dp_row) (aR4.mono fun _ _ => RowAt.same s46)), sh_tup _, sh_ttt _, ?_⟩
            refine ⟨_, s6 _ _ b5, ?_, s46.mut hB, ?_⟩
            · rw [List.length_map, List.length_take, sizeLine_eq]
              unfold LsOf rowB
              rw [List.length_map, List.length_map]
              omega
            · have e : (rowB (LsOf ms) (l.map cOf) [c0, c1])[j]? = some (decide (leadsF m.2 [c0, c1] ∈ l.map cOf)) := by
                unfold rowB LsOf
                rw [List.getElem?_map, List.getElem?_map, hm] <;> rfl
              rw [upd_same, any_tup, List.take_add_one (i := j), e, List.map_append] <;> rfl
          · obtain ⟨s5, b5⟩ := g
            rw [List.take_of_length_le (l := rowB (LsOf ms) (l.map cOf) [c0, c1]) (by unfold rowB LsOf; rw [List.length_map, List.length_map, hU.1]; exact Nat.le_refl _)] at b5
            refine ⟨B, _, rfl, SqL.of b5, _, rfl, ?_⟩
            have ef : (rowB (LsOf ms) (l.map cOf) [c0, c1]).all id = (LsOf ms).all fun xs => decide (leadsF xs [c0, c1] ∈ l.map cOf) := by
              unfold rowB
              rw [List.all_map] <;> rfl
            rw [ef]
            cases hk : (LsOf ms).all fun xs => decide (leadsF xs [c0, c1] ∈ l.map cOf) with
            | false =>
              have kf : keptB (LsOf ms) (l.map cOf) = false := by
                unfold keptB
                rw [List.all_eq_false]
                exact ⟨_, cm, by rw [hk]; decide⟩
              rw [kf] at k
              exact iteT (k H5 (s14.trans s5))
            | true =>
              refine iteF ⟨s4.trans s5, fun q hq => ?_, _, _, _, _, rfl⟩
              rw [List.take_add_one, hc] at hq
              rcases List.mem_append.mp hq with h | h
              · exact gd4 q h
              · rw [List.mem_singleton.mp h]
                exact hk
        · rintro σ H4 ⟨s4, gd4, u, v, w', z, rfl⟩
          have cl : ws.length = (l.map cOf).length := aR3.1
          rw [cl, List.take_length] at gd4
          have kt : keptB (LsOf ms) (l.map cOf) = true := List.all_eq_true.mpr gd4
          rw [kt] at k
          exact k H4 (s13.trans s4)
end
end Law

namespace L2
open PySem PySem.Spec PyProof.Rows Law PySem.W
/-! ### sorted of a list of rows of ints -/
theorem eachAt {α β : Type} {R : α → β → Prop} {out : List α} {bs : List β} (h : EachIs R out bs) : out.length = bs.length ∧ ∀ (i : Nat) (b : β), bs[i]? = some b → ∃ v, out[i]? = some v ∧ R v b := by
  induction h with
  | nil => exact ⟨rfl, fun i b hb => by simp at hb⟩
  | cons r _ ih =>
    refine ⟨by rw [List.length_cons, List.length_cons, ih.1], fun i b hb => ?_⟩
    cases i with
    | zero =>
      cases hb
      exact ⟨_, rfl, r⟩
    | succ i => exact ih.2 i b hb
theorem eachOf {R : Value → V × List Int → Prop} : ∀ {xs : List V} {cs : List (List Int)} {us : List Value}, Vals xs us → xs.length = cs.length → (∀ (i : Nat) x c u, xs[i]? = some x → cs[i]? = some c → RelV x u → R u (x, c)) → EachIs R us (xs.zip cs)
  | [], [], _, r, _, _ => by
    cases r
    exact .nil
  | [], _ :: _, _, _, h, _ => by cases h
  | _ :: _, [], _, _, h, _ => by cases h
  | x :: xs, c :: cs, _, r, h, hR => by
    cases r with
    | cons r1 r2 => exact .cons (hR 0 x c _ rfl rfl r1) (eachOf r2 (Nat.succ.inj h) fun i y d u hy hd ry => hR (i + 1) y d u hy hd ry)
theorem vals_each : ∀ {out : List Value} {bs : List (V × List Int)}, EachIs (fun u b => RelV b.1 u) out bs → Vals (bs.map (·.1)) out := by
  intro out bs h
  induction h with
  | nil => exact .nil
  | cons r _ ih => exact .cons r ih
def leR (a b : List Int) : Prop := dataLt (tupD b) (tupD a) = false
def rSortRows (K : PySem.W.Frag) : List V → Hp → VK → Prop := fun vs H Q => ∃ (a : Addr) (xs : List V) (cs : List (List Int)), vs = [V.ref a] ∧ SqL K H a xs ∧ AllIn (RowAt K H) xs cs ∧ (∀ c ∈ cs, c ≠ []) ∧
  ∀ (ys : List V) (ds : List (List Int)) (p : Addr) (H' : Hp), Same H H' → H' p = some (.lst ys) → AllIn (RowAt K H') ys ds → ds.Perm cs → ds.Pairwise leR → Q (.ref p) H'
theorem leR_merge (bs : List (V × List Int)) : (bs.mergeSort (dataLe false fun b => tupD b.2)).Pairwise fun a b => leR a.2 b.2 := by
  have T : TotalLe (dataLe false fun b : V × List Int => tupD b.2) := sortLe_total (listOrd itemOrd) false fun b : V × List Int => keyToks (tupD b.2)
  refine (List.pairwise_mergeSort T.trans (fun a b => by rcases T.total a b with h | h <;> rw [h] <;> simp) bs).imp fun {a b} h => ?_
  rw [dataLe_eq] at h
  unfold leR
  cases q : dataLt (tupD b.2) (tupD a.2) with
  | false => rfl
  | true =>
    have h : (!dataLt (tupD b.2) (tupD a.2)) = true := h
    rw [q] at h
    cases h
theorem cr_sortRows {X : Cx} (hu : X.A.units + 65 < cLine) : CallR X (.builtin "sorted") (rSortRows X.K) := by
  intro pins s σ H vs us Q I r h
  obtain ⟨a, xs, cs, rfl, hs, hA, hne, q⟩ := h
  rw [Vals.ref1 r]
  obtain ⟨its, rv, pl, hz⟩ := I.list hs
  have el := hA.1
  have E1 : EachIs (fun u (b : V × List Int) => RelV b.1 u ∧ RowAt X.K H b.1 b.2) its (xs.zip cs) := eachOf rv el fun i x c u hx hc ru => by
    obtain ⟨d, hd, hr⟩ := hA.2 i x hx
    rw [hc] at hd
    cases hd
    exact ⟨ru, hr⟩
  have zl : (xs.zip cs).length = xs.length := by rw [List.length_zip]; omega
  have enc : ∀ d ∈ (xs.zip cs).map (fun b => tupD b.2), ∃ c ∈ cs, d = tupD c := fun d hd => by
    obtain ⟨b, hb, rfl⟩ := List.mem_map.mp hd
    exact ⟨b.2, (List.of_mem_zip hb).2, rfl⟩
  refine sorted_data (bs := xs.zip cs) (enc := fun b => tupD b.2) pl.isList E1 (E1.mono fun u b hb => ?_) (fun d hd d' hd' => ?_) (.inl fun d hd => ?_) (by rw [zl]; exact hz) (fun b hb => ?_) fun out ho hE => ?_
  · exact Dp.reads I (tupD b.2) _ _ (dp_row hb.2) hb.1
  · obtain ⟨c, _, rfl⟩ := enc d hd
    obtain ⟨c', _, rfl⟩ := enc d' hd'
    exact alike_tupD c c'
  · obtain ⟨c, hc, rfl⟩ := enc d hd
    match c, hne c hc with
    | x :: t, _ => exact ⟨_, _, rfl⟩
  · have z := (lay_tupD b.2).2
    omega
  · obtain ⟨ep, he'⟩ := PyProof.Rows.sortedAll_at s.heap its out.toArray
    have pm := List.mergeSort_perm (xs.zip cs) (dataLe false fun b => tupD b.2)
    have hEa := eachAt hE
    generalize hM : (xs.zip cs).mergeSort (dataLe false fun b => tupD b.2) = M at hE pm hEa
    have kp : ∀ b o, s.heap.get? b = some o → (sortedAll s.heap its out.toArray).get? b = some o := fun _ _ => PyProof.Rows.sortedAll_old
    have hfr := I.hok.fresh (Nat.le_succ s.heap.objs.size)
    have rel := vals_each (hE.mono fun u b hb => hb.1)
    have Ml : M.length = xs.length := by rw [pm.length_eq, zl]
    have J : Inv X pins σ (upd H (s.heap.objs.size + 1) (.lst (M.map (·.1)))) { s with heap := sortedAll s.heap its out.toArray } :=
      I.laid (t' := s.toks) kp (Nat.le_succ _) ⟨by rw [List.length_map, Ml]; exact hz, out, ep, rel, he'⟩
    refine ⟨.ref _, _, J, rfl, q (M.map (·.1)) (M.map (·.2)) _ _ (Same.new hfr) upd_same ⟨by rw [List.length_map, List.length_map], fun i v hv => ?_⟩ ?_ ?_⟩
    · rw [List.getElem?_map] at hv
      obtain ⟨b, hb, rfl⟩ := Option.map_eq_some_iff.mp hv
      obtain ⟨u, _, _, hrow⟩ := hEa.2 i b hb
      exact ⟨b.2, by rw [List.getElem?_map, hb] <;> rfl, hrow.same (Same.new hfr)⟩
    · have z := pm.map (·.2)
      rw [List.map_snd_zip (by omega)] at z
      exact z
    · rw [List.pairwise_map, ← hM]
      exact leR_merge _
end L2
namespace Law
open PySem L2
theorem TyOf.stp {K : PySem.W.Frag} {p : Addr} {H H' : Hp} {x : V} {t : Value} (hp : HandAt H p) (S : Stp p H H') (h : TyOf K H x t) : TyOf K H' x t := by
  obtain ⟨ca, cells, a, g, s0, t0, e0, _⟩ := hp
  obtain ⟨cb, _, b1, g1, s1, t1, e1, _⟩ := S.hand
  have ne : ∀ {b : Addr} {o : HO}, H b = some o → (∀ l, o ≠ .lst l) → b ≠ p := fun {b o} e n z => by
    rw [z, e0] at e
    exact n _ (Option.some.inj e).symm
  cases h with
  | non => exact .non
  | bl x => exact .bl x
  | int i => exact .int i
  | str x => exact .str x
  | flt x => exact .flt x
  | @lst b xs e =>
    by_cases c : b = p
    · subst c
      exact .lst e1
    · exact .lst (S.keep _ _ c e)
  | frz e => exact .frz (S.keep _ _ (ne e fun l z => by cases z) e)
  | tup e => exact .tup (S.keep _ _ (ne e fun l z => by cases z) e)
  | dK e => exact .dK (S.keep _ _ (ne e fun l z => by cases z) e)
  | dT e => exact .dT (S.keep _ _ (ne e fun l z => by cases z) e)
  | ins e c1 c2 c3 c4 c5 => exact .ins (S.keep _ _ (ne e fun l z => by cases z) e) c1 c2 c3 c4 c5
theorem TyX.stp {K : PySem.W.Frag} {p : Addr} {H H' : Hp} {x : V} {t : Value} (hp : HandAt H p) (S : Stp p H H') (h : TyX K H x t) : TyX K H' x t := by
  have ne : ∀ {b : Addr} {o : HO}, H b = some o → (∀ l, o ≠ .lst l) → b ≠ p := fun {b o} e n z => by
    obtain ⟨ca, cells, a, g, s0, t0, e0, _⟩ := hp
    rw [z, e0] at e
    exact n _ (Option.some.inj e).symm
  cases h with
  | base h => exact .base (TyOf.stp hp S h)
  | byt b => exact .byt b
  | set e => exact .set (S.keep _ _ (ne e fun l z => by cases z) e)
  | kList e c => exact .kList e c
  | kTuple e c => exact .kTuple e c
  | kDict e c => exact .kDict e c
  | fTuple e => exact .fTuple (S.keep _ _ (ne e fun l z => by cases z) e)
  | fDict e => exact .fDict (S.keep _ _ (ne e fun l z => by cases z) e)
theorem Known.stp {K : PySem.W.Frag} {p : Addr} {H H' : Hp} {x : V} (hp : HandAt H p) (S : Stp p H H') (h : Known K H x) : Known K H' x := by
  rcases h with h | ⟨bi, bb, ⟨t, h1, h2, h3⟩, h4, h5⟩
  · exact .inl h
  · exact .inr ⟨bi, bb, ⟨t, TyX.stp hp S h1, h2, h3⟩, h4, h5⟩
theorem NoTup.stp {K : PySem.W.Frag} {p : Addr} {H H' : Hp} {x : V} (hp : HandAt H p) (S : Stp p H H') (h : NoTup K H x) : NoTup K H' x := by
  obtain ⟨t, h1, h2⟩ := h
  exact ⟨t, TyX.stp hp S h1, h2⟩
theorem At1.stp {K : PySem.W.Frag} {p : Addr} {H H' : Hp} {x : V} {q : P1} (hp : HandAt H p) (S : Stp p H H') (h : At1 K H x q) : At1 K H' x q := by
  cases q with
  | tup xs =>
    obtain ⟨a, h1, h2, h3, h4⟩ := h
    exact ⟨a, h1, S.sqT hp h2, h3, fun y hy => (h4 y hy).stp hp S⟩
  | odd => exact NoTup.stp hp S h
theorem At2.stp {K : PySem.W.Frag} {p : Addr} {H H' : Hp} {x : V} {q : P2} (hp : HandAt H p) (S : Stp p H H') (h : At2 K H x q) : At2 K H' x q := by
  cases q with
  | tup l =>
    obtain ⟨a, ws, h1, h2, h3, h4⟩ := h
    exact ⟨a, ws, h1, S.sqT hp h2, h3.mono fun _ _ z => At1.stp hp S z, h4⟩
  | odd => exact NoTup.stp hp S h
/-- a thing to be held against is_book -/
def Thing (K : PySem.W.Frag) (H : Hp) (x : V) : Prop := ∃ p, At2 K H x p ∧ ∀ l, p = .tup l → l.length ≤ 70
theorem Thing.same {K : PySem.W.Frag} {H H' : Hp} {x : V} (s : Same H H') (h : Thing K H x) : Thing K H' x := by
  obtain ⟨p, h1, h2⟩ := h
  exact ⟨p, h1.same s, h2⟩
theorem Thing.stp {K : PySem.W.Frag} {p : Addr} {H H' : Hp} {x : V} (hp : HandAt H p) (S : Stp p H H') (h : Thing K H x) : Thing K H' x := by
  obtain ⟨q, h1, h2⟩ := h
  exact ⟨q, h1.stp hp S, h2⟩
theorem known_ty {K : PySem.W.Frag} {H : Hp} {x : V} {n : String} (ty : TyX K H x (.type n)) (h1 : PySem.W.kitOne K (.type n) (.type "int") = some false) (h2 : PySem.W.kitOne K (.type n) (.type "bool") = some false) (hx : ∀ i, x ≠ .int i) : Known K H x := by
  refine .inr ⟨false, false, ⟨_, ty, h1, h2⟩, rfl, fun lo hi => ?_⟩
  cases x with
  | int i => exact absurd rfl (hx i)
  | _ => rfl
theorem kit_i {K : PySem.W.Frag} {n m : String} (h : PySem.W.kitOne K (.type n) (.type m) = some false := by exact kit_ty (by decide +kernel)) : PySem.W.kitOne K (.type n) (.type m) = some false := h
/-- what a nested thing is -/
def Nest (K : PySem.W.Frag) (H : Hp) (x : V) : Prop := Known K H x ∧ (∃ q, At1 K H x q) ∧ ∃ q, At2 K H x q ∧ ∀ l, q = .tup l → l.length ≤ 70
theorem Nest.same {K : PySem.W.Frag} {H H' : Hp} {x : V} (s : Same H H') (h : Nest K H x) : Nest K H' x := by
  obtain ⟨h1, ⟨q, h2⟩, r, h3, h4⟩ := h
  exact ⟨h1.same s, ⟨q, h2.same s⟩, r, h3.same s, h4⟩
theorem Nest.stp {K : PySem.W.Frag} {p : Addr} {H H' : Hp} {x : V} (hp : HandAt H p) (S : Stp p H H') (h : Nest K H x) : Nest K H' x := by
  obtain ⟨h1, ⟨q, h2⟩, r, h3, h4⟩ := h
  exact ⟨h1.stp hp S, ⟨q, h2.stp hp S⟩, r, h3.stp hp S, h4⟩
theorem Nest.odd {K : PySem.W.Frag} {H : Hp} {x : V} (h1 : Known K H x) (h2 : NoTup K H x) : Nest K H x := ⟨h1, ⟨.odd, h2⟩, .odd, h2, fun l z => by cases z⟩
theorem odd_non {K : PySem.W.Frag} {H : Hp} : NoTup K H .non := ⟨_, .base .non, kit_ty (by decide +kernel)⟩
theorem odd_int {K : PySem.W.Frag} {H : Hp} (i : Int) : NoTup K H (.int i) := ⟨_, .base (.int i), kit_ty (by decide +kernel)⟩
theorem odd_bl {K : PySem.W.Frag} {H : Hp} (b : Bool) : NoTup K H (.bl b) := ⟨_, .base (.bl b), kit_ty (by decide +kernel)⟩
theorem odd_str {K : PySem.W.Frag} {H : Hp} (x : Str) : NoTup K H (.str x) := ⟨_, .base (.str x), kit_ty (by decide +kernel)⟩
theorem odd_lst {K : PySem.W.Frag} {H : Hp} {a : Addr} {xs : List V} (h : H a = some (.lst xs)) : NoTup K H (.ref a) := ⟨_, .base (.lst h), kit_ty (by decide +kernel)⟩
theorem odd_dict {K : PySem.W.Frag} {H : Hp} {a : Addr} {xs : List (Key × V)} (h : H a = some (.dK xs)) : NoTup K H (.ref a) := ⟨_, .base (.dK h), kit_ty (by decide +kernel)⟩
theorem known_non {K : PySem.W.Frag} {H : Hp} : Known K H .non := .inr ⟨false, false, ⟨_, .base .non, kit_ty (by decide +kernel), kit_ty (by decide +kernel)⟩, rfl, fun _ _ => rfl⟩
theorem known_bl {K : PySem.W.Frag} {H : Hp} (b : Bool) : Known K H (.bl b) := .inr ⟨true, true, ⟨_, .base (.bl b), kit_ty (by decide +kernel), kit_ty (by decide +kernel)⟩, rfl, fun _ _ => rfl⟩
theorem known_str {K : PySem.W.Frag} {H : Hp} (x : Str) : Known K H (.str x) := .inr ⟨false, false, ⟨_, .base (.str x), kit_ty (by decide +kernel), kit_ty (by decide +kernel)⟩, rfl, fun _ _ => rfl⟩
theorem known_lst {K : PySem.W.Frag} {H : Hp} {a : Addr} {xs : List V} (h : H a = some (.lst xs)) : Known K H (.ref a) := .inr ⟨false, false, ⟨_, .base (.lst h), kit_ty (by decide +kernel), kit_ty (by decide +kernel)⟩, rfl, fun _ _ => rfl⟩
theorem known_dict {K : PySem.W.Frag} {H : Hp} {a : Addr} {xs : List (Key × V)} (h : H a = some (.dK xs)) : Known K H (.ref a) := .inr ⟨false, false, ⟨_, .base (.dK h), kit_ty (by decide +kernel), kit_ty (by decide +kernel)⟩, rfl, fun _ _ => rfl⟩
theorem known_tup {K : PySem.W.Frag} {H : Hp} {a : Addr} {xs : List V} (h : SqT K H a xs) : Known K H (.ref a) := .inr ⟨false, false, ⟨_, tyx_tup h, kit_ty (by decide +kernel), kit_ty (by decide +kernel)⟩, rfl, fun _ _ => rfl⟩
theorem Nest.lst {K : PySem.W.Frag} {H : Hp} {a : Addr} {xs : List V} (h : H a = some (.lst xs)) : Nest K H (.ref a) := .odd (known_lst h) (odd_lst h)
theorem Nest.dict {K : PySem.W.Frag} {H : Hp} {a : Addr} {xs : List (Key × V)} (h : H a = some (.dK xs)) : Nest K H (.ref a) := .odd (known_dict h) (odd_dict h)
theorem Nest.tup {K : PySem.W.Frag} {H : Hp} {a : Addr} {x : V} (h : SqT K H a [x]) (n : Nest K H x) : Nest K H (.ref a) := by
  obtain ⟨h1, ⟨q, h2⟩, r, h3, h4⟩ := n
  refine ⟨known_tup h, ⟨.tup [x], a, rfl, h, by show 1 ≤ 1000; decide, fun y hy => by rw [List.mem_singleton.mp hy]; exact h1⟩, .tup [q], ⟨a, [x], rfl, h, ⟨rfl, fun i y hy => ?_⟩, by show 1 ≤ 200; decide⟩, fun l z => by cases z; show 1 ≤ 70; decide⟩
  cases i with
  | zero =>
    cases hy
    exact ⟨q, rfl, h2⟩
  | succ i => simp at hy
theorem at_pick {xs : List V} {d : Int} (d0 : 0 ≤ d) (d1 : d < (xs.length : Int)) : ∃ y, y ∈ xs ∧ atI xs d = some y := by
  obtain ⟨j, rfl⟩ := Int.eq_ofNat_of_zero_le d0
  have hj : j < xs.length := by omega
  refine ⟨xs[j], List.getElem_mem hj, ?_⟩
  unfold atI
  rw [Evl.ixN_nat hj]
  exact List.getElem?_eq_getElem hj
end Law
namespace Law
open PySem L2
section
variable {P : Program} {w : World} {K : PySem.W.Frag} {mg : Str → Option Value} {base : Heap}
def spNest (K : PySem.W.Frag) : Sp := fun vs H Q _ => ∃ p : Addr, vs = [.ref p] ∧ HandAt H p ∧ ∀ (x : V) (H' : Hp), Stp p H H' → Nest K H' x → Q x H'
abbrev nLawNested : List Str := ["_law_hand_here", "_law_thing", "_law_turn"]
theorem scLawNested : FnScope nLawNested ["_law_hand_here"] (defScope s_law_nested) := ⟨rfl, rfl, rfl, by decide +kernel, rfl, by decide +kernel, by decide +kernel⟩
theorem ok_nested {f : Addr} {fd : FuncData} {fA : Addr} {fdA : FuncData} {fD : Addr} {fdD : FuncData} (F : Fun K "_law_nested" "_law_nested" s_law_nested f fd) (T : NmA mg) (A : Cl P w K mg base CX0 2 "_law_any" fA fdA ["_law_hand_here", "_law_items"] (spAny K)) (D : Cl P w K mg base CX0 1 "_law_draw" fD fdD ["_law_hand_here", "_law_many"] spDraw) : FnOk P w K mg base CX0 3 f fd ["_law_hand_here"] (spNest K) := by
  refine F.ok scLawNested (fun vs H Q E h => ?_) (fun cdv A' outer s H vs Q E hr h => ?_)
  · obtain ⟨p, rfl, _⟩ := h
    rfl
  · obtain ⟨p, rfl, hH, k⟩ := h
    have hu := hu_of hr
    refine ⟨_, pss_cons (ps_set (i := 1) scLawNested.nd rfl (Or.inl rfl) (A.call (hr.mono (by decide)) (pa_cons (pv 0) (pa_cons (pe_lst (pa_cons (pe_tup pa_nil) (pa_cons pe_int (pa_cons pe_str (pa_cons pe_non pa_nil))))) pa_nil))))
      (pss_cons (ps_for PassesOwn.never rfl (pi_range1 (by rfl) T.range (pa_cons pe_int pa_nil)) (pg_name (i := 2) scLawNested.nd rfl (Or.inl rfl))
        (pss_one (ps_set (i := 1) scLawNested.nd rfl (Or.inl rfl) (pe_ix ix_list (pe_lst (pa_cons (pe_lst (pa_cons (pv 1) pa_nil)) (pa_cons (pe_tup (pa_cons (pv 1) pa_nil)) (pa_cons (pe_disp (pps_cons pe_int (pv 1) pps_nil) (by rfl) (by rfl) (fun z => by cases z) (by decide)) pa_nil)))) (D.call (hr.mono (by decide)) (pa_cons (pv 0) (pa_cons pe_int pa_nil))) (fun _ _ => rfl)))))
      (pss_one (ps_ret (pv 1)))), ?_⟩
    refine ⟨_, rfl, by show 0 ≤ sizeLine; decide, fun t ht => ⟨by show 4 ≤ sizeLine; decide, fun l hl => ?_⟩⟩
    have s1 : Same H (upd H t (.tup [])) := Same.new ht
    have s2 := s1.trans (Same.new (o := .lst [.ref t, .int 0, .str (Str.ofString "a"), .non]) hl)
    have lp : l ≠ p := ne_hand (hH.same s1) hl
    refine ⟨p, l, _, rfl, .inl ⟨SqL.of upd_same, lp⟩, by show 0 < 4; decide, by show 4 < 1073741824; decide, hH.same s2, fun j x H1 hx S1 => ?_⟩
    have T1 : Nest K H1 x := by
      have hx := List.mem_of_getElem? hx
      rcases List.mem_cons.mp hx with rfl | hx
      · have z : SqT K H1 t [] := S1.sqT (hH.same s2) (SqT.of ((Same.new hl) _ _ upd_same))
        exact ⟨known_tup z, ⟨.tup [], t, rfl, z, Nat.zero_le _, fun y hy => absurd hy List.not_mem_nil⟩, .tup [], ⟨t, [], rfl, z, AllIn.nil, Nat.zero_le _⟩, fun l z => by cases z; exact Nat.zero_le _⟩
      rcases List.mem_cons.mp hx with rfl | hx
      · exact .odd (.inl ⟨_, rfl⟩) (odd_int 0)
      rcases List.mem_cons.mp hx with rfl | hx
      · exact .odd (known_str _) (odd_str _)
      · rw [List.mem_singleton.mp hx]
        exact .odd known_non odd_non
    refine ⟨_, rfl, by decide, by decide, ?_⟩
    refine for_range (n := (24 : Int).toNat) (fun i σ H' => ∃ (x : V) (u : Option V), σ = [some (.ref p), some x, u] ∧ Stp p H H' ∧ Nest K H' x) ⟨x, none, rfl, S1.pre hH s2, T1⟩ ?_ ?_
    · rintro i σ H3 hi ⟨x, u, rfl, S3, T3⟩
      refine ⟨_, rfl, by show 1 ≤ sizeLine; decide, fun a ha => ⟨_, rfl, by show 1 ≤ sizeLine; decide, fun b hb c hc => ⟨_, rfl, upd_same, [(Sum.inl 0, x)], rfl, (show 1 ≤ 15 by decide), by show 3 ≤ sizeLine; decide, fun l hl => ?_⟩⟩⟩
      have q1 : Same H3 (upd H3 a (.lst [x])) := Same.new ha
      have q2 : Same (upd H3 a (.lst [x])) (upd (upd H3 a (.lst [x])) b (.tup [x])) := Same.new hb
      have e3 : upd (upd (upd (upd H3 a (.lst [x])) b (.tup [x])) c (.dK [])) c (.dK (mergeK [] [(Sum.inl 0, x)])) = upd (upd (upd H3 a (.lst [x])) b (.tup [x])) c (.dK [(Sum.inl 0, x)]) := upd_upd
      rw [e3] at hl ⊢
      have q3 : Same (upd (upd H3 a (.lst [x])) b (.tup [x])) (upd (upd (upd H3 a (.lst [x])) b (.tup [x])) c (.dK [(Sum.inl 0, x)])) := Same.new hc
      have q4 := Same.new (o := .lst [.ref a, .ref b, .ref c]) hl
      have q := ((q1.trans q2).trans q3).trans q4
      have lp : l ≠ p := ne_hand (S3.hand.same ((q1.trans q2).trans q3)) hl
      have ga := Nest.lst (K := K) (((q2.trans q3).trans q4) _ _ upd_same)
      have gb := Nest.tup (K := K) (SqT.of ((q3.trans q4) _ _ upd_same)) (T3.same q)
      have gc := Nest.dict (K := K) (q4 _ _ upd_same)
      refine ⟨_, rfl, p, 3, rfl, by decide, by decide, S3.hand.same q, fun d H4 d0 d1 S4 => ?_⟩
      obtain ⟨y, hy, hat⟩ := at_pick (xs := [.ref a, .ref b, .ref c]) d0 (by simpa using d1)
      refine ⟨l, _, _, _, rfl, rfl, SqL.of (S4.keep _ _ lp upd_same), hat, y, _, rfl, S3.trans (S4.pre S3.hand q), ?_⟩
      refine Nest.stp (S3.hand.same q) S4 ?_
      rcases List.mem_cons.mp hy with rfl | hy
      · exact ga
      rcases List.mem_cons.mp hy with rfl | hy
      · exact gb
      · rw [List.mem_singleton.mp hy]
        exact gc
    · rintro σ H3 ⟨x, u, rfl, S3, T3⟩
      exact ⟨_, rfl, k x H3 S3 T3⟩
end
end Law

namespace Law
open PySem L2
/-- the rows as parts of a thing -/
def rowP (c : List Int) : P1 := .tup (c.map V.int)
theorem row_at1 {K : PySem.W.Frag} {H : Hp} {v : V} {c : List Int} (h : RowAt K H v c) (hc : c.length ≤ 1000) : At1 K H v (rowP c) := by
  obtain ⟨a, rfl, h⟩ := h
  refine ⟨a, rfl, h, by rw [List.length_map]; exact hc, fun y hy => ?_⟩
  obtain ⟨i, _, rfl⟩ := List.mem_map.mp hy
  exact .inl ⟨i, rfl⟩
theorem rows_at2 {K : PySem.W.Frag} {H : Hp} {a : Addr} {ws : List V} {cs : List (List Int)} (h : SqT K H a ws) (hA : AllIn (RowAt K H) ws cs) (hl : cs.length ≤ 200) (h2 : ∀ c ∈ cs, c.length ≤ 1000) : At2 K H (.ref a) (.tup (cs.map rowP)) := by
  refine ⟨a, ws, rfl, h, ⟨by rw [hA.1, List.length_map], fun i v hv => ?_⟩, by rw [List.length_map]; exact hl⟩
  obtain ⟨c, hc, hr⟩ := hA.2 i v hv
  exact ⟨rowP c, by rw [List.getElem?_map, hc] <;> rfl, row_at1 hr (h2 c (List.mem_of_getElem? hc))⟩
theorem rows_thing {K : PySem.W.Frag} {H : Hp} {a : Addr} {ws : List V} {cs : List (List Int)} (h : SqT K H a ws) (hA : AllIn (RowAt K H) ws cs) (hl : cs.length ≤ 70) (h2 : ∀ c ∈ cs, c.length ≤ 1000) : Thing K H (.ref a) :=
  ⟨_, rows_at2 h hA (by omega) h2, fun l e => by cases e; rw [List.length_map]; exact hl⟩
theorem Thing.odd {K : PySem.W.Frag} {H : Hp} {x : V} (h : NoTup K H x) : Thing K H x := ⟨.odd, h, fun l z => by cases z⟩
theorem asc_of {cs : List (List Int)} (h : cs.Pairwise lexL) : ascB cs = true ∨ True := .inr trivial
end Law
namespace L2
theorem couples_66 {n : Nat} (h : n ≤ 12) : (couplesF n).length ≤ 66 := by
  have z : (List.range 13).all (fun n => decide ((couplesF n).length ≤ 66)) = true := by decide +kernel
  rw [List.all_eq_true] at z
  exact of_decide_eq_true (z n (List.mem_range.mpr (by omega)))
end L2
namespace Law
open PySem L2
section
variable {P : Program} {w : World} {K : PySem.W.Frag} {mg : Str → Option Value} {base : Heap}
structure GrowI (K : PySem.W.Frag) (H : Hp) (F : Addr) (many : Nat) (cs : List (List Int)) (H' : Hp) : Prop where
  same : Same H H'
  lst : ∃ acc, H' F = some (.lst acc) ∧ AllIn (RowAt K H') acc cs
  nd : cs.Nodup
  sub : ∀ c ∈ cs, c ∈ couplesF many
theorem GrowI.few {H : Hp} {F : Addr} {many : Nat} {cs : List (List Int)} {H' : Hp} (m12 : many ≤ 12) (h : GrowI K H F many cs H') : cs.length ≤ 66 := Nat.le_trans (List.Nodup.length_le_of_subset h.nd h.sub) (couples_66 m12)
theorem GrowI.more {H : Hp} {F : Addr} {many : Nat} {cs : List (List Int)} {H1 H2 : Hp} (h : GrowI K H F many cs H1) (s : Same H1 H2) : GrowI K H F many cs H2 := by
  obtain ⟨acc, h1, h2⟩ := h.lst
  exact ⟨h.same.trans s, ⟨acc, s _ _ h1, h2.mono fun _ _ z => RowAt.same s z⟩, h.nd, h.sub⟩
def spGrown (K : PySem.W.Frag) : Sp := fun vs H Q _ => ∃ (mv : Addr) (x : V) (many : Nat) (ms : List Mv) (c : List Int), vs = [.ref mv, x] ∧ MvsAt K H mv ms ∧ many ≤ 12 ∧ ms.length ≤ 24 ∧ (∀ m ∈ ms, MvOk many m) ∧ RowAt K H x c ∧ c ∈ couplesF many ∧
  ∀ (y : V) (H' : Hp), Same H H' → Thing K H' y → Q y H'
abbrev nLawGrown : List Str := ["_law_moves_here", "_law_pair", "_law_found", "_law_at", "_law_share", "_law_leads_here", "_law_there"]
theorem scLawGrown : FnScope nLawGrown ["_law_moves_here", "_law_pair"] (defScope s_law_grown) := ⟨rfl, rfl, rfl, by decide +kernel, rfl, by decide +kernel, by decide +kernel⟩
theorem ok_grown {f : Addr} {fd : FuncData} {fcLed0 : Addr} {fdcLed0 : FuncData} (F : Fun K "_law_grown" "_law_grown" s_law_grown f fd) (T : NmA mg) (cLed0 : Cl P w K mg base CX0 1 "_law_led" fcLed0 fdcLed0 ["_law_leads_here", "_law_lot"] (spLotLed K)) : FnOk P w K mg base CX0 2 f fd ["_law_moves_here", "_law_pair"] (spGrown K) := by
  refine F.ok scLawGrown (fun vs H Q E h => ?_) (fun cdv A' outer s H vs Q E hr h => ?_)
  · obtain ⟨mv, x, many, ms, c, rfl, _⟩ := h
    rfl
  · obtain ⟨mv, x, many, ms, c, rfl, hM, m12, ml, mo, hx, cm, k⟩ := h
    have hu := hu_of hr
    refine ⟨_, pss_cons (ps_par (i := 2) (j := 3) (by rfl) scLawGrown.nd rfl rfl (by decide) rfl rfl (pa_cons (pe_lst (pa_cons (pv 1) pa_nil)) (pa_cons pe_int pa_nil)) (by rfl))
      (pss_cons (ps_while PassesOwn.never (pt_cmpR op_lt (pv 3) (pe_callB call_len_seq (by rfl) T.len PySem.boot_len (pa_cons (pv 2) pa_nil)) (nomark _))
        (pss_cons (ps_for PassesOwn.never rfl (pi_tup (pv 0)) (pg_tup (by rfl) (pgs_cons (pg_name (i := 4) scLawGrown.nd rfl (Or.inl rfl)) (pgs_cons (pg_name (i := 5) scLawGrown.nd rfl (Or.inl rfl)) pgs_nil)))
          (pss_cons (ps_set (i := 6) scLawGrown.nd rfl (Or.inl rfl) (cLed0.call (hr.mono (by decide)) (pa_cons (pv 5) (pa_cons (pe_ix ix_list (pv 2) (pv 3) (fun _ _ => rfl)) pa_nil))))
          (pss_cons (ps_if (pt_cmpR op_eq (pe_callB call_len_seq (by rfl) T.len PySem.boot_len (pa_cons (pv 6) pa_nil)) pe_int (nomark _))
            (pss_one (ps_ret pe_non)) pss_nil)
          (pss_one (ps_expr (pe_bm PySem.F.plainAttrs_list PySem.F.slot_list_extend PySem.F.type_list_extend mt_extend (pv 2) (pa_cons (pe_ifExp (pt_cmpR (op_notInD (units65 hr)) (pv 6) (pv 2) (by rfl)) (pe_lst (pa_cons (pv 6) pa_nil)) (pe_lst pa_nil)) pa_nil)))))))
        (pss_one (ps_set (i := 3) scLawGrown.nd rfl (Or.inl rfl) (pe_op op_add (pv 3) pe_int)))))
      (pss_one (ps_ret (pe_callTy call_tuple_of (by rfl) T.tuple (by decide +kernel) (pa_cons (pe_callB (cr_sortRows (units65 hr)) (by rfl) T.sorted (by decide +kernel) (pa_cons (pv 2) pa_nil)) pa_nil))))), ?_⟩
    obtain ⟨us, hV, hU⟩ := id hM
    have lsok := ls_ok mo
    refine ⟨_, rfl, by show 1 ≤ sizeLine; decide, fun F hF => ?_⟩
    refine new_step hF fun H1 s1 e1 => ?_
    have I0 : GrowI K H F many [c] H1 := ⟨s1, ⟨[x], e1, AllIn.nil.snoc (v := x) (x := c) (hx.same s1)⟩, by simp, fun d hd => by rw [List.mem_singleton.mp hd]; exact cm⟩
    refine ⟨_, _, rfl, fun m σ H' => ∃ (i : Nat) (cs : List (List Int)), GrowI K H F many cs H' ∧ i ≤ cs.length ∧ m = 100 - i ∧ ∃ u4 u5 u6 : Option V, σ = [some (.ref mv), some x, some (.ref F), some (.int (i : Int)), u4, u5, u6], ⟨_, 0, [c], I0, Nat.zero_le _, rfl, none, none, none, rfl⟩, ?_⟩
    rintro m σ H2 ⟨i, cs, I, il, rfl, u4, u5, u6, rfl⟩
    obtain ⟨acc, e2, A2⟩ := I.lst
    have few := I.few m12
    refine ⟨_, rfl, _, rfl, F, _, rfl, .inl (SqL.of e2), _, _, rfl, rfl, _, rfl, ite2 (fun c1 => ?_) (fun c1 => ?_)⟩
    · refine ⟨fun σ' H1 => ∃ m', m' < _ ∧ ∃ (i : Nat) (cs : List (List Int)), GrowI K H F many cs H1 ∧ i ≤ cs.length ∧ m' = 100 - i ∧ ∃ u4 u5 u6 : Option V, σ' = [some (.ref mv), some x, some (.ref F), some (.int (i : Int)), u4, u5, u6], fun _ _ h => h, ?_⟩
      have c1 := of_decide_eq_true c1
      have il2 : i < cs.length := by
        rw [A2.1] at c1
        omega
      refine ⟨_, rfl, mv, rfl, ⟨_, I.same.sqT hV⟩, ?_⟩
      refine for_tup (K := K) (a := mv) (xs := us) (fun j σ H' => ∃ cs : List (List Int), GrowI K H F many cs H' ∧ i < cs.length ∧ ∃ u4 u5 u6 : Option V, σ = [some (.ref mv), some x, some (.ref F), some (.int (i : Int)), u4, u5, u6]) ⟨cs, I, il2, u4, u5, u6, rfl⟩ (fun j σ H' _ ⟨_, h, _⟩ => h.same.sqT hV) ?_ ?_
      · rintro j z σ H3 hj ⟨cs3, I3, il3, u4, u5, u6, rfl⟩
        obtain ⟨acc3, e3, A3⟩ := I3.lst
        have few3 := I3.few m12
        obtain ⟨m, hm, aa, sa, la, rfl, h3, h4, h5⟩ := hU.2 j z hj
        have mm := List.mem_of_getElem? hm
        obtain ⟨_, _, _, m1, m2⟩ := mo m mm
        have sV := I3.same
        obtain ⟨va, hacc⟩ : ∃ va, acc3[i]? = some va := ⟨_, List.getElem?_eq_getElem (show i < acc3.length by rw [A3.1]; exact il3)⟩
        obtain ⟨d, hd, a, ea, ha⟩ := A3.2 i _ hacc
        have dm := I3.sub d (List.mem_of_getElem? hd)
        obtain ⟨dN, dlot, d2, _⟩ := couple_lot m12 dm
        have xsL : LdOk many m.2 := ⟨m1, m2⟩
        refine ⟨aa, _, rfl, sV.sqT h3, rfl, _, _, rfl, _, _, rfl, rfl, ?_⟩
        refine ⟨_, rfl, _, rfl, _, rfl, F, acc3, ((i : Nat) : Int), _, rfl, rfl, SqL.of e3, (atI_nat hacc : atI acc3 ((i : Nat) : Int) = _), la, a, m.2, d, by rw [ea] <;> rfl, sV.sqT h5, ha, by omega, fun s hs => by rw [m1]; exact dN s hs, fun s hs => by have := m2 s hs; omega, fun l H4 s4 e4 => ?_⟩
        have I4 := I3.more s4
        obtain ⟨acc4, e5, A4⟩ := I4.lst
        refine ⟨_, rfl, l, _, rfl, .inr (SqT.of e4), rfl, _, rfl, ?_⟩
        rw [dec_one, List.length_map]
        have led := couple_led m12 xsL dm
        refine ite2 (fun c2 => ?_) (fun c2 => ?_)
        · exact k .non H4 I4.same (Thing.odd odd_non)
        have lm : leadsF m.2 d ∈ couplesF many := by
          rcases led with z | z
          · rw [z] at c2
            exact absurd rfl c2
          · exact z
        have few4 := I4.few m12
        have al := A4.1
        refine ⟨_, rfl, .inl ⟨rfl, _, SqL.of e5⟩, _, rfl, _, rfl, tupD (leadsF m.2 d), cs3.map tupD, .tup (SqT.of e4) (dp_ints _), .lst (SqL.of e5) (dp_all (g := tupD) (R := RowAt K H4) (fun _ _ => dp_row) A4), sh_tup _, sh_lst _, _, rfl, ?_⟩
        rw [any_tup]
        refine ite2 (fun c3 => ?_) (fun c3 => ?_)
        · have nin : leadsF m.2 d ∉ cs3 := fun z => by
            rw [decide_eq_true z] at c3
            cases c3
          refine ⟨_, rfl, by show 1 ≤ sizeLine; decide, fun t ht => ?_⟩
          refine new_step ht fun H5 s5 e6 => ?_
          have I5 := I4.more s5
          have e7 := s5 _ _ e5
          have A5 := A4.mono fun _ _ z => RowAt.same s5 z
          refine ⟨F, t, acc4, [.ref l], rfl, rfl, e7, e6, by rw [sizeLine_eq]; show _ + 1 ≤ _; omega, ⟨cs3 ++ [leadsF m.2 d], ⟨I5.same.mut hF, ⟨_, upd_same, (A5.mono fun _ _ z => z.upd e7).snoc ⟨l, rfl, sqT_updL e7 (SqT.of (s5 _ _ e4))⟩⟩, ?_, ?_⟩, by rw [List.length_append]; omega, _, _, _, rfl⟩⟩
          · rw [List.nodup_append]
            refine ⟨I3.nd, by simp, fun u hu v hv e => ?_⟩
            rw [List.mem_singleton.mp hv] at e
            rw [e] at hu
            exact nin hu
          · intro u hu
            rcases List.mem_append.mp hu with h | h
            · exact I3.sub u h
            · rw [List.mem_singleton.mp h]
              exact lm
        · refine ⟨by show 0 ≤ sizeLine; decide, fun t ht => ?_⟩
          refine new_step ht fun H5 s5 e6 => ?_
          have I5 := I4.more s5
          have e7 := s5 _ _ e5
          have A5 := A4.mono fun _ _ z => RowAt.same s5 z
          refine ⟨F, t, acc4, [], rfl, rfl, e7, e6, by rw [sizeLine_eq]; show _ + 0 ≤ _; omega, ⟨cs3, ⟨I5.same.mut hF, ⟨_, upd_same, ?_⟩, I3.nd, I3.sub⟩, il3, _, _, _, rfl⟩⟩
          rw [List.append_nil]
          exact A5.mono fun _ _ z => z.upd e7
      · rintro σ H3 ⟨cs3, I3, il3, u4, u5, u6, rfl⟩
        exact ⟨_, rfl, _, _, rfl, rfl, 100 - (i + 1), by have := I3.few m12; omega, i + 1, cs3, I3, il3, rfl, _, _, _, rfl⟩
    · refine ⟨_, rfl, F, acc, cs, rfl, SqL.of e2, A2, fun d hd z => ?_, fun ys ds q H3 s3 e3 A3 pm _ => ?_⟩
      · obtain ⟨_, _, d2, _⟩ := couple_lot m12 (I.sub d hd)
        rw [z] at d2
        cases d2
      · refine ⟨q, _, rfl, .inl ⟨SqL.of e3, fun T hT => ?_⟩⟩
        refine new_step hT fun H4 s4 e4 => ?_
        refine k _ H4 ((I.same.trans s3).trans s4) (rows_thing (SqT.of e4) (A3.mono fun _ _ z => RowAt.same s4 z) (by rw [pm.length_eq]; omega) fun d hd => ?_)
        obtain ⟨_, _, d2, _⟩ := couple_lot m12 (I.sub d (pm.mem_iff.mp hd))
        omega
end
end Law

namespace Law
open PySem L2
section
variable {P : Program} {w : World} {K : PySem.W.Frag} {mg : Str → Option Value} {base : Heap}
theorem MvAt.stp {p : Addr} {H H' : Hp} {v : V} {m : Mv} (hp : HandAt H p) (S : Stp p H H') (h : MvAt K H v m) : MvAt K H' v m := by
  obtain ⟨a, s, l, h1, h2, h3, h4⟩ := h
  exact ⟨a, s, l, h1, S.sqT hp h2, S.sqT hp h3, S.sqT hp h4⟩
theorem MvsAt.stp {p : Addr} {H H' : Hp} {a : Addr} {ms : List Mv} (hp : HandAt H p) (S : Stp p H H') (h : MvsAt K H a ms) : MvsAt K H' a ms := by
  obtain ⟨vs, h1, h2⟩ := h
  exact ⟨vs, S.sqT hp h1, h2.1, fun i v hv => by
    obtain ⟨m, h3, h4⟩ := h2.2 i v hv
    exact ⟨m, h3, h4.stp hp S⟩⟩
theorem RowAt.stp {p : Addr} {H H' : Hp} {v : V} {l : List Int} (hp : HandAt H p) (S : Stp p H H') (h : RowAt K H v l) : RowAt K H' v l := by
  obtain ⟨a, h1, h2⟩ := h
  exact ⟨a, h1, S.sqT hp h2⟩
def Ths (K : PySem.W.Frag) (H : Hp) (vs : List V) : Prop := ∀ v ∈ vs, Thing K H v
theorem Ths.same {H H' : Hp} {vs : List V} (s : Same H H') (h : Ths K H vs) : Ths K H' vs := fun v hv => (h v hv).same s
theorem Ths.stp {p : Addr} {H H' : Hp} {vs : List V} (hp : HandAt H p) (S : Stp p H H') (h : Ths K H vs) : Ths K H' vs := fun v hv => (h v hv).stp hp S
theorem Ths.app {H : Hp} {vs us : List V} (h : Ths K H vs) (g : Ths K H us) : Ths K H (vs ++ us) := fun v hv => by
  rcases List.mem_append.mp hv with z | z
  · exact h v z
  · exact g v z
theorem Ths.nil {H : Hp} : Ths K H [] := fun v hv => absurd hv List.not_mem_nil
theorem Ths.cons {H : Hp} {x : V} {vs : List V} (h : Thing K H x) (g : Ths K H vs) : Ths K H (x :: vs) := fun v hv => by
  rcases List.mem_cons.mp hv with rfl | z
  · exact h
  · exact g v z
/-- values that may be parts -/
def Pts (K : PySem.W.Frag) (H : Hp) (n : Nat) (ws : List V) : Prop := ws.length ≤ n ∧ ∀ v ∈ ws, ∃ q, At1 K H v q
theorem Pts.same {H H' : Hp} {n : Nat} {ws : List V} (s : Same H H') (h : Pts K H n ws) : Pts K H' n ws := ⟨h.1, fun v hv => by
  obtain ⟨q, hq⟩ := h.2 v hv
  exact ⟨q, hq.same s⟩⟩
theorem Pts.all {H : Hp} : ∀ {ws : List V}, (∀ v ∈ ws, ∃ q, At1 K H v q) → ∃ l, AllIn (At1 K H) ws l
  | [], _ => ⟨[], AllIn.nil⟩
  | v :: ws, h => by
    obtain ⟨q, hq⟩ := h v List.mem_cons_self
    obtain ⟨l, e, hl⟩ := Pts.all (ws := ws) fun u hu => h u (List.mem_cons_of_mem _ hu)
    refine ⟨q :: l, by rw [List.length_cons, List.length_cons, e], fun i u hu => ?_⟩
    cases i with
    | zero =>
      cases hu
      exact ⟨q, rfl, hq⟩
    | succ i => exact hl i u hu
theorem Pts.thing {H : Hp} {a : Addr} {n : Nat} {ws : List V} (h : SqT K H a ws) (g : Pts K H n ws) (hn : n ≤ 70) : Thing K H (.ref a) := by
  obtain ⟨l, A⟩ := Pts.all g.2
  have e := A.1
  have := g.1
  exact ⟨.tup l, ⟨a, ws, rfl, h, A, by omega⟩, fun l' z => by cases z; omega⟩
theorem Pts.app {H : Hp} {n m : Nat} {ws us : List V} (h : Pts K H n ws) (g : Pts K H m us) : Pts K H (n + m) (ws ++ us) := ⟨by rw [List.length_append]; exact Nat.add_le_add h.1 g.1, fun v hv => by
  rcases List.mem_append.mp hv with z | z
  · exact h.2 v z
  · exact g.2 v z⟩
theorem Pts.one {H : Hp} {v : V} {q : P1} (h : At1 K H v q) : Pts K H 1 [v] := ⟨Nat.le_refl _, fun u hu => ⟨q, by rw [List.mem_singleton.mp hu]; exact h⟩⟩
theorem cut_mem {xs : List V} {lo hi : Option Int} {v : V} (h : v ∈ cutV xs lo hi) : v ∈ xs := List.mem_of_mem_drop (List.mem_of_mem_take h)
theorem Pts.hi {H : Hp} {n : Nat} {ws : List V} (h : Pts K H n ws) (k : Nat) : Pts K H k (cutV ws none (some ((k : Nat) : Int))) := ⟨by
  unfold cutV
  rw [show HT.sIx ws.length ws.length (some ((k : Nat) : Int)) = min k ws.length from HT.sIx_nat _ _ k, List.length_take]
  omega, fun v hv => h.2 v (cut_mem hv)⟩
theorem Pts.lo {H : Hp} {n : Nat} {ws : List V} (h : Pts K H n ws) (k : Nat) : Pts K H (n - k) (cutV ws (some ((k : Nat) : Int)) none) := ⟨by
  have := h.1
  unfold cutV
  rw [show HT.sIx ws.length 0 (some ((k : Nat) : Int)) = min k ws.length from HT.sIx_nat _ _ k, List.length_take, List.length_drop]
  omega, fun v hv => h.2 v (cut_mem hv)⟩
theorem Pts.rev {H : Hp} {n : Nat} {ws : List V} (h : Pts K H n ws) : Pts K H n ws.reverse := ⟨by rw [List.length_reverse]; exact h.1, fun v hv => h.2 v (List.mem_reverse.mp hv)⟩
theorem part_of {H : Hp} {a : Addr} {xs : List V} (h : SqT K H a xs) (hl : xs.length ≤ 1000) (hk : ∀ x ∈ xs, Known K H x) : Pts K H 1 [.ref a] := Pts.one (q := .tup xs) ⟨a, rfl, h, hl, hk⟩
theorem two_known {H : Hp} {x y : V} (hx : Known K H x) (hy : Known K H y) : ∀ z ∈ [x, y], Known K H z := fun z hz => by
  rcases List.mem_cons.mp hz with rfl | hz
  · exact hx
  · rw [List.mem_singleton.mp hz]
    exact hy
def spBooks (K : PySem.W.Frag) : Sp := fun vs H Q _ => ∃ (p mv du : Addr) (many : Nat) (ms : List Mv) (ws : List V) (cs : List (List Int)), vs = [.ref p, .int (many : Nat), .ref mv, .ref du] ∧ HandAt H p ∧ MvsAt K H mv ms ∧ many ≤ 12 ∧ ms.length ≤ 24 ∧ (∀ m ∈ ms, MvOk many m) ∧ SqT K H du ws ∧ AllIn (RowAt K H) ws cs ∧ cs.length ≤ 66 ∧ (∀ c ∈ cs, c ∈ couplesF many) ∧
  ∀ (L : Addr) (x y z : V) (H' : Hp), Stp p H H' → H' L = some (.lst [x, y, z]) → L ≠ p → Thing K H' x → Thing K H' y → Thing K H' z → Q (.ref L) H'
abbrev nLawBooks : List Str := ["_law_hand_here", "_law_many", "_law_moves_here", "_law_due", "_law_couples_here", "_law_some", "_law_at", "_law_grown_here", "_law_odd", "_law_pair"]
theorem scLawBooks : FnScope nLawBooks ["_law_hand_here", "_law_many", "_law_moves_here", "_law_due"] (defScope s_law_books) := ⟨rfl, rfl, rfl, by decide +kernel, rfl, by decide +kernel, by decide +kernel⟩
theorem ok_books {f : Addr} {fd : FuncData} {fcLCou : Addr} {fdcLCou : FuncData} {fD : Addr} {fdD : FuncData} {fcGrown : Addr} {fdcGrown : FuncData} {fA : Addr} {fdA : FuncData} {fcNested : Addr} {fdcNested : FuncData} (F : Fun K "_law_books" "_law_books" s_law_books f fd) (T : NmA mg) (cLCou : Cl P w K mg base CX0 1 "_law_couples" fcLCou fdcLCou ["_law_many"] (spLCou K)) (D : Cl P w K mg base CX0 1 "_law_draw" fD fdD ["_law_hand_here", "_law_many"] spDraw) (cGrown : Cl P w K mg base CX0 2 "_law_grown" fcGrown fdcGrown ["_law_moves_here", "_law_pair"] (spGrown K)) (A : Cl P w K mg base CX0 2 "_law_any" fA fdA ["_law_hand_here", "_law_items"] (spAny K)) (cNested : Cl P w K mg base CX0 3 "_law_nested" fcNested fdcNested ["_law_hand_here"] (spNest K)) : FnOk P w K mg base CX0 4 f fd ["_law_hand_here", "_law_many", "_law_moves_here", "_law_due"] (spBooks K) := by
  refine F.ok scLawBooks (fun vs H Q E h => ?_) (fun cdv A' outer s H vs Q E hr h => ?_)
  · obtain ⟨p, mv, du, many, ms, ws, cs, rfl, _⟩ := h
    rfl
  · obtain ⟨p, mv, du, many, ms, ws, cs, rfl, hH, hM, m12, ml, mo, hD, hA, c66, cc, k⟩ := h
    have hu := hu_of hr
    refine ⟨_, pss_cons (ps_set (i := 4) scLawBooks.nd rfl (Or.inl rfl) (cLCou.call (hr.mono (by decide)) (pa_cons (pv 1) pa_nil)))
      (pss_cons (ps_set (i := 5) scLawBooks.nd rfl (Or.inl rfl) (pe_lst (pa_cons (pv 3) (pa_cons (pe_callTy call_tuple_of (by rfl) T.tuple (by decide +kernel) (pa_cons (pe_lc (own := [("_law_pair", 9)]) (g := (gName 9)) (tt := _) rfl scLawBooks.nd  (pi_list (pv 4)) (blkOk_by (own := [("_law_pair", 9)]) (N := nLawBooks) (sc := defScope s_law_books) (by decide +kernel)) (fun _ _ _ _ _ => (pg_name (i := 9) scLawBooks.nd rfl (Or.inl rfl))) (fun _ _ _ _ _ => (pts_one (pt_cmpR op_eq (D.call (hr.mono (by decide)) (pa_cons (pv 0) (pa_cons pe_int pa_nil))) pe_int (nomark _)))) (fun _ _ _ _ _ => (pv 9))) pa_nil)) (pa_cons (pe_callTy call_tuple_of (by rfl) T.tuple (by decide +kernel) (pa_cons (pv 4) pa_nil)) (pa_cons (pe_tup pa_nil) pa_nil))))))
      (Evl.pss_cut (ps_if (pt_cmpR op_gt (pe_callB call_len_seq (by rfl) T.len PySem.boot_len (pa_cons (pv 3) pa_nil)) pe_int (nomark _))
        (pss_cons (ps_par (i := 6) (j := 7) (by rfl) scLawBooks.nd rfl rfl (by decide) rfl rfl (pa_cons (D.call (hr.mono (by decide)) (pa_cons (pv 0) (pa_cons (pe_callB call_len_seq (by rfl) T.len PySem.boot_len (pa_cons (pv 3) pa_nil)) pa_nil))) (pa_cons (cGrown.call (hr.mono (by decide)) (pa_cons (pv 2) (pa_cons (A.call (hr.mono (by decide)) (pa_cons (pv 0) (pa_cons (pv 3) pa_nil))) pa_nil))) pa_nil)) (by rfl))
        (pss_cons (ps_set (i := 5) scLawBooks.nd rfl (Or.inl rfl) (pe_op op_cat (pv 5) (pe_lst (pa_cons (pv 7) (pa_cons (pv 7) (pa_cons (pe_op op_catR (pe_slice sl_tupA (pv 3) po_none (po_some (pv 6))) (pe_slice sl_tupA (pv 3) (po_some (pe_op op_add (pv 6) pe_int)) po_none)) (pa_cons (pe_revT (pv 3)) (pa_cons (pe_op op_catR (pv 3) (pe_slice sl_tupA (pv 3) po_none (po_some pe_int))) (pa_cons (pe_callTy call_list_of (by rfl) T.list (by decide +kernel) (pa_cons (pv 3) pa_nil)) (pa_cons (pe_slice sl_tupA (pv 3) po_none (po_some pe_int)) pa_nil))))))))))
        (pss_one (ps_set (i := 5) scLawBooks.nd rfl (Or.inl rfl) (pe_op op_cat (pv 5) (pe_lst (pa_cons (pe_op op_catR (pe_op op_catR (pe_slice sl_tupA (pv 3) po_none (po_some (pv 6))) (pe_tup (pa_cons (pe_callTy call_list_of (by rfl) T.list (by decide +kernel) (pa_cons (pe_ix ix_tup (pv 3) (pv 6) (fun _ _ => rfl)) pa_nil)) pa_nil))) (pe_slice sl_tupA (pv 3) (po_some (pe_op op_add (pv 6) pe_int)) po_none)) (pa_cons (pe_op op_catR (pe_op op_catR (pe_slice sl_tupA (pv 3) po_none (po_some (pv 6))) (pe_tup (pa_cons (pe_revT (pe_ix ix_tup (pv 3) (pv 6) (fun _ _ => rfl))) pa_nil))) (pe_slice sl_tupA (pv 3) (po_some (pe_op op_add (pv 6) pe_int)) po_none)) pa_nil)))))))) pss_nil)
      (pss_cons (ps_set (i := 8) scLawBooks.nd rfl (Or.inl rfl) (pe_lst (pa_cons pe_non (pa_cons pe_int (pa_cons pe_bl (pa_cons pe_str (pa_cons pe_dnewK (pa_cons (pe_tup (pa_cons (pe_tup (pa_cons pe_int (pa_cons pe_int (pa_cons pe_int pa_nil)))) pa_nil)) (pa_cons (pe_tup (pa_cons (pe_tup (pa_cons pe_int (pa_cons (pv 1) pa_nil))) pa_nil)) (pa_cons (pe_tup (pa_cons (pe_tup (pa_cons pe_bl (pa_cons pe_bl pa_nil))) pa_nil)) (pa_cons (pe_tup (pa_cons (pe_tup (pa_cons pe_int (pa_cons pe_str pa_nil))) pa_nil)) (pa_cons (pe_tup (pa_cons pe_int (pa_cons pe_int pa_nil))) (pa_cons (pe_tup (pa_cons (pe_tup (pa_cons pe_int (pa_cons pe_int pa_nil))) pa_nil)) pa_nil)))))))))))))
      (pss_one (ps_ret (pe_lst (pa_cons (A.call (hr.mono (by decide)) (pa_cons (pv 0) (pa_cons (pv 5) pa_nil))) (pa_cons (A.call (hr.mono (by decide)) (pa_cons (pv 0) (pa_cons (pv 5) pa_nil))) (pa_cons (A.call (hr.mono (by decide)) (pa_cons (pv 0) (pa_cons (pe_op op_cat (pv 8) (pe_lst (pa_cons (cNested.call (hr.mono (by decide)) (pa_cons (pv 0) pa_nil)) pa_nil))) pa_nil))) pa_nil))))))))), ?_⟩
    have c1000 : ∀ c ∈ couplesF many, c.length ≤ 1000 := fun c hc => by
      obtain ⟨_, _, h, _⟩ := couple_lot m12 hc
      omega
    refine ⟨_, rfl, many, rfl, m12, fun D dw H1 s1 hDn e1 A1 => ?_⟩
    have wl := A1.1
    have l66 := couples_66 m12
    have Dp : D ≠ p := ne_hand hH hDn
    refine ⟨_, rfl, _, rfl, D, rfl, ⟨_, SqL.of e1⟩, fun E hE => ?_⟩
    have hH1 := hH.same s1
    have Ep : E ≠ p := ne_hand hH1 hE
    refine lc_list (K := K) (a := D) (xs := dw) (fun i H' => Stp p H1 H' ∧ ∃ (acc : List V) (c1 : List (List Int)), H' E = some (.lst acc) ∧ AllIn (RowAt K H') acc c1 ∧ c1.length ≤ i ∧ ∀ c ∈ c1, c ∈ couplesF many) ⟨Stp.of hH1 (Same.new hE), [], [], upd_same, AllIn.nil, Nat.zero_le _, fun c hc => absurd hc List.not_mem_nil⟩ (fun i H' _ h => SqL.of (h.1.keep _ _ Dp e1)) (fun i x H2 hi g => ?_) fun H2 g => ?_
    · obtain ⟨S2, acc, c1, e2, A2, l2, m2⟩ := g
      obtain ⟨c, hc, hr⟩ := A1.2 i x hi
      have il := (List.getElem?_eq_some_iff.mp hi).1
      refine ⟨rfl, _, rfl, p, 2, rfl, by decide, by decide, S2.hand, fun d H3 d0 d1 S3 => ⟨rfl, _, rfl, ite2 (fun _ => ?_) (fun _ => ?_)⟩⟩
      · have e3 := S3.keep _ _ Ep e2
        have al := A2.1
        refine ⟨_, rfl, acc, e3, by rw [sizeLine_eq]; omega, (S2.trans S3).mut hH1 hE, _, c1 ++ [c], upd_same, (A2.mono fun _ _ z => (RowAt.stp S2.hand S3 z).upd e3).snoc ((RowAt.stp hH1 (S2.trans S3) hr).upd e3), by rw [List.length_append]; show _ + 1 ≤ _; omega, fun u hu => ?_⟩
        rcases List.mem_append.mp hu with h | h
        · exact m2 u h
        · rw [List.mem_singleton.mp h]
          exact List.mem_of_getElem? hc
      · exact ⟨S2.trans S3, acc, c1, S3.keep _ _ Ep e2, A2.mono fun _ _ z => RowAt.stp S2.hand S3 z, by omega, m2⟩
    · obtain ⟨S2, acc, c1, e2, A2, l2, m2⟩ := g
      have A1' := A1.mono fun _ _ z => RowAt.stp hH1 S2 z
      have d2 := S2.keep _ _ Dp e1
      have dw66 : (couplesF many).length ≤ 66 := l66
      have al : c1.length ≤ 66 := by omega
      have Sa := (Stp.pre hH s1 S2)
      refine ⟨E, _, rfl, .inl ⟨SqL.of e2, fun T1 hT1 => ?_⟩⟩
      refine new_step hT1 fun H3 s3 e3 => ?_
      refine ⟨_, rfl, D, _, rfl, .inl ⟨SqL.of (s3 _ _ d2), fun T2 hT2 => ?_⟩⟩
      refine new_step hT2 fun H4 s4 e4 => ?_
      refine ⟨by show 0 ≤ sizeLine; decide, fun T3 hT3 => ?_⟩
      refine new_step hT3 fun H5 s5 e5 => ?_
      refine ⟨by show 4 ≤ sizeLine; decide, fun L hL => ?_⟩
      have Lp : L ≠ p := ne_hand (((S2.hand.same s3).same s4).same s5) hL
      refine new_step hL fun H6 s6 e6 => ?_
      have s26 := (s3.trans s4).trans (s5.trans s6)
      have S6 := Sa.post s26
      have hD6 := S6.sqT hH hD
      have hA6 := hA.mono fun _ _ z => RowAt.stp hH S6 z
      have hM6 := hM.stp hH S6
      have t0 : Thing K H6 (.ref du) := rows_thing hD6 hA6 (by omega) fun c hc => c1000 c (cc c hc)
      have t1 : Thing K H6 (.ref T1) := rows_thing (SqT.of ((s4.trans (s5.trans s6)) _ _ e3)) (A2.mono fun _ _ z => RowAt.same s26 z) (by omega) fun c hc => c1000 c (m2 c hc)
      have t2 : Thing K H6 (.ref T2) := rows_thing (SqT.of ((s5.trans s6) _ _ e4)) (A1'.mono fun _ _ z => RowAt.same s26 z) (by omega) c1000
      have t3 : Thing K H6 (.ref T3) := rows_thing (cs := []) (SqT.of (s6 _ _ e5)) AllIn.nil (Nat.zero_le _) fun c hc => absurd hc List.not_mem_nil
      have th6 : Ths K H6 [.ref du, .ref T1, .ref T2, .ref T3] := .cons t0 (.cons t1 (.cons t2 (.cons t3 .nil)))
      have h6 := S6.hand
      refine ⟨fun σ' H' => ∃ (S' : Addr) (vs : List V) (u6 u7 u8 u9 : Option V), Stp p H H' ∧ H' S' = some (.lst vs) ∧ S' ≠ p ∧ Ths K H' vs ∧ 0 < vs.length ∧ vs.length ≤ 100 ∧ σ' = [some (.ref p), some (.int (many : Int)), some (.ref mv), some (.ref du), some (.ref D), some (.ref S'), u6, u7, u8, u9], ?_, ?_⟩
      · refine ⟨_, rfl, du, _, rfl, .inr hD6, _, _, rfl, rfl, _, rfl, ite2 (fun c0 => ?_) (fun c0 => ?_)⟩
        · have c0 := of_decide_eq_true c0
          have w0 : 0 < ws.length := by omega
          have wc := hA.1
          refine ⟨_, rfl, _, rfl, du, _, rfl, .inr hD6, p, _, rfl, by omega, by omega, h6, fun at_ H7 a0 a1 S7 => ?_⟩
          obtain ⟨n, rfl⟩ := Int.eq_ofNat_of_zero_le a0
          have nl : n < ws.length := by omega
          refine ⟨_, rfl, _, rfl, _, rfl, p, du, ws, rfl, .inr (S7.sqT h6 hD6), w0, by omega, S7.hand, fun j x H8 hx S8 => ?_⟩
          have S68 := S7.trans S8
          obtain ⟨c, hc, hr⟩ := hA6.2 j x hx
          refine ⟨mv, x, many, ms, c, rfl, hM6.stp h6 S68, m12, ml, mo, RowAt.stp h6 S68 hr, cc c (List.mem_of_getElem? hc), fun y H9 s9 ty => ⟨_, _, rfl, ?_⟩⟩
          have S69 := S68.post s9
          have hD9 := S69.sqT h6 hD6
          have p9 : Pts K H9 66 ws := ⟨by omega, fun v hv => by
            obtain ⟨i, hi⟩ := List.mem_iff_getElem?.mp hv
            obtain ⟨d, hd, hrd⟩ := hA6.2 i v hi
            exact ⟨_, row_at1 (RowAt.stp h6 S69 hrd) (c1000 d (cc d (List.mem_of_getElem? hd)))⟩⟩
          have eL9 := S69.keep _ _ Lp e6
          have th9 := Ths.stp h6 S69 th6
          -- due[:at] + due[at + 1:]
          refine ⟨_, rfl, _, rfl, _, rfl, _, rfl, ?_⟩
          unfold tNoPart
          refine ⟨_, rfl, (n : Int), rfl, slAny hD9 fun q1 G1 s1 e1 => ?_⟩
          refine ⟨_, rfl, _, rfl, _, _, rfl, rfl, ((n + 1 : Nat) : Int), rfl, ?_⟩
          refine slAny (s1.sqT hD9) fun q2 G2 s2 e2 => ?_
          have pa := (p9.hi n).app (p9.lo (n + 1))
          refine ⟨q1, q2, _, _, rfl, rfl, s2.sqT e1, e2, by have := (p9.hi n).1; have := (p9.lo (n + 1)).1; rw [sizeLine_eq]; omega, fun b1 G3 s3 e3 => ?_⟩
          have r3 := (s1.trans s2).trans s3
          have v1 : Thing K G3 (.ref b1) := Pts.thing e3 (pa.same r3) (by omega)
          -- due[::-1]
          refine ⟨_, rfl, du, ws, rfl, r3.sqT hD9, fun b2 hb2 => ?_⟩
          refine new_step hb2 fun G4 s4 e4 => ?_
          have r4 := r3.trans s4
          have v2 : Thing K G4 (.ref b2) := Pts.thing (SqT.of e4) (p9.rev.same r4) (by omega)
          -- due + due[:1]
          refine ⟨_, rfl, _, rfl, ?_⟩
          refine ⟨(1 : Int), rfl, slAny (r4.sqT hD9) fun q5 G5 s5 e5 => ?_⟩
          refine ⟨du, q5, _, _, rfl, rfl, (r4.trans s5).sqT hD9, e5, by have := p9.1; have := (p9.hi 1).1; rw [sizeLine_eq]; show _ + (cutV ws none (some ((1 : Nat) : Int))).length ≤ _; omega, fun b3 G6 s6' e6' => ?_⟩
          have r6 := (r4.trans s5).trans s6'
          have v3 : Thing K G6 (.ref b3) := Pts.thing e6' ((p9.app (p9.hi 1)).same r6) (by omega)
          -- list(due)
          refine ⟨_, rfl, du, ws, rfl, .inr (r6.sqT hD9), fun b4 hb4 => ?_⟩
          refine new_step hb4 fun G7 s7 e7 => ?_
          have r7 := r6.trans s7
          have v4 : Thing K G7 (.ref b4) := Thing.odd (odd_lst e7)
          -- due[:1]
          refine ⟨_, rfl, ?_⟩
          refine ⟨(1 : Int), rfl, slAny (r7.sqT hD9) fun b5 G8 s8 e8 => ?_⟩
          have r8 := r7.trans s8
          have v5 : Thing K G8 (.ref b5) := Pts.thing e8 ((p9.hi 1).same r8) (by omega)
          refine ⟨by show 7 ≤ sizeLine; decide, fun L2 hL2 => ?_⟩
          have S9 := S6.trans S69
          have L2p : L2 ≠ p := ne_hand (S9.hand.same r8) hL2
          refine new_step hL2 fun G9 s9' e9 => ?_
          have r9 := r8.trans s9'
          refine ⟨L, L2, _, _, rfl, rfl, r9 _ _ eL9, e9, by show 4 + 7 ≤ sizeLine; decide, fun L3 hL3 => ?_⟩
          have L3p : L3 ≠ p := ne_hand (S9.hand.same r9) hL3
          refine new_step hL3 fun G10 s10 e10 => ?_
          have r10 := r9.trans s10
          have th10 : Ths K G10 ([.ref du, .ref T1, .ref T2, .ref T3] ++ [y, y, .ref b1, .ref b2, .ref b3, .ref b4, .ref b5]) := by
            have t8 := s8.trans (s9'.trans s10)
            refine (th9.same r10).app (.cons (ty.same r10) (.cons (ty.same r10) (.cons (v1.same ?_) (.cons (v2.same ?_) (.cons (v3.same ?_) (.cons (v4.same ?_) (.cons (v5.same ?_) .nil)))))))
            · exact (s4.trans s5).trans ((s6'.trans s7).trans t8)
            · exact s5.trans ((s6'.trans s7).trans t8)
            · exact s7.trans t8
            · exact t8
            · exact s9'.trans s10
          -- the two with a part changed
          refine ⟨_, rfl, _, rfl, ?_⟩
          obtain ⟨xn, hxn⟩ : ∃ xn, ws[n]? = some xn := ⟨_, List.getElem?_eq_getElem nl⟩
          obtain ⟨cn, hcn, an, rfl, han⟩ := hA6.2 n xn hxn
          have ha9 := S69.sqT h6 han
          have at_n : atI ws ((n : Nat) : Int) = some (.ref an) := atI_nat hxn
          refine ⟨_, rfl, (n : Int), rfl, slAny (r10.sqT hD9) fun q1 G11 s11 e11 => ?_⟩
          have r11 := r10.trans s11
          refine ⟨_, rfl, _, rfl, du, ws, ((n : Nat) : Int), _, rfl, rfl, r11.sqT hD9, at_n, an, _, rfl, .inr (r11.sqT ha9), fun l1 hl1 => ?_⟩
          refine new_step hl1 fun G12 s12 e12 => ?_
          refine ⟨by show 1 ≤ sizeLine; decide, fun t1' ht1 => ?_⟩
          refine new_step ht1 fun G13 s13 e13 => ?_
          have r13 := r11.trans (s12.trans s13)
          have pl : Pts K G13 1 [.ref l1] := Pts.one (q := .odd) (odd_lst (s13 _ _ e12))
          refine ⟨q1, t1', _, _, rfl, rfl, (s12.trans s13).sqT e11, SqT.of e13, by have := (p9.hi n).1; rw [sizeLine_eq]; show (cutV ws none (some (n : Int))).length + 1 ≤ _; omega, fun c1' G14 s14 e14 => ?_⟩
          have r14 := r13.trans s14
          refine ⟨_, rfl, _, rfl, _, _, rfl, rfl, ((n + 1 : Nat) : Int), rfl, slAny (r14.sqT hD9) fun q2 G15 s15 e15 => ?_⟩
          have r15 := r14.trans s15
          have pb := ((p9.hi n).same r15).app (pl.same (s14.trans s15))
          have pc := pb.app ((p9.lo (n + 1)).same r15)
          refine ⟨c1', q2, _, _, rfl, rfl, s15.sqT e14, e15, by have := pb.1; have := (p9.lo (n + 1)).1; rw [sizeLine_eq]; omega, fun b6 G16 s16 e16 => ?_⟩
          have r16 := r15.trans s16
          have v6 : Thing K G16 (.ref b6) := Pts.thing e16 (pc.same s16) (by omega)
          -- the other
          refine ⟨_, rfl, _, rfl, (n : Int), rfl, slAny (r16.sqT hD9) fun q3 G17 s17 e17 => ?_⟩
          have r17 := r16.trans s17
          refine ⟨_, rfl, _, rfl, du, ws, ((n : Nat) : Int), _, rfl, rfl, r17.sqT hD9, at_n, an, _, rfl, r17.sqT ha9, fun l2 hl2 => ?_⟩
          refine new_step hl2 fun G18 s18 e18 => ?_
          refine ⟨by show 1 ≤ sizeLine; decide, fun t2' ht2 => ?_⟩
          refine new_step ht2 fun G19 s19 e19 => ?_
          have r19 := r17.trans (s18.trans s19)
          have pl2 : Pts K G19 1 [.ref l2] := Pts.one (q := .tup (cn.map V.int).reverse) ⟨l2, rfl, SqT.of (s19 _ _ e18), by rw [List.length_reverse, List.length_map]; exact c1000 cn (cc cn (List.mem_of_getElem? hcn)), fun y hy => by
            obtain ⟨i, _, rfl⟩ := List.mem_map.mp (List.mem_reverse.mp hy)
            exact .inl ⟨i, rfl⟩⟩
          refine ⟨q3, t2', _, _, rfl, rfl, (s18.trans s19).sqT e17, SqT.of e19, by have := (p9.hi n).1; rw [sizeLine_eq]; show (cutV ws none (some (n : Int))).length + 1 ≤ _; omega, fun c2' G20 s20 e20 => ?_⟩
          have r20 := r19.trans s20
          refine ⟨_, rfl, _, rfl, _, _, rfl, rfl, ((n + 1 : Nat) : Int), rfl, slAny (r20.sqT hD9) fun q4 G21 s21 e21 => ?_⟩
          have r21 := r20.trans s21
          have pb2 := ((p9.hi n).same r21).app (pl2.same (s20.trans s21))
          have pc2 := pb2.app ((p9.lo (n + 1)).same r21)
          refine ⟨c2', q4, _, _, rfl, rfl, s21.sqT e20, e21, by have := pb2.1; have := (p9.lo (n + 1)).1; rw [sizeLine_eq]; omega, fun b7 G22 s22 e22 => ?_⟩
          have r22 := r21.trans s22
          have v7 : Thing K G22 (.ref b7) := Pts.thing e22 (pc2.same s22) (by omega)
          have t1622 : Same G16 G22 := (s17.trans (s18.trans s19)).trans ((s20.trans s21).trans s22)
          have t1022 : Same G10 G22 := ((s11.trans (s12.trans s13)).trans (s14.trans s15)).trans (s16.trans t1622)
          refine ⟨by show 2 ≤ sizeLine; decide, fun L4 hL4 => ?_⟩
          refine new_step hL4 fun G23 s23 e23 => ?_
          refine ⟨L3, L4, _, _, rfl, rfl, s23 _ _ (t1022 _ _ e10), e23, by show 4 + 7 + 2 ≤ sizeLine; decide, fun L5 hL5 => ?_⟩
          have r23 := r22.trans s23
          have L5p : L5 ≠ p := ne_hand (S9.hand.same r23) hL5
          refine new_step hL5 fun G24 s24 e24 => ?_
          have th24 := (th10.same (t1022.trans (s23.trans s24))).app (.cons ((v6.same t1622).same (s23.trans s24)) (.cons (v7.same (s23.trans s24)) .nil))
          exact ⟨L5, _, _, _, _, _, S9.post (r23.trans s24), e24, L5p, th24, by show 0 < 4 + 7 + 2; decide, by show 4 + 7 + 2 ≤ 100; decide, rfl⟩
        · exact ⟨L, _, none, none, none, none, S6, e6, Lp, th6, by show 0 < 4; decide, by show 4 ≤ 100; decide, rfl⟩
      · rintro σ' H7 ⟨S', vs, u6, u7, u8, u9, S7, e7, Sp, th7, v0, v100, rfl⟩
        have h7 := S7.hand
        refine fun d hd => ?_
        refine new_step hd fun G1 s1 e1 => ?_
        refine ⟨by show 3 ≤ sizeLine; decide, fun a1 ha1 => ?_⟩
        refine new_step ha1 fun G2 s2 e2 => ?_
        refine ⟨by show 1 ≤ sizeLine; decide, fun a2 ha2 => ?_⟩
        refine new_step ha2 fun G3 s3 e3 => ?_
        refine ⟨_, rfl, by show 2 ≤ sizeLine; decide, fun a3 ha3 => ?_⟩
        refine new_step ha3 fun G4 s4 e4 => ?_
        refine ⟨by show 1 ≤ sizeLine; decide, fun a4 ha4 => ?_⟩
        refine new_step ha4 fun G5 s5 e5 => ?_
        refine ⟨by show 2 ≤ sizeLine; decide, fun a5 ha5 => ?_⟩
        refine new_step ha5 fun G6 s6 e6 => ?_
        refine ⟨by show 1 ≤ sizeLine; decide, fun a6 ha6 => ?_⟩
        refine new_step ha6 fun G7 s7 e7' => ?_
        refine ⟨by show 2 ≤ sizeLine; decide, fun a7 ha7 => ?_⟩
        refine new_step ha7 fun G8 s8 e8 => ?_
        refine ⟨by show 1 ≤ sizeLine; decide, fun a8 ha8 => ?_⟩
        refine new_step ha8 fun G9 s9 e9 => ?_
        refine ⟨by show 2 ≤ sizeLine; decide, fun a9 ha9 => ?_⟩
        refine new_step ha9 fun G10 s10 e10 => ?_
        refine ⟨by show 2 ≤ sizeLine; decide, fun a10 ha10 => ?_⟩
        refine new_step ha10 fun G11 s11 e11 => ?_
        refine ⟨by show 1 ≤ sizeLine; decide, fun a11 ha11 => ?_⟩
        refine new_step ha11 fun G12 s12 e12 => ?_
        refine ⟨by show 11 ≤ sizeLine; decide, fun O hO => ?_⟩
        have r12 : Same H7 G12 := ((s1.trans s2).trans (s3.trans s4)).trans (((s5.trans s6).trans (s7.trans s8)).trans ((s9.trans s10).trans (s11.trans s12)))
        have Op : O ≠ p := ne_hand (h7.same r12) hO
        refine new_step hO fun G13 s13 e13 => ?_
        have r13 := r12.trans s13
        have h13 := h7.same r13
        have ik : ∀ i : Int, Known K G13 (.int i) := fun i => .inl ⟨i, rfl⟩
        have y9 := s10.trans (s11.trans (s12.trans s13))
        have y8 := s9.trans y9
        have y7 := s8.trans y8
        have y6 := s7.trans y7
        have y5 := s6.trans y6
        have y4 := s5.trans y5
        have y3 := s4.trans y4
        have y2 := s3.trans y3
        have y1 := s2.trans y2
        have o5 : Thing K G13 (.ref d) := Thing.odd (odd_dict (y1 _ _ e1))
        have o6 : Thing K G13 (.ref a2) := Pts.thing (SqT.of (y3 _ _ e3)) (part_of (SqT.of (y2 _ _ e2)) (by show 3 ≤ 1000; decide) fun x hx => by
          rcases List.mem_cons.mp hx with rfl | hx
          · exact ik 0
          · exact two_known (ik 1) (ik 2) x hx) (by decide)
        have o7 : Thing K G13 (.ref a4) := Pts.thing (SqT.of (y5 _ _ e5)) (part_of (SqT.of (y4 _ _ e4)) (by show 2 ≤ 1000; decide) (two_known (ik 0) (ik _))) (by decide)
        have o8 : Thing K G13 (.ref a6) := Pts.thing (SqT.of (y7 _ _ e7')) (part_of (SqT.of (y6 _ _ e6)) (by show 2 ≤ 1000; decide) (two_known (known_bl _) (known_bl _))) (by decide)
        have o9 : Thing K G13 (.ref a8) := Pts.thing (SqT.of (y9 _ _ e9)) (part_of (SqT.of (y8 _ _ e8)) (by show 2 ≤ 1000; decide) (two_known (ik 0) (known_str _))) (by decide)
        have o10 : Thing K G13 (.ref a9) := Pts.thing (SqT.of ((s11.trans (s12.trans s13)) _ _ e10)) ((Pts.one (q := .odd) (odd_int 0)).app (Pts.one (q := .odd) (odd_int 1))) (by decide)
        have o11 : Thing K G13 (.ref a11) := Pts.thing (SqT.of (s13 _ _ e12)) (part_of (SqT.of ((s12.trans s13) _ _ e11)) (by show 2 ≤ 1000; decide) (two_known (ik 1) (ik 1))) (by decide)
        have oAll : Ths K G13 [.non, .int 0, .bl true, .str (Str.ofString "book"), .ref d, .ref a2, .ref a4, .ref a6, .ref a8, .ref a9, .ref a11] :=
          .cons (Thing.odd odd_non) (.cons (Thing.odd (odd_int 0)) (.cons (Thing.odd (odd_bl true)) (.cons (Thing.odd (odd_str _)) (.cons o5 (.cons o6 (.cons o7 (.cons o8 (.cons o9 (.cons o10 (.cons o11 .nil))))))))))
        have eS13 := r13 _ _ e7
        have th13 := th7.same r13
        -- the first
        refine ⟨_, rfl, _, rfl, p, S', vs, rfl, .inl ⟨SqL.of eS13, Sp⟩, v0, by omega, h13, fun i x F1 hx T1 => ?_⟩
        have x1 : Thing K F1 x := (th13 x (List.mem_of_getElem? hx)).stp h13 T1
        refine ⟨_, rfl, _, rfl, p, S', vs, rfl, .inl ⟨SqL.of (T1.keep _ _ Sp eS13), Sp⟩, v0, by omega, T1.hand, fun j y F2 hy T2 => ?_⟩
        have T12 := T1.trans T2
        have x2 : Thing K F2 x := x1.stp T1.hand T2
        have y2' : Thing K F2 y := (th13 y (List.mem_of_getElem? hy)).stp h13 T12
        refine ⟨_, rfl, _, rfl, _, rfl, p, rfl, T2.hand, fun z F3 T3 nz => ?_⟩
        have T13 := T12.trans T3
        refine ⟨by show 1 ≤ sizeLine; decide, fun l hl => ?_⟩
        have eO3 := T13.keep _ _ Op e13
        have z3 : Thing K F3 z := by
          obtain ⟨_, _, q, hq, hl⟩ := nz
          exact ⟨q, hq, hl⟩
        have oAll3 := Ths.stp h13 T13 oAll
        refine new_step hl fun F4 s14 e14 => ?_
        refine ⟨O, l, _, _, rfl, rfl, s14 _ _ eO3, e14, by show 11 + 1 ≤ sizeLine; decide, fun o2 ho2 => ?_⟩
        have o2p : o2 ≠ p := ne_hand (T3.hand.same s14) ho2
        refine new_step ho2 fun F5 s15 e15 => ?_
        have s35 := s14.trans s15
        have h5 := T3.hand.same s35
        have all5 := (oAll3.app (.cons z3 .nil)).same s35
        refine ⟨p, o2, _, rfl, .inl ⟨SqL.of e15, o2p⟩, by show 0 < 12; decide, by show 12 < 1073741824; decide, h5, fun m v F6 hv T6 => ?_⟩
        have v6 : Thing K F6 v := (all5 v (List.mem_of_getElem? hv)).stp h5 T6
        refine ⟨by show 3 ≤ sizeLine; decide, fun R hR => ?_⟩
        have Rp : R ≠ p := ne_hand T6.hand hR
        refine new_step hR fun F7 s17 e17 => ?_
        have T36 : Stp p F3 F6 := Stp.pre T3.hand s35 T6
        exact k R x y v F7 ((((S7.post r13).trans T13).trans T36).post s17) e17 Rp (((x2.stp T2.hand T3).stp T3.hand T36).same s17) (((y2'.stp T2.hand T3).stp T3.hand T36).same s17) (v6.same s17)
end
end Law

namespace Law
open PySem L2
section
variable {P : Program} {w : World} {K : PySem.W.Frag} {mg : Str → Option Value} {base : Heap}
def spTurned (K : PySem.W.Frag) : Sp := fun vs H Q _ => ∃ (p : Addr) (n : Nat), vs = [.ref p, .int (n : Nat)] ∧ HandAt H p ∧ 6 ≤ n ∧ n ≤ 12 ∧
  ∀ (a : Addr) (ms : List Mv) (H' : Hp), Stp p H H' → MvsAt K H' a ms → SysOk n ms → ms.length = 2 → Q (.ref a) H'
abbrev nLawTurned : List Str := ["_law_hand_here", "_law_many", "_law_order", "_law_left", "_law_turn", "_law_ring", "_law_step", "_law_at", "_law_moves_here"]
theorem scLawTurned : FnScope nLawTurned ["_law_hand_here", "_law_many"] (defScope s_law_turned) := ⟨rfl, rfl, rfl, by decide +kernel, rfl, by decide +kernel, by decide +kernel⟩
theorem ok_turned {f : Addr} {fd : FuncData} {fD : Addr} {fdD : FuncData} {fA : Addr} {fdA : FuncData} {fcLow : Addr} {fdcLow : FuncData} (F : Fun K "_law_turned" "_law_turned" s_law_turned f fd) (T : NmA mg) (D : Cl P w K mg base CX0 1 "_law_draw" fD fdD ["_law_hand_here", "_law_many"] spDraw) (A : Cl P w K mg base CX0 2 "_law_any" fA fdA ["_law_hand_here", "_law_items"] (spAny K)) (cLow : Cl P w K mg base CX0 1 "_law_low" fcLow fdcLow ["_law_top", "_law_bottom"] spLowS) : FnOk P w K mg base CX0 3 f fd ["_law_hand_here", "_law_many"] (spTurned K) := by
  refine F.ok scLawTurned (fun vs H Q E h => ?_) (fun cdv A' outer s H vs Q E hr h => ?_)
  · obtain ⟨p, n, rfl, _⟩ := h
    rfl
  · obtain ⟨p, n, rfl, hH, n6, n12, k⟩ := h
    have hu := hu_of hr
    refine ⟨_, pss_cons (ps_par (i := 2) (j := 3) (by rfl) scLawTurned.nd rfl rfl (by decide) rfl rfl (pa_cons (pe_lst pa_nil) (pa_cons (pe_listRg (by rfl) (by rfl) T.list (prg_1 (by rfl) T.range (pv 1))) pa_nil)) (by rfl))
      (pss_cons (ps_for PassesOwn.never rfl (pi_range1 (by rfl) T.range (pa_cons (pv 1) pa_nil)) (pg_name (i := 4) scLawTurned.nd rfl (Or.inl rfl))
        (pss_one (ps_expr (pe_bm PySem.F.plainAttrs_list PySem.F.slot_list_append PySem.F.type_list_append mt_append (pv 2) (pa_cons (pe_bm PySem.F.plainAttrs_list PySem.F.slot_list_pop PySem.F.type_list_pop mt_popAt (pv 3) (pa_cons (D.call (hr.mono (by decide)) (pa_cons (pv 0) (pa_cons (pe_callB call_len_seq (by rfl) T.len PySem.boot_len (pa_cons (pv 3) pa_nil)) pa_nil))) pa_nil)) pa_nil)))))
      (pss_cons (ps_par (i := 5) (j := 6) (by rfl) scLawTurned.nd rfl rfl (by decide) rfl rfl (pa_cons (pe_listRg (by rfl) (by rfl) T.list (prg_1 (by rfl) T.range (pv 1))) (pa_cons (pe_listRg (by rfl) (by rfl) T.list (prg_1 (by rfl) T.range (pv 1))) pa_nil)) (by rfl))
      (pss_cons (ps_for PassesOwn.never rfl (pi_range1 (by rfl) T.range (pa_cons (pv 1) pa_nil)) (pg_name (i := 7) scLawTurned.nd rfl (Or.inl rfl))
        (pss_one (ps_asg (pe_ix ix_list (pv 2) (pe_op op_mod (pe_callTy call_int1 (by rfl) T.int (by decide +kernel) (pa_cons (pe_op op_add (pv 7) pe_int) pa_nil)) (pv 1)) (fun _ _ => rfl)) (pg_sub (pv 5) (pe_ix ix_list (pv 2) (pv 7) (fun _ _ => rfl)) set_list))))
      (pss_cons (ps_asg (pe_ix ix_list (pv 2) (A.call (hr.mono (by decide)) (pa_cons (pv 0) (pa_cons (pe_lst (pa_cons pe_int (pa_cons pe_int (pa_cons pe_int (pa_cons (pe_op op_sub (pv 1) pe_int) (pa_cons pe_int pa_nil)))))) pa_nil))) (fun _ _ => rfl)) (pg_sub (pv 6) (pe_ix ix_list (pv 2) pe_int (fun _ _ => rfl)) set_list))
      (pss_cons (ps_set (i := 8) scLawTurned.nd rfl (Or.inl rfl) (pe_tup (pa_cons (pe_tup (pa_cons (cLow.call (hr.mono (by decide)) (pa_cons pe_int (pa_cons pe_int pa_nil))) (pa_cons (pe_callTy call_tuple_of (by rfl) T.tuple (by decide +kernel) (pa_cons (pv 5) pa_nil)) pa_nil))) (pa_cons (pe_tup (pa_cons (cLow.call (hr.mono (by decide)) (pa_cons pe_int (pa_cons pe_int pa_nil))) (pa_cons (pe_callTy call_tuple_of (by rfl) T.tuple (by decide +kernel) (pa_cons (pv 6) pa_nil)) pa_nil))) pa_nil))))
      (pss_one (ps_ret (pe_ifExp (pt_cmpR op_eq (D.call (hr.mono (by decide)) (pa_cons (pv 0) (pa_cons pe_int pa_nil))) pe_int (nomark _)) (pv 8) (pe_revT (pv 8)))))))))), ?_⟩
    have rgok : RgOk 0 (n : Int) := RgOk.of_le (by decide) (by omega) (by decide) (by omega)
    have up : rgV 0 (n : Int) = (upto n).map V.int := rgV_up n
    have uin : ∀ x ∈ upto n, 0 ≤ x ∧ x < (n : Int) := fun x hx => mem_upto.mp hx
    refine ⟨by show 0 ≤ sizeLine; decide, fun r hr' => ?_⟩
    have nr : r ≠ p := ne_hand hH hr'
    refine new_step hr' fun H1 s1 e1 => ?_
    refine ⟨_, rfl, (n : Int), rfl, rgok, fun q hq => ⟨_, _, rfl, ?_⟩⟩
    have qr : q ≠ r := Ne.symm (ne_of_none e1 hq)
    have nq : q ≠ p := ne_hand (hH.same s1) hq
    have qH : H q = none := s1.free hq
    refine new_step hq fun H2 s2 e2 => ?_
    rw [up] at e2
    have S2 : Stp p H H2 := Stp.of hH (s1.trans s2)
    refine ⟨_, rfl, (n : Int), rfl, by omega, by omega, ?_⟩
    rw [Int.toNat_natCast]
    refine for_range (lo := 0) (n := n) (fun i σ H' => Stp p H H' ∧ ∃ (ls ws : List Int) (u : Option V), H' q = some (.lst (ls.map V.int)) ∧ H' r = some (.lst (ws.map V.int)) ∧ ls.length + i = n ∧ ws.length = i ∧ (∀ x ∈ ls, 0 ≤ x ∧ x < (n : Int)) ∧ (∀ x ∈ ws, 0 ≤ x ∧ x < (n : Int)) ∧
      σ = [some (.ref p), some (.int (n : Int)), some (.ref r), some (.ref q), u, none, none, none, none]) ⟨S2, upto n, [], none, e2, s2 _ _ e1, by rw [upto_len] <;> rfl, rfl, uin, fun x hx => absurd hx List.not_mem_nil, rfl⟩ ?_ ?_
    · rintro i σ H' hi ⟨S4, ls, ws, u, h1, h2, h3, h4, h5, h6, rfl⟩
      refine ⟨_, rfl, .inl ⟨rfl, _, SqL.of h2⟩, _, rfl, .inl ⟨rfl, _, SqL.of h1⟩, _, rfl, _, rfl, q, _, rfl, .inl (SqL.of h1), p, _, rfl, ?_, ?_, S4.hand, fun d2 H5 e0 e1 S5 => ?_⟩
      · rw [List.length_map]
        omega
      · rw [List.length_map]
        omega
      · rw [List.length_map] at e1
        obtain ⟨j, rfl⟩ := Int.eq_ofNat_of_zero_le e0
        have hj : j < ls.length := by omega
        have h1' := S5.keep _ _ nq h1
        have h2' := S5.keep _ _ nr h2
        refine ⟨q, _, (j : Int), j, V.int ls[j], rfl, rfl, h1', by omega, by omega, ?_, ?_, ?_⟩
        · unfold seqIndex?
          rw [if_neg (show ¬ ((j : Int) < 0) by omega), List.length_map]
          simp
          omega
        · rw [List.getElem?_map, List.getElem?_eq_getElem hj] <;> rfl
        · have S6 : Stp p H (upd H5 q (.lst ((ls.map V.int).eraseIdx j))) := (S4.trans S5).mut hH qH
          refine ⟨r, _, _, rfl, rfl, by rw [upd_ne (Ne.symm qr)]; exact h2', by rw [List.length_map, h4]; exact small1000 (by omega), S6.mut hH hr', ls.eraseIdx j, ws ++ [ls[j]], _, ?_, ?_, ?_, ?_, ?_, ?_, rfl⟩
          · rw [upd_ne qr, upd_same, erase_mapI]
          · rw [upd_same, List.map_append] <;> rfl
          · rw [List.length_eraseIdx, if_pos hj]
            omega
          · rw [List.length_append, h4] <;> rfl
          · exact fun x hx => h5 x (List.mem_of_mem_eraseIdx hx)
          · intro x hx
            rcases List.mem_append.mp hx with h | h
            · exact h6 x h
            · rw [List.mem_singleton.mp h]
              exact h5 _ (List.getElem_mem hj)
    · rintro σ H3 ⟨S3, ls, ord, u, h1, h2, h3, lo, h5, bo, rfl⟩
      refine ⟨_, rfl, (n : Int), rfl, rgok, fun g hg => ?_⟩
      have gp : g ≠ p := ne_hand S3.hand hg
      have gr : g ≠ r := Ne.symm (ne_of_none h2 hg)
      have gH : H g = none := S3.free hg
      refine new_step hg fun H4 s4 e4 => ?_
      refine ⟨_, rfl, (n : Int), rfl, rgok, fun t ht => ⟨_, _, rfl, ?_⟩⟩
      have S4 := S3.post s4
      have tp : t ≠ p := ne_hand S4.hand ht
      have tr : t ≠ r := Ne.symm (ne_of_none (s4 _ _ h2) ht)
      have tg : t ≠ g := Ne.symm (ne_of_none e4 ht)
      have tH : H t = none := S4.free ht
      refine new_step ht fun H5 s5 e5 => ?_
      have S5 := S4.post s5
      have g5 := s5 _ _ e4
      have o5 := s5 _ _ (s4 _ _ h2)
      rw [up] at g5 e5
      have at_o : ∀ i : Int, 0 ≤ i → i < (n : Int) → ∃ v, atI (ord.map V.int) i = some (.int v) ∧ 0 ≤ v ∧ v < (n : Int) := fun i i0 i1 => by
        have hi : i.toNat < ord.length := by omega
        exact ⟨ord[i.toNat], ints_ix i0 (List.getElem?_eq_getElem hi), bo _ (List.getElem_mem hi)⟩
      refine ⟨_, rfl, (n : Int), rfl, by omega, by omega, ?_⟩
      rw [Int.toNat_natCast]
      refine for_range (lo := 0) (n := n) (fun i σ H' => Stp p H H' ∧ ∃ (ws : List Int) (v : Option V), H' g = some (.lst (ws.map V.int)) ∧ H' r = some (.lst (ord.map V.int)) ∧ H' t = some (.lst ((upto n).map V.int)) ∧ ws.length = n ∧ (∀ x ∈ ws, 0 ≤ x ∧ x < (n : Int)) ∧
        σ = [some (.ref p), some (.int (n : Int)), some (.ref r), some (.ref q), u, some (.ref g), some (.ref t), v, none]) ⟨S5, upto n, none, g5, o5, e5, upto_len n, uin, rfl⟩ ?_ ?_
      · rintro i σ H6 hi ⟨S6, ws, v, g6, o6, t6, wl, wb, rfl⟩
        rw [Int.zero_add]
        have m0 : 0 ≤ ((i : Int) + 1) % (n : Int) := Int.emod_nonneg _ (by omega)
        have m1 : ((i : Int) + 1) % (n : Int) < (n : Int) := Int.emod_lt_of_pos _ (by omega)
        obtain ⟨x, hx, x0, x1⟩ := at_o _ m0 m1
        obtain ⟨y, hy, y0, y1⟩ := at_o (i : Int) (by omega) (by omega)
        obtain ⟨j, rfl⟩ := Int.eq_ofNat_of_zero_le y0
        refine ⟨_, rfl, _, rfl, _, _, rfl, rfl, .inl ⟨_, rfl, _, rfl, _, _, rfl, rfl, by show (0 : Int) < (n : Int); omega, r, _, _, _, rfl, rfl, SqL.of o6, hx, _, rfl, _, rfl, _, rfl, r, _, _, _, rfl, rfl, SqL.of o6, hy, g, _, _, j, rfl, rfl, g6, Evl.ixN_nat (by rw [List.length_map]; omega), ?_⟩⟩
        refine ⟨S6.mut hH gH, ws.set j x, _, by rw [upd_same, List.map_set], by rw [upd_ne (Ne.symm gr)]; exact o6, by rw [upd_ne tg]; exact t6, by rw [List.length_set]; exact wl, fun z hz => ?_, rfl⟩
        rcases List.mem_or_eq_of_mem_set hz with h | h
        · exact wb z h
        · rw [h]
          exact ⟨x0, x1⟩
      · rintro σ H6 ⟨S6, ws, v, g6, o6, t6, wl, wb, rfl⟩
        refine ⟨_, rfl, _, rfl, _, rfl, _, _, rfl, rfl, by show 5 ≤ sizeLine; decide, fun L hL => ?_⟩
        have Lp : L ≠ p := ne_hand S6.hand hL
        refine new_step hL fun H7 s7 e7 => ?_
        have S7 := S6.post s7
        refine ⟨p, L, [.int 1, .int 1, .int 1, .int ((n : Int) - 1), .int 5], rfl, .inl ⟨SqL.of e7, Lp⟩, by show 0 < 5; decide, by show 5 < 1073741824; decide, S7.hand, fun j x H8 hx S8 => ?_⟩
        have hx := List.mem_of_getElem? hx
        obtain ⟨d, rfl, d0, d1⟩ : ∃ d : Int, x = .int d ∧ 0 ≤ d ∧ d < (n : Int) := by
          rcases List.mem_cons.mp hx with rfl | hx
          · exact ⟨1, rfl, by omega, by omega⟩
          rcases List.mem_cons.mp hx with rfl | hx
          · exact ⟨1, rfl, by omega, by omega⟩
          rcases List.mem_cons.mp hx with rfl | hx
          · exact ⟨1, rfl, by omega, by omega⟩
          rcases List.mem_cons.mp hx with rfl | hx
          · exact ⟨_, rfl, by omega, by omega⟩
          · rw [List.mem_singleton.mp hx]
            exact ⟨5, rfl, by omega, by omega⟩
        obtain ⟨y, hy, y0, y1⟩ := at_o d d0 d1
        obtain ⟨z, hz, z0, z1⟩ := at_o 0 (by omega) (by omega)
        obtain ⟨j, rfl⟩ := Int.eq_ofNat_of_zero_le z0
        have S78 := S7.trans S8
        have o8 := S8.keep _ _ nr (s7 _ _ o6)
        have g8 := S8.keep _ _ gp (s7 _ _ g6)
        have t8 := S8.keep _ _ tp (s7 _ _ t6)
        refine ⟨r, _, _, _, rfl, rfl, SqL.of o8, hy, _, rfl, _, rfl, r, _, _, _, rfl, rfl, SqL.of o8, hz, t, _, _, j, rfl, rfl, t8, Evl.ixN_nat (by rw [List.length_map, upto_len]; omega), ?_⟩
        have S9 : Stp p H (upd H8 t (.lst (((upto n).map V.int).set j (.int y)))) := S78.mut hH tH
        have t9 : (upd H8 t (.lst (((upto n).map V.int).set j (.int y)))) t = some (.lst (((upto n).set j y).map V.int)) := by rw [upd_same, List.map_set]
        have g9 : (upd H8 t (.lst (((upto n).map V.int).set j (.int y)))) g = some (.lst (ws.map V.int)) := by rw [upd_ne (Ne.symm tg)]; exact g8
        have sl : ((upto n).set j y).length = n := by rw [List.length_set, upto_len]
        have sb : ∀ x ∈ (upto n).set j y, 0 ≤ x ∧ x < (n : Int) := fun x hx => by
          rcases List.mem_or_eq_of_mem_set hx with h | h
          · exact uin x h
          · rw [h]
            exact ⟨y0, y1⟩
        generalize upd H8 t (.lst (((upto n).map V.int).set j (.int y))) = H9 at S9 t9 g9
        generalize (upto n).set j y = us at t9 sl sb
        refine ⟨1, 2, rfl, by decide, by decide, by decide, fun a1 ha1 => ?_⟩
        refine new_step ha1 fun G1 s1 e1 => ?_
        refine ⟨_, rfl, g, _, rfl, .inl ⟨SqL.of (s1 _ _ g9), fun a2 ha2 => ?_⟩⟩
        refine new_step ha2 fun G2 s2 e2 => ?_
        refine ⟨by show 2 ≤ sizeLine; decide, fun a3 ha3 => ?_⟩
        refine new_step ha3 fun G3 s3 e3 => ?_
        refine ⟨1, 2, rfl, by decide, by decide, by decide, fun a4 ha4 => ?_⟩
        refine new_step ha4 fun G4 s4 e4 => ?_
        have s14 := (s1.trans s2).trans (s3.trans s4)
        refine ⟨_, rfl, t, _, rfl, .inl ⟨SqL.of (s14 _ _ t9), fun a5 ha5 => ?_⟩⟩
        refine new_step ha5 fun G5 s5 e5 => ?_
        refine ⟨by show 2 ≤ sizeLine; decide, fun a6 ha6 => ?_⟩
        refine new_step ha6 fun G6 s6 e6 => ?_
        refine ⟨by show 2 ≤ sizeLine; decide, fun a7 ha7 => ?_⟩
        refine new_step ha7 fun G7 s7 e7 => ?_
        have r57 := s5.trans (s6.trans s7)
        have r37 := (s3.trans s4).trans r57
        have sh := share_ok (t := 1) (b := 2) (by decide) (by decide) (by decide)
        have one2 : OneOk [lowP 1 2, lowP 1 2] := one_of (ws := [1, 1]) (by simp) (fun x hx => by simp at hx; omega)
        have A1 : MvAt K G7 (.ref a3) (lowP 1 2, ws) := ⟨a3, a1, a2, rfl, SqT.of ((s4.trans r57) _ _ e3), SqT.of ((s2.trans r37) _ _ e1), SqT.of (r37 _ _ e2)⟩
        have A2 : MvAt K G7 (.ref a6) (lowP 1 2, us) := ⟨a6, a4, a5, rfl, SqT.of (s7 _ _ e6), SqT.of (r57 _ _ e4), SqT.of ((s6.trans s7) _ _ e5)⟩
        have SG : Stp p H G7 := S9.post (s14.trans r57)
        have mvo1 : MvOk n (lowP 1 2, ws) := ⟨sh.1, sh.2.1, sh.2.2, wl, wb⟩
        have mvo2 : MvOk n (lowP 1 2, us) := ⟨sh.1, sh.2.1, sh.2.2, sl, sb⟩
        refine ⟨_, rfl, p, 2, rfl, by decide, by decide, SG.hand, fun d2 G8 _ _ S8' => ⟨rfl, _, rfl, ite2 (fun _ => ?_) (fun _ => ?_)⟩⟩
        · refine ⟨_, rfl, k a7 [(lowP 1 2, ws), (lowP 1 2, us)] G8 (SG.trans S8') ?_ ⟨by omega, n12, by show 1 ≤ 2; decide, by show 2 ≤ 24; decide, fun m hm => ?_, one2⟩ rfl⟩
          · exact ⟨_, S8'.sqT SG.hand (SqT.of e7), (AllIn.nil.snoc (v := .ref a3) (x := (lowP 1 2, ws)) (A1.stp SG.hand S8')).snoc (A2.stp SG.hand S8')⟩
          · rcases List.mem_cons.mp hm with rfl | hm
            · exact mvo1
            · rw [List.mem_singleton.mp hm]
              exact mvo2
        · refine ⟨_, rfl, a7, _, rfl, S8'.sqT SG.hand (SqT.of e7), fun b hb => ?_⟩
          refine new_step hb fun G9 s9 e9 => ?_
          refine k b [(lowP 1 2, us), (lowP 1 2, ws)] G9 ((SG.trans S8').post s9) ?_ ⟨by omega, n12, by show 1 ≤ 2; decide, by show 2 ≤ 24; decide, fun m hm => ?_, one2⟩ rfl
          · exact ⟨_, SqT.of e9, (AllIn.nil.snoc (v := .ref a6) (x := (lowP 1 2, us)) ((A2.stp SG.hand S8').same s9)).snoc ((A1.stp SG.hand S8').same s9)⟩
          · rcases List.mem_cons.mp hm with rfl | hm
            · exact mvo2
            · rw [List.mem_singleton.mp hm]
              exact mvo1
end
end Law

namespace L2
open PySem PySem.Spec PyProof.Rows Law
/-! ### how long a least row may be -/
theorem len_parts {α : Type} (p : α → Bool) : ∀ l : List α, l.length = (l.filter p).length + (l.filter fun a => !p a).length
  | [] => rfl
  | a :: l => by
    have ih := len_parts p l
    rw [List.length_cons, List.filter_cons, List.filter_cons]
    cases h : p a
    · show l.length + 1 = (l.filter p).length + ((l.filter fun a => !p a).length + 1)
      omega
    · show l.length + 1 = (l.filter p).length + 1 + (l.filter fun a => !p a).length
      omega
theorem classes_le {α : Type} [DecidableEq α] {β : Type} (g : β → α) (m : Nat) : ∀ (L : List α) (J : List β), (∀ j ∈ J, g j ∈ L) → (∀ c ∈ L, (J.filter fun j => decide (g j = c)).length ≤ m) → J.length ≤ L.length * m
  | [], J, h, _ => by
    cases J with
    | nil => exact Nat.zero_le _
    | cons j J => exact absurd (h j List.mem_cons_self) List.not_mem_nil
  | c :: L, J, h, hm => by
    have e := len_parts (fun j => decide (g j = c)) J
    have h1 := hm c List.mem_cons_self
    have h2 := classes_le g m L (J.filter fun j => !decide (g j = c)) (fun j hj => by
      obtain ⟨a, b⟩ := List.mem_filter.mp hj
      rcases List.mem_cons.mp (h j a) with z | z
      · rw [decide_eq_true z] at b
        cases b
      · exact z) fun d hd => by
      refine Nat.le_trans ?_ (hm d (List.mem_cons_of_mem _ hd))
      exact (List.Sublist.filter _ List.filter_sublist).length_le
    rw [List.length_cons, Nat.succ_mul]
    omega
/-- sets and pairs, each pair apart from its own set and met by all sets before -/
theorem skew {d s : Nat} {u v : Nat → Int} {C : Nat → List Int} (hC : ∀ i, i < d → (C i).length ≤ s) (hu : ∀ i, i < d → u i ∉ C i) (hv : ∀ i, i < d → v i ∉ C i) (hm : ∀ i j, i < j → j < d → u j ∈ C i ∨ v j ∈ C i) : d ≤ 1 + s * (s + 1) := by
  rcases Nat.eq_zero_or_pos d with rfl | d0
  · exact Nat.zero_le _
  let g : Nat → Int := fun j => if u j ∈ C 0 then u j else v j
  let w : Nat → Int := fun j => if u j ∈ C 0 then v j else u j
  have gw : ∀ j, (g j = u j ∧ w j = v j) ∨ (g j = v j ∧ w j = u j) := fun j => by
    by_cases c : u j ∈ C 0
    · exact .inl ⟨if_pos c, if_pos c⟩
    · exact .inr ⟨if_neg c, if_neg c⟩
  have key := classes_le g (s + 1) (C 0) (List.range' 1 (d - 1)) (fun j hj => by
    have hj := List.mem_range'_1.mp hj
    rcases hm 0 j (by omega) (by omega) with z | z
    · show (if u j ∈ C 0 then u j else v j) ∈ C 0
      rw [if_pos z]
      exact z
    · show (if u j ∈ C 0 then u j else v j) ∈ C 0
      by_cases c : u j ∈ C 0
      · rw [if_pos c]
        exact c
      · rw [if_neg c]
        exact z) fun c hc => by
    have asc : ((List.range' 1 (d - 1)).filter fun j => decide (g j = c)).Pairwise (· < ·) := (List.pairwise_lt_range' (s := 1) (n := d - 1)).filter _
    have mem : ∀ j ∈ (List.range' 1 (d - 1)).filter fun j => decide (g j = c), j < d ∧ g j = c := fun j hj => by
      obtain ⟨a, b⟩ := List.mem_filter.mp hj
      have a := List.mem_range'_1.mp a
      exact ⟨by omega, of_decide_eq_true b⟩
    generalize (List.range' 1 (d - 1)).filter (fun j => decide (g j = c)) = J at asc mem
    cases J with
    | nil => exact Nat.zero_le _
    | cons i J =>
      rw [List.length_cons]
      obtain ⟨id, ic⟩ := mem i List.mem_cons_self
      rw [List.pairwise_cons] at asc
      have cn : ∀ a, a < d → g a = c → c ∉ C a := fun a ha e => by
        rcases gw a with ⟨z, _⟩ | ⟨z, _⟩
        · rw [← e, z]
          exact hu a ha
        · rw [← e, z]
          exact hv a ha
      have wn : ∀ a, a < d → w a ∉ C a := fun a ha => by
        rcases gw a with ⟨_, z⟩ | ⟨_, z⟩
        · rw [z]
          exact hv a ha
        · rw [z]
          exact hu a ha
      have wm : ∀ a b, a < b → b < d → g a = c → g b = c → w b ∈ C a := fun a b ab bd ea eb => by
        have n := cn a (by omega) ea
        rcases gw b with ⟨z1, z2⟩ | ⟨z1, z2⟩
        · rcases hm a b ab bd with y | y
          · rw [← z1, eb] at y
            exact absurd y n
          · rw [z2]
            exact y
        · rcases hm a b ab bd with y | y
          · rw [z2]
            exact y
          · rw [← z1, eb] at y
            exact absurd y n
      have nd : (J.map w).Nodup := by
        unfold List.Nodup
        rw [List.pairwise_map]
        refine List.Pairwise.imp_of_mem (fun {a b} ha hb ab e => ?_) asc.2
        obtain ⟨a1, a2⟩ := mem a (List.mem_cons_of_mem _ ha)
        obtain ⟨b1, b2⟩ := mem b (List.mem_cons_of_mem _ hb)
        have z := wm a b ab b1 a2 b2
        rw [← e] at z
        exact wn a a1 z
      have le := List.Nodup.length_le_of_subset (l₂ := C i) nd fun x hx => by
        obtain ⟨b, hb, rfl⟩ := List.mem_map.mp hx
        obtain ⟨b1, b2⟩ := mem b (List.mem_cons_of_mem _ hb)
        exact wm i b (asc.1 b hb) b1 ic b2
      rw [List.length_map] at le
      have := hC i id
      omega
  rw [List.length_range'] at key
  have z : (C 0).length * (s + 1) ≤ s * (s + 1) := Nat.mul_le_mul_right _ (hC 0 d0)
  omega
/-- two of e come together -/
def Mg (e : List Int) (f : Int → Int) : Prop := ∃ x y, x ∈ e ∧ y ∈ e ∧ x ≠ y ∧ f x = f y
theorem not_mg {e : List Int} {f : Int → Int} (h : ¬ Mg e f) {x y : Int} (hx : x ∈ e) (hy : y ∈ e) (ne : x ≠ y) : f x ≠ f y := fun z => h ⟨x, y, hx, hy, ne, z⟩
def bnd (s : Nat) : Nat := min 66 (1 + s * (s + 1))
theorem shrink {n : Nat} (hn : n ≤ 12) {Ls : List (List Int)} (h : LsOk n Ls) {e : List Int} (he : InN n e) (nd : e.Nodup) {p0 : List Int} (hp0 : RwOk Ls.length p0) (m0 : Mg e (goS Ls p0)) : ∃ p, RwOk Ls.length p ∧ Mg e (goS Ls p) ∧ p.length ≤ bnd (n - e.length) := by
  obtain ⟨d, _, ⟨p, hp, ⟨x, y, hx, hy, ne, exy⟩, rfl⟩, low⟩ := st_least (p := fun d => ∃ p, RwOk Ls.length p ∧ Mg e (goS Ls p) ∧ p.length = d) p0.length ⟨p0, hp0, m0, rfl⟩
  refine ⟨p, hp, ⟨x, y, hx, hy, ne, exy⟩, ?_⟩
  have tk : ∀ i, RwOk Ls.length (p.take i) := fun i r hr => hp r (List.mem_of_mem_take hr)
  have dr : ∀ i, RwOk Ls.length (p.drop i) := fun i r hr => hp r (List.mem_of_mem_drop hr)
  have un : ∀ i, i < p.length → ¬ Mg e (goS Ls (p.take i)) := fun i hi z => low i hi ⟨p.take i, tk i, z, by rw [List.length_take]; omega⟩
  have fin : ∀ j (z : Int), goS Ls (p.drop j) (goS Ls (p.take j) z) = goS Ls p z := fun j z => by rw [← goS_app, List.take_append_drop]
  -- the pair at j is not in the lot at an earlier i
  have out : ∀ i j, i < j → j < p.length → ∀ x' y', x' ∈ e → y' ∈ e → goS Ls (p.take j) x = goS Ls (p.take i) x' → goS Ls (p.take j) y = goS Ls (p.take i) y' → False := fun i j ij jd x' y' hx' hy' e1 e2 => by
    have d1 := not_mg (un j jd) hx hy ne
    refine low (i + (p.length - j)) (by omega) ⟨p.take i ++ p.drop j, (tk i).app (dr j), ⟨x', y', hx', hy', fun z => ?_, ?_⟩, by rw [List.length_append, List.length_take, List.length_drop]; omega⟩
    · rw [z, ← e2] at e1
      exact d1 e1
    · rw [goS_app, goS_app, ← e1, ← e2, fin, fin]
      exact exy
  have inn : ∀ i (z : Int), z ∈ e → goS Ls (p.take i) z ∈ upto n := fun i z hz => mem_upto.mpr (goS_in h _ z (tk i) (he z hz))
  have b1 : p.length ≤ 66 := by
    let c : Nat → List Int := fun i => if goS Ls (p.take i) x < goS Ls (p.take i) y then [goS Ls (p.take i) x, goS Ls (p.take i) y] else [goS Ls (p.take i) y, goS Ls (p.take i) x]
    have cm : ∀ i, i < p.length → c i ∈ couplesF n := fun i hi => by
      have d1 := not_mg (un i hi) hx hy ne
      have z1 := mem_upto.mp (inn i x hx)
      have z2 := mem_upto.mp (inn i y hy)
      show (if _ then _ else _) ∈ _
      split
      · exact couple_mem.mpr ⟨_, _, rfl, z1.1, by assumption, z2.2⟩
      · exact couple_mem.mpr ⟨_, _, rfl, z2.1, by omega, z1.2⟩
    have cn : ((List.range p.length).map c).Nodup := by
      unfold List.Nodup
      rw [List.pairwise_map]
      refine List.Pairwise.imp_of_mem (fun {i j} hi hj ij e => ?_) (List.pairwise_lt_range (n := p.length))
      have jd := List.mem_range.mp hj
      have cases2 : (goS Ls (p.take j) x = goS Ls (p.take i) x ∧ goS Ls (p.take j) y = goS Ls (p.take i) y) ∨ (goS Ls (p.take j) x = goS Ls (p.take i) y ∧ goS Ls (p.take j) y = goS Ls (p.take i) x) := by
        have e : (if goS Ls (p.take i) x < goS Ls (p.take i) y then [goS Ls (p.take i) x, goS Ls (p.take i) y] else [goS Ls (p.take i) y, goS Ls (p.take i) x]) = (if goS Ls (p.take j) x < goS Ls (p.take j) y then [goS Ls (p.take j) x, goS Ls (p.take j) y] else [goS Ls (p.take j) y, goS Ls (p.take j) x]) := e
        split at e <;> split at e <;> (injection e with e1 e2; injection e2 with e2 _)
        · exact .inl ⟨e1.symm, e2.symm⟩
        · exact .inr ⟨e2.symm, e1.symm⟩
        · exact .inr ⟨e1.symm, e2.symm⟩
        · exact .inl ⟨e2.symm, e1.symm⟩
      rcases cases2 with ⟨z1, z2⟩ | ⟨z1, z2⟩
      · exact out i j ij jd x y hx hy z1 z2
      · exact out i j ij jd y x hy hx z1 z2
    have le := List.Nodup.length_le_of_subset cn fun z hz => by
      obtain ⟨i, hi, rfl⟩ := List.mem_map.mp hz
      exact cm i (List.mem_range.mp hi)
    rw [List.length_map, List.length_range] at le
    exact Nat.le_trans le (couples_66 hn)
  have b2 : p.length ≤ 1 + (n - e.length) * ((n - e.length) + 1) := by
    refine skew (u := fun i => goS Ls (p.take i) x) (v := fun i => goS Ls (p.take i) y) (C := fun i => (upto n).filter fun z => !decide (z ∈ e.map (goS Ls (p.take i)))) (fun i hi => ?_) (fun i _ z => ?_) (fun i _ z => ?_) fun i j ij jd => ?_
    · have e1 := len_parts (fun z => decide (z ∈ e.map (goS Ls (p.take i)))) (upto n)
      rw [upto_len] at e1
      have nd2 : (e.map (goS Ls (p.take i))).Nodup := by
        unfold List.Nodup
        rw [List.pairwise_map]
        exact List.Pairwise.imp_of_mem (fun {a b} ha hb ab => not_mg (un i hi) ha hb ab) nd
      have le := List.Nodup.length_le_of_subset (l₂ := (upto n).filter fun z => decide (z ∈ e.map (goS Ls (p.take i)))) nd2 fun z hz => by
        refine List.mem_filter.mpr ⟨?_, decide_eq_true hz⟩
        obtain ⟨a, ha, rfl⟩ := List.mem_map.mp hz
        exact inn i a ha
      rw [List.length_map] at le
      show (List.filter _ (upto n)).length ≤ _
      omega
    · have z := (List.mem_filter.mp z).2
      rw [decide_eq_true (List.mem_map.mpr ⟨x, hx, rfl⟩)] at z
      cases z
    · have z := (List.mem_filter.mp z).2
      rw [decide_eq_true (List.mem_map.mpr ⟨y, hy, rfl⟩)] at z
      cases z
    · refine Classical.byContradiction fun z => ?_
      have m1 : goS Ls (p.take j) x ∈ e.map (goS Ls (p.take i)) := Classical.byContradiction fun q => z (.inl (List.mem_filter.mpr ⟨inn j x hx, by rw [decide_eq_false q] <;> rfl⟩))
      have m2 : goS Ls (p.take j) y ∈ e.map (goS Ls (p.take i)) := Classical.byContradiction fun q => z (.inr (List.mem_filter.mpr ⟨inn j y hy, by rw [decide_eq_false q] <;> rfl⟩))
      obtain ⟨x', hx', e1⟩ := List.mem_map.mp m1
      obtain ⟨y', hy', e2⟩ := List.mem_map.mp m2
      exact out i j ij jd x' y' hx' hy' e1.symm e2.symm
  unfold bnd
  omega
def totB (n : Nat) : Nat → Nat
  | 0 => 0
  | k + 1 => (if k = 0 then 0 else bnd (n - (k + 1))) + totB n k
theorem totB_mono {n : Nat} : ∀ {k m : Nat}, k ≤ m → totB n k ≤ totB n m
  | k, 0, h => by rw [Nat.le_zero.mp h]; exact Nat.le_refl _
  | k, m + 1, h => by
    by_cases c : k = m + 1
    · rw [c]; exact Nat.le_refl _
    · have := totB_mono (n := n) (k := k) (m := m) (by omega)
      show _ ≤ (if m = 0 then 0 else bnd (n - (m + 1))) + totB n m
      omega
theorem merge_short {n : Nat} (hn : n ≤ 12) {Ls : List (List Int)} (h : LsOk n Ls) {q : List Int} (hq : RwOk Ls.length q) (all : ∀ x y : Int, 0 ≤ x → x < (n : Int) → 0 ≤ y → y < (n : Int) → goS Ls q x = goS Ls q y) :
    ∀ (k : Nat) (e : List Int), e.length ≤ k → 0 < e.length → InN n e → e.Nodup → ∃ p, RwOk Ls.length p ∧ p.length ≤ totB n k ∧ ∀ x ∈ e, ∀ y ∈ e, goS Ls p x = goS Ls p y
  | 0, e, hk, h0, _, _ => absurd h0 (by omega)
  | k + 1, e, hk, h0, he, nd => by
    by_cases c : e.length ≤ k
    · obtain ⟨p, h1, h2, h3⟩ := merge_short hn h hq all k e c h0 he nd
      exact ⟨p, h1, Nat.le_trans h2 (totB_mono (by omega)), h3⟩
    · have ek : e.length = k + 1 := by omega
      match e, ek with
      | [x], _ =>
        refine ⟨[], fun r hr => absurd hr List.not_mem_nil, Nat.zero_le _, fun a ha b hb => ?_⟩
        rw [List.mem_singleton.mp ha, List.mem_singleton.mp hb]
      | x :: y :: t, ek =>
        have ne : x ≠ y := (List.pairwise_cons.mp nd).1 y List.mem_cons_self
        have ix := he x List.mem_cons_self
        have iy := he y (by simp)
        obtain ⟨p, hp, ⟨a, b, ha, hb, nab, eab⟩, lp⟩ := shrink hn h he nd hq ⟨x, y, List.mem_cons_self, by simp, ne, all x y ix.1 ix.2 iy.1 iy.2⟩
        have i2 : InN n ((x :: y :: t).map (goS Ls p)) := mapN h hp he
        have lotnd : (lotF ((x :: y :: t).map (goS Ls p))).Nodup := (lot_asc _).imp fun h => by omega
        have less : (lotF ((x :: y :: t).map (goS Ls p))).length ≤ k := by
          have z := List.Nodup.length_le_of_subset (l₂ := ((x :: y :: t).erase b).map (goS Ls p)) lotnd fun z hz => by
            have hz := (lot_mem (i2.in12 hn) z).mp hz
            obtain ⟨m, hm, rfl⟩ := List.mem_map.mp hz
            by_cases c : m = b
            · rw [c, ← eab]
              exact List.mem_map.mpr ⟨a, (List.mem_erase_of_ne nab).mpr ha, rfl⟩
            · exact List.mem_map.mpr ⟨m, (List.mem_erase_of_ne c).mpr hm, rfl⟩
          rw [List.length_map, List.length_erase_of_mem hb, ek] at z
          exact z
        have pos : 0 < (lotF ((x :: y :: t).map (goS Ls p))).length := List.length_pos_of_mem ((lot_mem (i2.in12 hn) (goS Ls p x)).mpr (List.mem_map.mpr ⟨x, List.mem_cons_self, rfl⟩))
        obtain ⟨r, hr, lr, mr⟩ := merge_short hn h hq all k _ less pos (lotN hn i2) lotnd
        refine ⟨p ++ r, hp.app hr, ?_, fun u hu v hv => ?_⟩
        · rw [List.length_append]
          rw [ek] at lp
          show _ ≤ (if k = 0 then 0 else bnd (n - (k + 1))) + totB n k
          have k0 : k ≠ 0 := fun z => by rw [z, List.length_cons, List.length_cons] at ek; omega
          rw [if_neg k0]
          omega
        · rw [goS_app, goS_app]
          exact mr _ ((lot_mem (i2.in12 hn) _).mpr (List.mem_map.mpr ⟨u, hu, rfl⟩)) _ ((lot_mem (i2.in12 hn) _).mpr (List.mem_map.mpr ⟨v, hv, rfl⟩))
theorem totB_400 {n : Nat} (h : n ≤ 12) : totB n n ≤ 400 := by
  have z : (List.range 13).all (fun n => decide (totB n n ≤ 400)) = true := by decide +kernel
  rw [List.all_eq_true] at z
  exact of_decide_eq_true (z n (List.mem_range.mpr (by omega)))
/-- A LEAST ROW HAS AT MOST 400 MOVES -/
theorem best_400 {n : Nat} (hn : n ≤ 12) (h1 : 1 ≤ n) {Ls : List (List Int)} (h : LsOk n Ls) {r : List Int} (b : Best Ls (upto n) (some r)) : r.length ≤ 400 := by
  obtain ⟨b1, b2, b3⟩ := b
  have i := mapN h b1 (upto_in n)
  rw [rch_all hn h b1] at b2
  obtain ⟨z, _, ez, _⟩ := lot_one (i.in12 hn) b2
  have nd : (upto n).Nodup := (upto_asc n).imp fun h => by omega
  obtain ⟨p, hp, lp, ap⟩ := merge_short hn h b1 (fun x y x0 x1 y0 y1 => by
    rw [ez _ (List.mem_map.mpr ⟨x, mem_upto.mpr ⟨x0, x1⟩, rfl⟩), ez _ (List.mem_map.mpr ⟨y, mem_upto.mpr ⟨y0, y1⟩, rfl⟩)]) n (upto n) (by rw [upto_len]; exact Nat.le_refl _) (by rw [upto_len]; omega) (upto_in n) nd
  have ip := mapN h hp (upto_in n)
  have z0 : (0 : Int) ∈ upto n := mem_upto.mpr ⟨by omega, by omega⟩
  have one : (rch Ls (upto n) p).length = 1 := by
    rw [rch_all hn h hp, ← lot_eq (ns := [goS Ls p 0]) (ip.in12 hn) (by simp) fun k => ?_]
    · rfl
    · rw [List.mem_singleton, List.mem_map]
      constructor
      · rintro rfl
        exact ⟨0, z0, rfl⟩
      · rintro ⟨s, hs, rfl⟩
        exact ap s hs 0 z0
  have := totB_400 hn
  rcases b3 p hp one with q | q <;> omega
end L2
namespace L2
open PySem PySem.Spec PyProof.Rows Law
theorem lead_step (ms : List Mv) (r s : Int) : leadOf ms r s = stepS ((LsOf ms).getD r.toNat []) s := by
  unfold leadOf stepS LsOf
  rw [List.getD_eq_getElem?_getD, List.getD_eq_getElem?_getD, List.getElem?_map]
  cases ms[r.toNat]? with
  | none => rfl
  | some m => rfl
theorem gone_goS (ms : List Mv) : ∀ (row : List Int) (s : Int), goneF ms row s = goS (LsOf ms) row s
  | [], _ => rfl
  | r :: row, s => by
    show goneF ms row (leadOf ms r s) = goS (LsOf ms) row (stepS ((LsOf ms).getD r.toNat []) s)
    rw [lead_step, gone_goS ms row]
theorem all_upto (ms : List Mv) (many : Nat) (row : List Int) : allF ms many row = (upto many).map (goS (LsOf ms) row) := by
  unfold allF upto
  rw [List.map_map]
  exact List.map_congr_left fun s _ => gone_goS ms row s
theorem ls_len (ms : List Mv) : (LsOf ms).length = ms.length := by
  unfold LsOf
  rw [List.length_map]
end L2
namespace L2
open PySem PySem.Spec PyProof.Rows Law
theorem mk_same {C : Addr} {H H' : Hp} {y dy : Addr} (hy : H y = none) (hdy : H dy = none) (kC : ∀ b o, b ≠ y → (upd (upd H dy (.own y)) y (.ins C dy [])) b = some o → H' b = some o) : Same H H' := fun b o e =>
  kC b o (ne_of_none e hy) (by rw [upd_ne (ne_of_none e hy), upd_ne (ne_of_none e hdy)]; exact e)
theorem mk_same0 {C : Addr} {H : Hp} {y dy : Addr} (hy : H y = none) (hdy : H dy = none) : Same H (upd (upd H dy (.own y)) y (.ins C dy [])) := fun b o e => by
  rw [upd_ne (ne_of_none e hy), upd_ne (ne_of_none e hdy)]
  exact e
theorem couples_asc (n : Nat) : (couplesF n).Pairwise lexL := by
  unfold couplesF
  rw [List.pairwise_flatMap]
  refine ⟨fun a _ => ?_, (upto_asc n).imp fun {a b} h x hx y hy => ?_⟩
  · rw [List.pairwise_map]
    refine ((upto_asc n).filter _).imp fun {b c} h => ?_
    show a < a ∨ (a = a ∧ (b < c ∨ (b = c ∧ False)))
    exact .inr ⟨rfl, .inl h⟩
  · obtain ⟨_, _, rfl⟩ := List.mem_map.mp hx
    obtain ⟨_, _, rfl⟩ := List.mem_map.mp hy
    exact .inl h
open Classical in
theorem apart_asc (Ls : List (List Int)) (n : Nat) : (apartF Ls n).Pairwise lexL := by
  unfold apartF
  exact (couples_asc n).filter _
end L2
namespace Law
open PySem L2
theorem cOf_row (c : List Int) : cOf (rowP c) = c := by
  show (c.map V.int).map _ = c
  rw [List.map_map]
  exact List.map_id _
theorem rows_back (cs : List (List Int)) : (cs.map rowP).map cOf = cs := by
  rw [List.map_map]
  have : (cOf ∘ rowP) = id := funext cOf_row
  rw [this, List.map_id]
theorem good_couple {n : Nat} {c : List Int} (h : c ∈ couplesF n) : goodP n (rowP c) = true := by
  obtain ⟨a, b, rfl, h1, h2, h3⟩ := couple_mem.mp h
  have e : goodP n (rowP [a, b]) = (((decide (0 ≤ a) && decide (a ≤ (n : Int) - 1)) && ((decide (0 ≤ b) && decide (b ≤ (n : Int) - 1)) && true)) && decide (a < b)) := rfl
  rw [e, decide_eq_true h1, decide_eq_true (show a ≤ (n : Int) - 1 by omega), decide_eq_true (show (0 : Int) ≤ b by omega), decide_eq_true (show b ≤ (n : Int) - 1 by omega), decide_eq_true h2] <;> rfl
theorem book_apart {n : Nat} (hn : n ≤ 12) {Ls : List (List Int)} (h : LsOk n Ls) : bookB n Ls (.tup ((apartF Ls n).map rowP)) = decide (apartF Ls n ≠ []) := by
  rw [book_eq, rows_back, List.length_map]
  have a1 : ((apartF Ls n).map rowP).all (goodP n) = true := by
    rw [List.all_eq_true]
    intro p hp
    obtain ⟨c, hc, rfl⟩ := List.mem_map.mp hp
    exact good_couple (apart_mem.mp hc).1
  have a2 : ascB (apartF Ls n) = true := (ascB_iff fun c hc => (couple_lot hn (apart_mem.mp hc).1).2.2.1).mpr (apart_asc Ls n)
  have a3 : keptB Ls (apartF Ls n) = true := by
    unfold keptB
    rw [List.all_eq_true]
    intro c hc
    rw [List.all_eq_true]
    intro xs hx
    exact decide_eq_true (apart_kept hn h hc hx)
  rw [a1, a2, a3, Bool.true_and, Bool.true_and, Bool.and_true]
  refine decide_eq_decide.mpr ?_
  rw [List.length_pos_iff]
end Law
namespace Law
open PySem L2
theorem row_eqAt {K : PySem.W.Frag} {H : Hp} {u v : V} {c : List Int} (hu : RowAt K H u c) (hv : RowAt K H v c) (hl : c.length ≤ 1000) : EqAt K H 1 u v := by
  obtain ⟨a, rfl, ha⟩ := hu
  obtain ⟨b, rfl, hb⟩ := hv
  refine ⟨a, b, _, _, rfl, rfl, ha, hb, rfl, by rw [List.length_map]; exact hl, fun i x y hx hy => ?_⟩
  rw [hx] at hy
  cases hy
  rw [List.getElem?_map] at hx
  obtain ⟨z, _, rfl⟩ := Option.map_eq_some_iff.mp hx
  exact ⟨z, rfl, rfl⟩
theorem rows_eqAt {K : PySem.W.Frag} {H : Hp} {a b : Addr} {ws us : List V} {cs : List (List Int)} (ha : SqT K H a ws) (hb : SqT K H b us) (A : AllIn (RowAt K H) ws cs) (B : AllIn (RowAt K H) us cs) (hl : cs.length ≤ 1000) (h2 : ∀ c ∈ cs, c.length ≤ 1000) : EqAt K H 2 (.ref a) (.ref b) := by
  refine ⟨a, b, ws, us, rfl, rfl, ha, hb, A.1.trans B.1.symm, by rw [A.1]; exact hl, fun i u v hu hv => ?_⟩
  obtain ⟨c, hc, hr⟩ := A.2 i u hu
  obtain ⟨d, hd, hs⟩ := B.2 i v hv
  rw [hc] at hd
  cases hd
  exact row_eqAt hr hs (h2 c (List.mem_of_getElem? hc))
end Law
namespace Law
open PySem L2
theorem ref_non (a : Addr) : decide (V.ref a = V.non) = false := decide_eq_false fun z => by cases z
theorem both_ref (a b : Addr) : ¬ ((!decide (V.bl (decide (V.ref b = V.non)) = V.bl (decide (V.ref a = V.non)))) = true) := by
  rw [ref_non, ref_non]
  decide
theorem same_bl {p q : Bool} (h : p = q) : ¬ ((!decide (V.bl p = V.bl q)) = true) := by
  subst h
  cases p <;> decide
theorem best_M {n : Nat} {Ls : List (List Int)} {r q : Option (List Int)} {m : Nat} (b : Best Ls (upto n) r) (g : BestM Ls n m q) (hr : ∀ l, r = some l → l.length ≤ m) : q = r := by
  cases q with
  | some l => exact (g.2).one b
  | none =>
    cases r with
    | none => rfl
    | some l =>
      obtain ⟨b1, b2, _⟩ := b
      exact absurd b2 (g l b1 (hr l rfl))
theorem row_ok {n : Nat} (hn : n ≤ 12) (h1 : 1 ≤ n) {ms : List Mv} (h : LsOk n (LsOf ms)) {l : List Int} (b : Best (LsOf ms) (upto n) (some l)) : RowOk ms.length l := ⟨best_400 hn h1 h b, fun r hr => by
  have z := b.1 r hr
  rw [ls_len] at z
  exact z⟩
/-- all states are led to one -/
theorem all_one {n : Nat} (hn : n ≤ 12) (h1 : 1 ≤ n) {ms : List Mv} (h : LsOk n (LsOf ms)) {l : List Int} (b : Best (LsOf ms) (upto n) (some l)) {N : Nat} {us : List Int} (nd : us.Nodup) (un : us.length = N) (hu : ∀ k, decide (k ∈ allF ms n l) = true ↔ k ∈ us) : N = 1 := by
  obtain ⟨b1, b2, _⟩ := b
  have i := mapN h b1 (upto_in n)
  rw [rch_all hn h b1] at b2
  obtain ⟨z, _, ez, zm⟩ := lot_one (i.in12 hn) b2
  rw [← all_upto] at ez zm
  have le := List.Nodup.length_le_of_subset (l₂ := [z]) nd fun k hk => by
    rw [List.mem_singleton]
    exact ez k (of_decide_eq_true ((hu k).mpr hk))
  have pos := List.length_pos_of_mem ((hu z).mp (decide_eq_true zm))
  have le : us.length ≤ 1 := le
  omega
end Law
namespace Law
open PySem L2
section
variable {P : Program} {w : World} {K : PySem.W.Frag} {mg : Str → Option Value} {base : Heap}
theorem SysAt.stp {C p q : Addr} {H H' : Hp} {many : Nat} {ms : List Mv} (hp : HandAt H p) (S : Stp p H H') (h : SysAt K C H q many ms) : SysAt K C H' q many ms := by
  obtain ⟨dx, mv, h1, h2⟩ := h
  refine ⟨dx, mv, S.keep _ _ (fun z => ?_) h1, h2.stp hp S⟩
  obtain ⟨ca, cells, a, g, s0, t0, e0, _⟩ := hp
  rw [z, e0] at h1
  cases h1
def spRight (K : PySem.W.Frag) (C : Addr) : Sp := fun vs H Q _ => ∃ (p mv : Addr) (many : Nat) (ms : List Mv), vs = [.ref p, .int (many : Nat), .ref mv] ∧ HandAt H p ∧ MvsAt K H mv ms ∧ SysOk many ms ∧ ms.length ≤ 4 ∧ ∀ H', Stp p H H' → Q (.bl true) H'
abbrev nLawOneRight : List Str := ["_law_hand_here", "_law_many", "_law_moves_here", "_law_system", "_law_due", "_law_pairs", "_law_told", "_law_thing", "_law_flag"]
theorem scLawOneRight : FnScope nLawOneRight ["_law_hand_here", "_law_many", "_law_moves_here"] (defScope s_law_one_right) := ⟨rfl, rfl, rfl, by decide +kernel, rfl, by decide +kernel, by decide +kernel⟩
theorem ok_one_right {f : Addr} {fd : FuncData} {fcSys : Addr} {fdcSys : FuncData} {fcLMerg : Addr} {fdcLMerg : FuncData} {fcLAp : Addr} {fdcLAp : FuncData} {fcMrow : Addr} {fdcMrow : FuncData} {fcIs2 : Addr} {fdcIs2 : FuncData} {fcApart : Addr} {fdcApart : FuncData} {fcLSh : Addr} {fdcLSh : FuncData} {fcBook : Addr} {fdcBook : FuncData} {fcAll : Addr} {fdcAll : FuncData} {fcBooks : Addr} {fdcBooks : FuncData} {fcLBook : Addr} {fdcLBook : FuncData} {C : Addr} (F : Fun K "_law_one_right" "_law_one_right" s_law_one_right f fd) (T : NmA mg) (McSys : Mk K C fcSys) (GcSys : FnOk P w K mg base CX0 5 fcSys fdcSys ["self", "many", "moves"] (spSInit K C)) (BcSys : Binds K fdcSys ["self", "many", "moves"] []) (YcSys : SysT K mg C) (cLMerg : Cl P w K mg base CX0 2 "_law_merging" fcLMerg fdcLMerg ["_law_many", "_law_moves_here"] (spLMerg K)) (cLAp : Cl P w K mg base CX0 2 "_law_apart" fcLAp fdcLAp ["_law_many", "_law_moves_here"] (spLAp K)) (cMrow : Cl P w K mg base CX0 4 "merging_row" fcMrow fdcMrow ["system"] (spMrow K C)) (cIs2 : Cl P w K mg base CX0 3 "_law_is" fcIs2 fdcIs2 ["_law_told", "_law_due"] (spIs2 K)) (cApart : Cl P w K mg base CX0 4 "apart" fcApart fdcApart ["system"] (spApartP K C)) (cLSh : Cl P w K mg base CX0 1 "_law_shortest" fcLSh fdcLSh ["_law_many", "_law_moves_here", "_law_most"] (spLSh K)) (cBook : Cl P w K mg base CX0 7 "is_book" fcBook fdcBook ["system", "thing"] (spBook K C)) (cAll : Cl P w K mg base CX0 6 "led_all" fcAll fdcAll ["system", "row"] (spAll K C)) (cBooks : Cl P w K mg base CX0 4 "_law_books" fcBooks fdcBooks ["_law_hand_here", "_law_many", "_law_moves_here", "_law_due"] (spBooks K)) (cLBook : Cl P w K mg base CX0 2 "_law_is_book" fcLBook fdcLBook ["_law_many", "_law_moves_here", "_law_thing"] (spLBook K)) (S : SysT K mg C) : FnOk P w K mg base CX0 8 f fd ["_law_hand_here", "_law_many", "_law_moves_here"] (spRight K C) := by
  refine F.ok scLawOneRight (fun vs H Q E h => ?_) (fun cdv A' outer s H vs Q E hr h => ?_)
  · obtain ⟨p, mv, many, ms, rfl, _⟩ := h
    rfl
  · obtain ⟨p, mv, many, ms, rfl, hH, hM, ok, m4, k⟩ := h
    have hu := hu_of hr
    refine ⟨_, pss_cons (ps_par3 (i := 3) (j := 4) (l := 5) (by rfl) scLawOneRight.nd rfl rfl rfl (by decide) (by decide) (by decide) rfl rfl rfl (pa_cons (pe_make McSys GcSys (hr.mono (by decide)) (by rfl) YcSys.mgC BcSys .nil pass0 (pa_cons (pv 1) (pa_cons (pv 2) pa_nil))) (pa_cons (cLMerg.call (hr.mono (by decide)) (pa_cons (pv 1) (pa_cons (pv 2) pa_nil))) (pa_cons (cLAp.call (hr.mono (by decide)) (pa_cons (pv 1) (pa_cons (pv 2) pa_nil))) pa_nil))) (by rfl))
      (pss_cons (ps_set (i := 6) scLawOneRight.nd rfl (Or.inl rfl) (cMrow.call (hr.mono (by decide)) (pa_cons (pv 3) pa_nil)))
      (Evl.pss_cut (ps_if (PW.pt (pw_or (pt_cmpR op_ne (pe_cmpR op_isN (pv 6) pe_non (nomark _)) (pe_cmpR op_isN (pv 4) pe_non (nomark _)) (nomark _)) (pw_or1 (PW.pt (pw_and (pt_cmpR op_notN (pv 6) pe_non (nomark _)) (pw_and1 (pt_not (pt_val (cIs2.call (hr.mono (by decide)) (pa_cons (pv 6) (pa_cons (pv 4) pa_nil)))))))))))
        (pss_one (ps_ret pe_bl)) pss_nil)
      (Evl.pss_cut (ps_if (PW.pt (pw_or (pt_not (pt_val (cIs2.call (hr.mono (by decide)) (pa_cons (cApart.call (hr.mono (by decide)) (pa_cons (pv 3) pa_nil)) (pa_cons (pv 5) pa_nil))))) (pw_or1 (pt_cmpR op_ne (pe_cmpR op_isN (pv 4) pe_non (nomark _)) (pe_cmpR op_gt (pe_callB call_len_seq (by rfl) T.len PySem.boot_len (pa_cons (pv 5) pa_nil)) pe_int (nomark _)) (nomark _)))))
        (pss_one (ps_ret pe_bl)) pss_nil)
      (Evl.pss_cut (ps_if (PW.pt (pw_and (pt_cmpR op_isN (pv 4) pe_non (nomark _)) (pw_and1 (PW.pt (pw_or (pt_cmpR op_notBl (cBook.call (hr.mono (by decide)) (pa_cons (pv 3) (pa_cons (pv 5) pa_nil))) pe_bl (nomark _)) (pw_or1 (pt_cmpR op_notN (cLSh.call (hr.mono (by decide)) (pa_cons (pv 1) (pa_cons (pv 2) (pa_cons pe_int pa_nil)))) pe_non (nomark _))))))))
        (pss_one (ps_ret pe_bl)) pss_nil)
      (Evl.pss_cut (ps_if (PW.pt (pw_and (pt_cmpR op_notN (pv 4) pe_non (nomark _)) (pw_and (pt_cmpR op_lt (pe_callB call_len_seq (by rfl) T.len PySem.boot_len (pa_cons (pv 4) pa_nil)) pe_int (nomark _)) (pw_and1 (pt_cmpR (op_neD hr.units) (cLSh.call (hr.mono (by decide)) (pa_cons (pv 1) (pa_cons (pv 2) (pa_cons pe_int pa_nil)))) (pv 4) (nomark _))))))
        (pss_one (ps_ret pe_bl)) pss_nil)
      (Evl.pss_cut (ps_if (PW.pt (pw_and (pt_cmpR op_notN (pv 4) pe_non (nomark _)) (pw_and1 (PW.pt (pw_or (pt_cmpR op_ne (pe_callB cr_lenSet (by rfl) T.len PySem.boot_len (pa_cons (pe_callTy (cr_setA (by rfl)) (by rfl) T.set (by decide +kernel) (pa_cons (cAll.call (hr.mono (by decide)) (pa_cons (pv 3) (pa_cons (pv 4) pa_nil))) pa_nil)) pa_nil)) pe_int (nomark _)) (pw_or1 (pt_cmpR op_notBl (cBook.call (hr.mono (by decide)) (pa_cons (pv 3) (pa_cons (pv 5) pa_nil))) pe_bl (nomark _))))))))
        (pss_one (ps_ret pe_bl)) pss_nil)
      (pss_cons (ps_for PassesOwn.never rfl (pi_list (cBooks.call (hr.mono (by decide)) (pa_cons (pv 0) (pa_cons (pv 1) (pa_cons (pv 2) (pa_cons (pv 5) pa_nil)))))) (pg_name (i := 7) scLawOneRight.nd rfl (Or.inl rfl))
        (pss_cons (ps_set (i := 8) scLawOneRight.nd rfl (Or.inl rfl) (cBook.call (hr.mono (by decide)) (pa_cons (pv 3) (pa_cons (pv 7) pa_nil))))
        (pss_one (ps_if (PW.pt (pw_or (pt_not (pt_val (pe_callB call_isi (by rfl) T.isi (by decide +kernel) (pa_cons (pv 8) (pa_cons (pe_bltn (v := .ty "bool") (u := .type "bool") (by rfl) T.bool (by decide +kernel) rfl) pa_nil))))) (pw_or1 (pt_cmpR op_ne (pv 8) (cLBook.call (hr.mono (by decide)) (pa_cons (pv 1) (pa_cons (pv 2) (pa_cons (pv 7) pa_nil)))) (nomark _)))))
          (pss_one (ps_ret pe_bl)) pss_nil))))
      (pss_one (ps_ret pe_bl))))))))), ?_⟩
    have m12 := ok.m2
    have n1 := ok.m1
    have ml := ok.l2
    have mo := ok.mv
    have lsok := ls_ok mo
    refine ⟨_, rfl, _, rfl, ?_⟩
    intro y dy hy hdy ney
    refine ⟨y, dy, many, mv, ms, rfl, upd_same, hM.same (mk_same0 hy hdy), ok, fun H1 k1 h1 => ⟨rfl, ?_⟩⟩
    have s1 : Same H H1 := mk_same hy hdy k1
    have hS1 : SysAt K C H1 y many ms := ⟨dy, mv, h1, hM.same s1⟩
    refine ⟨_, rfl, _, rfl, mv, many, ms, rfl, hM.same s1, m12, ml, mo, fun x r H2 s2 hL hx => ?_⟩
    refine ⟨_, rfl, _, rfl, mv, many, ms, rfl, (hM.same s1).same s2, m12, ml, mo, fun a ws H3 s3 e3 A3 => ⟨_, _, _, rfl, ?_⟩⟩
    have s13 := s2.trans s3
    refine ⟨_, rfl, y, many, ms, rfl, hS1.same s13, m12, ml, mo, fun x2 r2 H4 s4 hP hx2 => ?_⟩
    have best := hL.best 0 (Lv.start (LsOf ms) (upto many))
    cases hP.one hL.pr
    have s14 := s13.trans s4
    have s34 := s4
    have hSy := hS1.same s14
    have hM4 := (hM.same s1).same s14
    have e4 := s4 _ _ e3
    have A4 := A3.mono fun _ _ z => RowAt.same s4 z
    have ni := none_iff m12 n1 lsok best
    have ba := book_apart m12 lsok
    have c66 := couples_66 m12
    have al : (apartF (LsOf ms) many).length ≤ 66 := Nat.le_trans (List.Nodup.length_le_of_subset (List.Pairwise.imp (R := lexL) (S := fun a b => a ≠ b) (fun {a b} h e => lexL_irr a (by rw [← e] at h; exact h)) (apart_asc (LsOf ms) many)) fun c hc => (apart_mem.mp hc).1) c66
    have two : ∀ c ∈ apartF (LsOf ms) many, c.length ≤ 1000 := fun c hc => by
      obtain ⟨_, _, h, _⟩ := couple_lot m12 (apart_mem.mp hc).1
      omega
    have H04 := s1.trans s14
    refine ⟨fun σ' H' => Same H4 H' ∧ σ' = [some (.ref p), some (.int (many : Int)), some (.ref mv), some (.ref y), some x, some (.ref a), some x2, none, none], ?_, ?_⟩
    · -- the rows are one
      cases r with
      | none =>
        have hx : x = .non := hx
        have hx2 : x2 = .non := hx2
        subst hx hx2
        refine ⟨_, rfl, rfl, _, rfl, rfl, rfl, _, rfl, ite2 (fun c => absurd c (by decide)) (fun _ => ?_)⟩
        refine ⟨_, rfl, rfl, _, rfl, ite2 (fun c => absurd c (by decide)) (fun _ => ?_)⟩
        exact iteF ⟨Same.refl H4, rfl⟩
      | some l =>
        have hx4 : RowAt K H4 x l := (RowAt.same s3 hx).same s4
        have hx2 : RowAt K H4 x2 l := hx2
        have l400 := best_400 m12 n1 lsok best
        have eqA := row_eqAt hx2 hx4 (by omega)
        obtain ⟨xa, rfl, _⟩ := id hx4
        obtain ⟨xb, rfl, _⟩ := id hx2
        refine ⟨_, rfl, rfl, _, rfl, rfl, rfl, _, rfl, ite2 (fun c => absurd c (both_ref _ _)) (fun _ => ?_)⟩
        refine ⟨_, rfl, rfl, _, rfl, ite2 (fun _ => ?_) (fun c => absurd rfl c)⟩
        refine ⟨_, rfl, _, rfl, 1, by decide, _, _, rfl, eqA, fun H5 s5 => ⟨_, rfl, ?_⟩⟩
        exact iteF ⟨s5, rfl⟩
    rintro σ' H5 ⟨s5, rfl⟩
    refine ⟨fun σ' H' => Same H4 H' ∧ σ' = [some (.ref p), some (.int (many : Int)), some (.ref mv), some (.ref y), some x, some (.ref a), some x2, none, none], ?_, ?_⟩
    · refine ⟨_, rfl, y, many, ms, rfl, hSy.same s5, m12, ml, mo, fun a2 ws2 H6 s6 hT6 A6 => ⟨_, rfl, 2, by decide, _, _, rfl, rows_eqAt hT6 (SqT.of ((s5.trans s6) _ _ e4)) A6 (A4.mono fun _ _ z => RowAt.same (s5.trans s6) z) (by omega) two, fun H7 s7 => ⟨_, rfl, iteF ?_⟩⟩⟩
      have s47 := s5.trans (s6.trans s7)
      refine ⟨_, rfl, rfl, _, rfl, a, _, rfl, .inr (SqT.of (s47 _ _ e4)), _, _, rfl, rfl, rfl, _, rfl, ite2 (fun c => absurd c (same_bl ?_)) (fun _ => ⟨s47, rfl⟩)⟩
      cases r with
      | none =>
        have hx : x = .non := hx
        have lp : 0 < ws.length := by rw [A3.1]; exact List.length_pos_iff.mpr (ni.mp rfl)
        rw [hx, decide_eq_true rfl, decide_eq_true (show (0 : Int) < (ws.length : Nat) by omega)]
      | some l =>
        obtain ⟨xa, rfl, _⟩ := hx
        have ap : apartF (LsOf ms) many = [] := Classical.byContradiction fun z => by cases ni.mpr z
        have lp : ws.length = 0 := by rw [A3.1, ap] <;> rfl
        rw [ref_non, decide_eq_false (show ¬ (0 : Int) < (ws.length : Nat) by omega)]
    rintro σ' H6 ⟨s6, rfl⟩
    refine ⟨fun σ' H' => Same H4 H' ∧ σ' = [some (.ref p), some (.int (many : Int)), some (.ref mv), some (.ref y), some x, some (.ref a), some x2, none, none], ?_, ?_⟩
    · cases r with
      | none =>
        have hx : x = .non := hx
        subst hx
        have ne := ni.mp rfl
        refine ⟨_, rfl, rfl, _, rfl, iteT ?_⟩
        have A6 := A4.mono fun _ _ z => RowAt.same s6 z
        refine ⟨_, rfl, _, rfl, y, _, many, ms, _, rfl, hSy.same s6, m12, ml, mo, rows_at2 (SqT.of (s6 _ _ e4)) A6 (by omega) two, fun H7 s7 => ?_⟩
        have nb : ¬ ((!decide (bookB many (LsOf ms) (.tup ((apartF (LsOf ms) many).map rowP)) = true)) = true) := by
          rw [ba, decide_eq_true ne]
          decide
        refine ⟨_, _, rfl, rfl, _, rfl, ite2 (fun c => absurd c nb) (fun _ => ?_)⟩
        refine ⟨_, rfl, _, rfl, mv, many, 3, ms, rfl, (hM4.same s6).same s7, m12, m4, by decide, mo, fun x3 r3 H8 s8 bm hx3 => ?_⟩
        cases best_M best bm (fun l z => by cases z)
        have hx3 : x3 = .non := hx3
        subst hx3
        exact ⟨rfl, _, rfl, ite2 (fun c => absurd c (by decide)) (fun _ => ⟨s6.trans (s7.trans s8), rfl⟩)⟩
      | some l =>
        obtain ⟨xa, rfl, _⟩ := id hx
        exact ⟨_, rfl, rfl, _, rfl, ite2 (fun c => absurd c (by rw [ref_non]; decide)) (fun _ => ⟨s6, rfl⟩)⟩
    rintro σ' H7 ⟨s7, rfl⟩
    refine ⟨fun σ' H' => Same H4 H' ∧ σ' = [some (.ref p), some (.int (many : Int)), some (.ref mv), some (.ref y), some x, some (.ref a), some x2, none, none], ?_, ?_⟩
    · cases r with
      | none =>
        have hx : x = .non := hx
        subst hx
        exact ⟨_, rfl, rfl, _, rfl, ite2 (fun c => absurd c (by decide)) (fun _ => ⟨s7, rfl⟩)⟩
      | some l =>
        have hx7 : RowAt K H7 x l := ((RowAt.same s3 hx).same s4).same s7
        obtain ⟨xa, rfl, ha⟩ := id hx7
        refine ⟨_, rfl, rfl, _, rfl, ite2 (fun _ => ?_) (fun c => absurd rfl c)⟩
        refine ⟨_, rfl, xa, _, rfl, .inr ha, _, _, rfl, rfl, _, rfl, ite2 (fun c5 => ?_) (fun _ => ⟨s7, rfl⟩)⟩
        have c5 := of_decide_eq_true c5
        rw [List.length_map] at c5
        refine ⟨_, rfl, _, rfl, mv, many, 4, ms, rfl, hM4.same s7, m12, m4, by decide, mo, fun x3 r3 H8 s8 bm hx3 => ?_⟩
        cases best_M best bm (fun l' z => by cases z; omega)
        have hx3 : RowAt K H8 x3 l := hx3
        refine ⟨_, rfl, tupD l, tupD l, dp_row hx3, dp_row (hx7.same s8), sh_tup _, sh_tup _, _, rfl, ite2 (fun c => absurd c ?_) (fun _ => ⟨s7.trans s8, rfl⟩)⟩
        rw [eqv_tupD, decide_eq_true rfl]
        decide
    rintro σ' H8 ⟨s8, rfl⟩
    refine ⟨fun σ' H' => Same H4 H' ∧ σ' = [some (.ref p), some (.int (many : Int)), some (.ref mv), some (.ref y), some x, some (.ref a), some x2, none, none], ?_, ?_⟩
    · cases r with
      | none =>
        have hx : x = .non := hx
        subst hx
        exact ⟨_, rfl, rfl, _, rfl, ite2 (fun c => absurd c (by decide)) (fun _ => ⟨s8, rfl⟩)⟩
      | some l =>
        have hx8 : RowAt K H8 x l := ((RowAt.same s3 hx).same s4).same s8
        obtain ⟨xa, rfl, ha⟩ := id hx8
        have ap : apartF (LsOf ms) many = [] := Classical.byContradiction fun z => by cases ni.mpr z
        refine ⟨_, rfl, rfl, _, rfl, ite2 (fun _ => ?_) (fun c => absurd rfl c)⟩
        refine ⟨_, rfl, _, rfl, y, xa, many, ms, l, rfl, hSy.same s8, ha, ok, row_ok m12 n1 lsok best, fun la H9 s9 e9 => ?_⟩
        refine ⟨la, allF ms many l, rfl, .inr (SqT.of e9), by unfold allF; rw [List.length_map, List.length_range]; omega, fun q N hq hN => ?_⟩
        have s89 := s8.trans s9
        refine new_step hq fun H10 s10 e10 => ?_
        refine ⟨q, _, N, rfl, e10, fun ⟨us, u1, u2, u3⟩ => ?_⟩
        have N1 := all_one m12 n1 lsok best u1 u2 u3
        subst N1
        refine ⟨rfl, _, rfl, ite2 (fun c => absurd c (by decide)) (fun _ => ?_)⟩
        have s4a := s89.trans s10
        refine ⟨_, rfl, _, rfl, y, _, many, ms, _, rfl, hSy.same s4a, m12, ml, mo, rows_at2 (SqT.of (s4a _ _ e4)) (A4.mono fun _ _ z => RowAt.same s4a z) (by omega) two, fun H11 s11 => ?_⟩
        have nb : ¬ ((!decide (bookB many (LsOf ms) (.tup ((apartF (LsOf ms) many).map rowP)) = false)) = true) := by
          rw [ba, decide_eq_false (show ¬ (apartF (LsOf ms) many ≠ []) from fun z => z ap)]
          decide
        exact ⟨_, _, rfl, rfl, _, rfl, ite2 (fun c => absurd c nb) (fun _ => ⟨s4a.trans s11, rfl⟩)⟩
    rintro σ' H9 ⟨s9, rfl⟩
    have S19 : Stp p H H9 := Stp.of hH (H04.trans s9)
    have h9 := S19.hand
    refine ⟨_, rfl, _, rfl, _, rfl, _, rfl, p, mv, a, many, ms, ws, _, rfl, h9, hM4.same s9, m12, ml, mo, SqT.of (s9 _ _ e4), A4.mono fun _ _ z => RowAt.same s9 z, al, fun c hc => (apart_mem.mp hc).1, fun L u v z F S10 eL Lp tu tv tz => ?_⟩
    have hSF := (hSy.same s9).stp h9 S10
    have hMF := (hM4.same s9).stp h9 S10
    refine ⟨L, rfl, ⟨_, SqL.of eL⟩, ?_⟩
    refine for_list (K := K) (a := L) (xs := [u, v, z]) (fun i σ H' => Same F H' ∧ ∃ q1 q2 : Option V, σ = [some (.ref p), some (.int (many : Int)), some (.ref mv), some (.ref y), some x, some (.ref a), some x2, q1, q2]) ⟨Same.refl F, none, none, rfl⟩ (fun i σ H' _ h => SqL.of (h.1 _ _ eL)) ?_ ?_
    · rintro i t σ G hi ⟨sG, q1, q2, rfl⟩
      have tm := List.mem_of_getElem? hi
      have tt : Thing K F t := by
        rcases List.mem_cons.mp tm with rfl | tm
        · exact tu
        rcases List.mem_cons.mp tm with rfl | tm
        · exact tv
        · rw [List.mem_singleton.mp tm]
          exact tz
      obtain ⟨q, hq, hl⟩ := tt.same sG
      refine ⟨_, rfl, _, rfl, y, t, many, ms, q, rfl, hSF.same sG, m12, ml, mo, hq, fun G1 t1 => ?_⟩
      refine ⟨_, rfl, _, _, _, _, _, rfl, .ty "bool", .base (.bl _), kit_ty (r := true) (by decide +kernel), _, rfl, iteF ?_⟩
      refine ⟨_, rfl, _, rfl, _, rfl, _, rfl, t, mv, many, ms, q, rfl, (hMF.same sG).same t1, m12, ml, mo, hq.same t1, hl, fun G2 t2 => ?_⟩
      exact ⟨rfl, _, rfl, ite2 (fun c => absurd c (same_bl rfl)) (fun _ => ⟨sG.trans (t1.trans t2), _, _, rfl⟩)⟩
    · rintro σ G ⟨sG, q1, q2, rfl⟩
      exact k G ((S19.trans S10).post sG)
end
end Law

namespace Law
open PySem L2
section
variable {P : Program} {w : World} {K : PySem.W.Frag} {mg : Str → Option Value} {base : Heap}
def spLaw (K : PySem.W.Frag) : Sp := fun vs H Q _ => ∃ (a : Addr) (ns : List Int), vs = [.ref a] ∧ SqL K H a (ns.map V.int) ∧ ns.length ≤ 63 ∧ ∀ H', Q (.bl true) H'
abbrev nLaw : List Str := ["_law_script", "_law_hand_here", "_law_turn", "_law_many"]
theorem scLaw : FnScope nLaw ["_law_script"] (defScope s_law) := ⟨rfl, rfl, rfl, by decide +kernel, rfl, by decide +kernel, by decide +kernel⟩
theorem ok_law {f : Addr} {fd : FuncData} {fcHand : Addr} {fdcHand : FuncData} {fD : Addr} {fdD : FuncData} {fcRight : Addr} {fdcRight : FuncData} {fcMoves : Addr} {fdcMoves : FuncData} {fcTurned : Addr} {fdcTurned : FuncData} {C : Addr} (F : Fun K "law" "law" s_law f fd) (T : NmA mg) (cHand : Cl P w K mg base CX0 1 "_law_hand" fcHand fdcHand ["_law_script"] (spHand K)) (D : Cl P w K mg base CX0 1 "_law_draw" fD fdD ["_law_hand_here", "_law_many"] spDraw) (cRight : Cl P w K mg base CX0 8 "_law_one_right" fcRight fdcRight ["_law_hand_here", "_law_many", "_law_moves_here"] (spRight K C)) (cMoves : Cl P w K mg base CX0 4 "_law_moves" fcMoves fdcMoves ["_law_hand_here", "_law_many", "_law_most"] (spMoves K)) (cTurned : Cl P w K mg base CX0 3 "_law_turned" fcTurned fdcTurned ["_law_hand_here", "_law_many"] (spTurned K)) (S : SysT K mg C) : FnOk P w K mg base CX0 9 f fd ["_law_script"] (spLaw K) := by
  refine F.ok scLaw (fun vs H Q E h => ?_) (fun cdv A' outer s H vs Q E hr h => ?_)
  · obtain ⟨a, ns, rfl, _⟩ := h
    rfl
  · obtain ⟨a, ns, rfl, hN, h63, k⟩ := h
    have hu := hu_of hr
    refine ⟨_, pss_cons (ps_set (i := 1) scLaw.nd rfl (Or.inl rfl) (cHand.call (hr.mono (by decide)) (pa_cons (pv 0) pa_nil)))
      (pss_cons (ps_for PassesOwn.never rfl (pi_range1 (by rfl) T.range (pa_cons pe_int pa_nil)) (pg_name (i := 2) scLaw.nd rfl (Or.inl rfl))
        (pss_cons (ps_set (i := 3) scLaw.nd rfl (Or.inl rfl) (pe_op op_add pe_int (D.call (hr.mono (by decide)) (pa_cons (pv 1) (pa_cons pe_int pa_nil)))))
        (pss_one (ps_if (pt_not (pt_val (cRight.call (hr.mono (by decide)) (pa_cons (pv 1) (pa_cons (pv 3) (pa_cons (cMoves.call (hr.mono (by decide)) (pa_cons (pv 1) (pa_cons (pv 3) (pa_cons pe_int pa_nil)))) pa_nil))))))
          (pss_one (ps_ret pe_bl)) pss_nil))))
      (pss_cons (ps_set (i := 3) scLaw.nd rfl (Or.inl rfl) (pe_op op_add pe_int (D.call (hr.mono (by decide)) (pa_cons (pv 1) (pa_cons pe_int pa_nil)))))
      (Evl.pss_cut (ps_if (PW.pt (pw_and (pt_cmpR op_eq (D.call (hr.mono (by decide)) (pa_cons (pv 1) (pa_cons pe_int pa_nil))) pe_int (nomark _)) (pw_and1 (pt_not (pt_val (cRight.call (hr.mono (by decide)) (pa_cons (pv 1) (pa_cons (pv 3) (pa_cons (cMoves.call (hr.mono (by decide)) (pa_cons (pv 1) (pa_cons (pv 3) (pa_cons pe_int pa_nil)))) pa_nil)))))))))
        (pss_one (ps_ret pe_bl)) pss_nil)
      (pss_one (ps_ret (pe_or (pe_cmpR op_gt (D.call (hr.mono (by decide)) (pa_cons (pv 1) (pa_cons pe_int pa_nil))) pe_int (nomark _)) (pe_one (cRight.call (hr.mono (by decide)) (pa_cons (pv 1) (pa_cons pe_int (pa_cons (cTurned.call (hr.mono (by decide)) (pa_cons (pv 1) (pa_cons pe_int pa_nil))) pa_nil))))))))))), ?_⟩
    refine ⟨_, rfl, a, ns, rfl, hN, h63, fun p H1 hp s1 hH => ?_⟩
    refine ⟨_, rfl, by decide, by decide, ?_⟩
    refine for_range (lo := 0) (n := 4) (fun i σ H' => HandAt H' p ∧ ∃ u v : Option V, σ = [some (.ref a), some (.ref p), u, v]) ⟨hH, none, none, rfl⟩ ?_ ?_
    · rintro i σ H2 hi ⟨h2, u, v, rfl⟩
      refine ⟨_, rfl, p, 5, rfl, by decide, by decide, h2, fun d H3 d0 d1 S3 => ⟨_, _, rfl, rfl, ?_⟩⟩
      obtain ⟨n, rfl⟩ := Int.eq_ofNat_of_zero_le d0
      have e : (1 + (n : Int)) = ((n + 1 : Nat) : Int) := by omega
      show gName 3 (V.int (1 + (n : Int))) _ _ _
      rw [e]
      refine ⟨_, rfl, _, rfl, _, rfl, _, rfl, p, n + 1, 4, rfl, S3.hand, by omega, by omega, by decide, by decide, fun mv ms H4 S4 hM ok l4 => ?_⟩
      exact ⟨p, mv, n + 1, ms, rfl, S4.hand, hM, ok, l4, fun H5 S5 => ⟨_, rfl, iteF ⟨S5.hand, _, _, rfl⟩⟩⟩
    rintro σ H2 ⟨h2, u, v, rfl⟩
    refine ⟨_, rfl, p, 7, rfl, by decide, by decide, h2, fun d H3 d0 d1 S3 => ⟨_, _, rfl, rfl, ?_⟩⟩
    obtain ⟨n, rfl⟩ := Int.eq_ofNat_of_zero_le d0
    have e : (6 + (n : Int)) = ((n + 6 : Nat) : Int) := by omega
    show gName 3 (V.int (6 + (n : Int))) _ _ _
    rw [e]
    refine ⟨fun σ' H' => HandAt H' p ∧ σ' = [some (.ref a), some (.ref p), u, some (.int ((n + 6 : Nat) : Int))], ?_, ?_⟩
    · refine ⟨_, rfl, p, 6, rfl, by decide, by decide, S3.hand, fun d2 H4 e0 e1 S4 => ⟨rfl, _, rfl, ite2 (fun _ => ?_) (fun _ => ⟨S4.hand, rfl⟩)⟩⟩
      refine ⟨_, rfl, _, rfl, _, rfl, _, rfl, p, n + 6, 3, rfl, S4.hand, by omega, by omega, by decide, by decide, fun mv ms H5 S5 hM ok l3 => ?_⟩
      exact ⟨p, mv, n + 6, ms, rfl, S5.hand, hM, ok, by omega, fun H6 S6 => ⟨_, rfl, iteF ⟨S6.hand, rfl⟩⟩⟩
    rintro σ' H4 ⟨h4, rfl⟩
    refine ⟨_, rfl, p, 20, rfl, by decide, by decide, h4, fun d2 H5 e0 e1 S5 => ⟨_, _, rfl, rfl, ?_⟩⟩
    refine ⟨_, rfl, ite2 (fun _ => k H5) (fun _ => ?_)⟩
    refine ⟨_, rfl, _, rfl, p, 12, rfl, S5.hand, by decide, by decide, fun mv ms H6 S6 hM ok l2 => ?_⟩
    exact ⟨p, mv, 12, ms, rfl, S6.hand, hM, ok, by omega, fun H7 _ => k H7⟩
end
end Law

set_option maxHeartbeats 0
namespace Law
open PySem PySem.Spec PyProof.Rows L2
theorem ba3 {a b : Bool} (h : (a && b) = true) : a = true ∧ b = true := Bool.and_eq_true_iff.mp h
theorem optT_ok {o : Option Bool} (h : optT o = true) : o = some true := by
  cases o with
  | none => cases h
  | some b =>
    cases b with
    | true => rfl
    | false => cases h
section
variable {P : Program} {w : World} {K : PySem.W.Frag} {h : Heap} {mg : Str → Option Value} {base : Heap}
theorem facts {f : Addr} (tr : P.given.tree = none) (X : K.In h) (G : h.Ns mainGlobals mg) (hfa : mg ("law" : Str) = some (.ref f)) (c : He.SaysD fas fns K) (e : exK K = true) :
    ∃ fd : FuncData, (∀ (s : Shared) (v : Value), BindsTo s fd ⟨[v], []⟩ [("_law_script", v)]) ∧ ∀ base : Heap, K.In base → base.Ns mainGlobals mg → FnOk P w K mg base CX0 9 f fd ["_law_script"] (spLaw K) := by
  have eL := hfa.symm.trans (He.glo_ok X G (c.fact 47 (f := .glo "law") rfl))
  cases eL
  obtain ⟨e1, e5⟩ := ba3 e
  obtain ⟨x1, x2⟩ := ba3 e5
  obtain ⟨x2, x3⟩ := ba3 x2
  obtain ⟨x3, x4⟩ := ba3 x3
  obtain ⟨y1, y2⟩ := ba3 e1
  have T : NmA mg := ⟨He.free_ok X G (c.fact 49 (f := .free "abs") rfl), He.free_ok X G (c.fact 50 (f := .free "all") rfl), He.free_ok X G (c.fact 51 (f := .free "any") rfl), He.free_ok X G (c.fact 52 (f := .free "bool") rfl), He.free_ok X G (c.fact 53 (f := .free "enumerate") rfl), He.free_ok X G (c.fact 54 (f := .free "int") rfl), He.free_ok X G (c.fact 55 (f := .free "isinstance") rfl), He.free_ok X G (c.fact 56 (f := .free "len") rfl), He.free_ok X G (c.fact 57 (f := .free "list") rfl), He.free_ok X G (c.fact 58 (f := .free "max") rfl), He.free_ok X G (c.fact 59 (f := .free "min") rfl), He.free_ok X G (c.fact 60 (f := .free "range") rfl), He.free_ok X G (c.fact 61 (f := .free "set") rfl), He.free_ok X G (c.fact 62 (f := .free "sorted") rfl), He.free_ok X G (c.fact 63 (f := .free "sum") rfl), He.free_ok X G (c.fact 64 (f := .free "tuple") rfl), He.free_ok X G (c.fact 65 (f := .free "zip") rfl), PySem.W.mg_of X G (He.eqO_ok y1), PySem.W.mg_of X G (He.eqO_ok y2)⟩
  have Y : SysT K mg (He.ga K "System") := ⟨He.cls_ok (c.fact 66 (f := .cls "System") rfl), He.noat_ok (c.fact 67 (f := .noat "System" "many") rfl), He.noat_ok (c.fact 68 (f := .noat "System" "moves") rfl), He.glo_ok X G (c.fact 16 (f := .glo "System") rfl), He.eqO_ok x1, He.eqO_ok x2, optT_ok x3, optT_ok x4⟩
  obtain ⟨fd_law, F_law⟩ := c.def_ 47 rfl
  have FD_law := F_law
  have F_law := funD_fun (st := s_law) F_law
  have B_law := F_law.binds (ps := ["_law_script"]) fun _ _ _ _ _ _ us hl => match us, hl with | [_], _ => rfl
  have M_law := He.glo_ok X G (c.fact 47 (f := .glo "law") rfl)
  obtain ⟨fd__law_hand, F__law_hand⟩ := c.def_ 27 rfl
  have FD__law_hand := F__law_hand
  have F__law_hand := funD_fun (st := s_law_hand) F__law_hand
  have B__law_hand := F__law_hand.binds (ps := ["_law_script"]) fun _ _ _ _ _ _ us hl => match us, hl with | [_], _ => rfl
  have M__law_hand := He.glo_ok X G (c.fact 27 (f := .glo "_law_hand") rfl)
  obtain ⟨fd__law_draw, F__law_draw⟩ := c.def_ 28 rfl
  have FD__law_draw := F__law_draw
  have F__law_draw := funD_fun (st := s_law_draw) F__law_draw
  have B__law_draw := F__law_draw.binds (ps := ["_law_hand_here", "_law_many"]) fun _ _ _ _ _ _ us hl => match us, hl with | [_, _], _ => rfl
  have M__law_draw := He.glo_ok X G (c.fact 28 (f := .glo "_law_draw") rfl)
  obtain ⟨fd__law_one_right, F__law_one_right⟩ := c.def_ 46 rfl
  have FD__law_one_right := F__law_one_right
  have F__law_one_right := funD_fun (st := s_law_one_right) F__law_one_right
  have B__law_one_right := F__law_one_right.binds (ps := ["_law_hand_here", "_law_many", "_law_moves_here"]) fun _ _ _ _ _ _ us hl => match us, hl with | [_, _, _], _ => rfl
  have M__law_one_right := He.glo_ok X G (c.fact 46 (f := .glo "_law_one_right") rfl)
  obtain ⟨fd_System___init__, F_System___init__⟩ := c.def_ 15 rfl
  have FD_System___init__ := F_System___init__
  have F_System___init__ := funD_fun (st := s_System_init) F_System___init__
  have B_System___init__ := F_System___init__.binds (ps := ["self", "many", "moves"]) fun _ _ _ _ _ _ us hl => match us, hl with | [_, _, _], _ => rfl
  obtain ⟨fd_is_within, F_is_within⟩ := c.def_ 1 rfl
  have FD_is_within := F_is_within
  have F_is_within := funD_fun (st := s_is_within) F_is_within
  have B_is_within := F_is_within.binds (ps := ["low", "high", "thing"]) fun _ _ _ _ _ _ us hl => match us, hl with | [_, _, _], _ => rfl
  have M_is_within := He.glo_ok X G (c.fact 1 (f := .glo "is_within") rfl)
  obtain ⟨fd_is_integer, F_is_integer⟩ := c.def_ 0 rfl
  have FD_is_integer := F_is_integer
  have F_is_integer := funD_fun (st := s_is_integer) F_is_integer
  have B_is_integer := F_is_integer.binds (ps := ["thing"]) fun _ _ _ _ _ _ us hl => match us, hl with | [_], _ => rfl
  have M_is_integer := He.glo_ok X G (c.fact 0 (f := .glo "is_integer") rfl)
  obtain ⟨fd_is_move, F_is_move⟩ := c.def_ 17 rfl
  have FD_is_move := F_is_move
  have F_is_move := funD_fun (st := s_is_move) F_is_move
  have B_is_move := F_is_move.binds (ps := ["many", "thing"]) fun _ _ _ _ _ _ us hl => match us, hl with | [_, _], _ => rfl
  have M_is_move := He.glo_ok X G (c.fact 17 (f := .glo "is_move") rfl)
  obtain ⟨fd_is_fraction, F_is_fraction⟩ := c.def_ 8 rfl
  have FD_is_fraction := F_is_fraction
  have F_is_fraction := funD_fun (st := s_is_fraction) F_is_fraction
  have B_is_fraction := F_is_fraction.binds (ps := ["thing"]) fun _ _ _ _ _ _ us hl => match us, hl with | [_], _ => rfl
  have M_is_fraction := He.glo_ok X G (c.fact 8 (f := .glo "is_fraction") rfl)
  obtain ⟨fd_is_row_below, F_is_row_below⟩ := c.def_ 2 rfl
  have FD_is_row_below := F_is_row_below
  have F_is_row_below := funD_fun (st := s_is_row_below) F_is_row_below
  have B_is_row_below := F_is_row_below.binds (ps := ["bound", "thing"]) fun _ _ _ _ _ _ us hl => match us, hl with | [_, _], _ => rfl
  have M_is_row_below := He.glo_ok X G (c.fact 2 (f := .glo "is_row_below") rfl)
  obtain ⟨fd_are_one_together, F_are_one_together⟩ := c.def_ 11 rfl
  have FD_are_one_together := F_are_one_together
  have F_are_one_together := funD_fun (st := s_are_one_together) F_are_one_together
  have B_are_one_together := F_are_one_together.binds (ps := ["fractions"]) fun _ _ _ _ _ _ us hl => match us, hl with | [_], _ => rfl
  have M_are_one_together := He.glo_ok X G (c.fact 11 (f := .glo "are_one_together") rfl)
  obtain ⟨fd_common_bottom, F_common_bottom⟩ := c.def_ 9 rfl
  have FD_common_bottom := F_common_bottom
  have F_common_bottom := funD_fun (st := s_common_bottom) F_common_bottom
  have B_common_bottom := F_common_bottom.binds (ps := ["fractions"]) fun _ _ _ _ _ _ us hl => match us, hl with | [_], _ => rfl
  have M_common_bottom := He.glo_ok X G (c.fact 9 (f := .glo "common_bottom") rfl)
  obtain ⟨fd_tops_over, F_tops_over⟩ := c.def_ 10 rfl
  have FD_tops_over := F_tops_over
  have F_tops_over := funD_fun (st := s_tops_over) F_tops_over
  have B_tops_over := F_tops_over.binds (ps := ["fractions", "bottom"]) fun _ _ _ _ _ _ us hl => match us, hl with | [_, _], _ => rfl
  have M_tops_over := He.glo_ok X G (c.fact 10 (f := .glo "tops_over") rfl)
  obtain ⟨fd__law_merging, F__law_merging⟩ := c.def_ 37 rfl
  have FD__law_merging := F__law_merging
  have F__law_merging := funD_fun (st := s_law_merging) F__law_merging
  have B__law_merging := F__law_merging.binds (ps := ["_law_many", "_law_moves_here"]) fun _ _ _ _ _ _ us hl => match us, hl with | [_, _], _ => rfl
  have M__law_merging := He.glo_ok X G (c.fact 37 (f := .glo "_law_merging") rfl)
  obtain ⟨fd__law_led, F__law_led⟩ := c.def_ 36 rfl
  have FD__law_led := F__law_led
  have F__law_led := funD_fun (st := s_law_led) F__law_led
  have B__law_led := F__law_led.binds (ps := ["_law_leads_here", "_law_lot"]) fun _ _ _ _ _ _ us hl => match us, hl with | [_, _], _ => rfl
  have M__law_led := He.glo_ok X G (c.fact 36 (f := .glo "_law_led") rfl)
  obtain ⟨fd__law_apart, F__law_apart⟩ := c.def_ 39 rfl
  have FD__law_apart := F__law_apart
  have F__law_apart := funD_fun (st := s_law_apart) F__law_apart
  have B__law_apart := F__law_apart.binds (ps := ["_law_many", "_law_moves_here"]) fun _ _ _ _ _ _ us hl => match us, hl with | [_, _], _ => rfl
  have M__law_apart := He.glo_ok X G (c.fact 39 (f := .glo "_law_apart") rfl)
  obtain ⟨fd__law_couples, F__law_couples⟩ := c.def_ 38 rfl
  have FD__law_couples := F__law_couples
  have F__law_couples := funD_fun (st := s_law_couples) F__law_couples
  have B__law_couples := F__law_couples.binds (ps := ["_law_many"]) fun _ _ _ _ _ _ us hl => match us, hl with | [_], _ => rfl
  have M__law_couples := He.glo_ok X G (c.fact 38 (f := .glo "_law_couples") rfl)
  obtain ⟨fd_merging_row, F_merging_row⟩ := c.def_ 23 rfl
  have FD_merging_row := F_merging_row
  have F_merging_row := funD_fun (st := s_merging_row) F_merging_row
  have B_merging_row := F_merging_row.binds (ps := ["system"]) fun _ _ _ _ _ _ us hl => match us, hl with | [_], _ => rfl
  have M_merging_row := He.glo_ok X G (c.fact 23 (f := .glo "merging_row") rfl)
  obtain ⟨fd_least_row_to_one, F_least_row_to_one⟩ := c.def_ 22 rfl
  have FD_least_row_to_one := F_least_row_to_one
  have F_least_row_to_one := funD_fun (st := s_least_row_to_one) F_least_row_to_one
  have B_least_row_to_one := F_least_row_to_one.binds (ps := ["system", "start"]) fun _ _ _ _ _ _ us hl => match us, hl with | [_, _], _ => rfl
  have M_least_row_to_one := He.glo_ok X G (c.fact 22 (f := .glo "least_row_to_one") rfl)
  obtain ⟨fd_lot_led, F_lot_led⟩ := c.def_ 21 rfl
  have FD_lot_led := F_lot_led
  have F_lot_led := funD_fun (st := s_lot_led) F_lot_led
  have B_lot_led := F_lot_led.binds (ps := ["leads", "lot"]) fun _ _ _ _ _ _ us hl => match us, hl with | [_, _], _ => rfl
  have M_lot_led := He.glo_ok X G (c.fact 21 (f := .glo "lot_led") rfl)
  obtain ⟨fd_lot_of, F_lot_of⟩ := c.def_ 7 rfl
  have FD_lot_of := F_lot_of
  have F_lot_of := funD_fun (st := s_lot_of) F_lot_of
  have B_lot_of := F_lot_of.binds (ps := ["things"]) fun _ _ _ _ _ _ us hl => match us, hl with | [_], _ => rfl
  have M_lot_of := He.glo_ok X G (c.fact 7 (f := .glo "lot_of") rfl)
  obtain ⟨fd__law_is, F__law_is⟩ := c.def_ 30 rfl
  have FD__law_is := F__law_is
  have F__law_is := funD_fun (st := s_law_is) F__law_is
  have B__law_is := F__law_is.binds (ps := ["_law_told", "_law_due"]) fun _ _ _ _ _ _ us hl => match us, hl with | [_, _], _ => rfl
  have M__law_is := He.glo_ok X G (c.fact 30 (f := .glo "_law_is") rfl)
  obtain ⟨fd_apart, F_apart⟩ := c.def_ 26 rfl
  have FD_apart := F_apart
  have F_apart := funD_fun (st := s_apart) F_apart
  have B_apart := F_apart.binds (ps := ["system"]) fun _ _ _ _ _ _ us hl => match us, hl with | [_], _ => rfl
  have M_apart := He.glo_ok X G (c.fact 26 (f := .glo "apart") rfl)
  obtain ⟨fd_is_kept, F_is_kept⟩ := c.def_ 24 rfl
  have FD_is_kept := F_is_kept
  have F_is_kept := funD_fun (st := s_is_kept) F_is_kept
  have B_is_kept := F_is_kept.binds (ps := ["system", "couples"]) fun _ _ _ _ _ _ us hl => match us, hl with | [_, _], _ => rfl
  have M_is_kept := He.glo_ok X G (c.fact 24 (f := .glo "is_kept") rfl)
  obtain ⟨fd__law_shortest, F__law_shortest⟩ := c.def_ 42 rfl
  have FD__law_shortest := F__law_shortest
  have F__law_shortest := funD_fun (st := s_law_shortest) F__law_shortest
  have B__law_shortest := F__law_shortest.binds (ps := ["_law_many", "_law_moves_here", "_law_most"]) fun _ _ _ _ _ _ us hl => match us, hl with | [_, _, _], _ => rfl
  have M__law_shortest := He.glo_ok X G (c.fact 42 (f := .glo "_law_shortest") rfl)
  obtain ⟨fd_is_book, F_is_book⟩ := c.def_ 25 rfl
  have FD_is_book := F_is_book
  have F_is_book := funD_fun (st := s_is_book) F_is_book
  have B_is_book := F_is_book.binds (ps := ["system", "thing"]) fun _ _ _ _ _ _ us hl => match us, hl with | [_, _], _ => rfl
  have M_is_book := He.glo_ok X G (c.fact 25 (f := .glo "is_book") rfl)
  obtain ⟨fd_is_lot_of_couples, F_is_lot_of_couples⟩ := c.def_ 6 rfl
  have FD_is_lot_of_couples := F_is_lot_of_couples
  have F_is_lot_of_couples := funD_fun (st := s_is_lot_of_couples) F_is_lot_of_couples
  have B_is_lot_of_couples := F_is_lot_of_couples.binds (ps := ["bound", "thing"]) fun _ _ _ _ _ _ us hl => match us, hl with | [_, _], _ => rfl
  have M_is_lot_of_couples := He.glo_ok X G (c.fact 6 (f := .glo "is_lot_of_couples") rfl)
  obtain ⟨fd_is_lot_of_pairs, F_is_lot_of_pairs⟩ := c.def_ 5 rfl
  have FD_is_lot_of_pairs := F_is_lot_of_pairs
  have F_is_lot_of_pairs := funD_fun (st := s_is_lot_of_pairs) F_is_lot_of_pairs
  have B_is_lot_of_pairs := F_is_lot_of_pairs.binds (ps := ["bound", "thing"]) fun _ _ _ _ _ _ us hl => match us, hl with | [_, _], _ => rfl
  have M_is_lot_of_pairs := He.glo_ok X G (c.fact 5 (f := .glo "is_lot_of_pairs") rfl)
  obtain ⟨fd_is_pair_below, F_is_pair_below⟩ := c.def_ 3 rfl
  have FD_is_pair_below := F_is_pair_below
  have F_is_pair_below := funD_fun (st := s_is_pair_below) F_is_pair_below
  have B_is_pair_below := F_is_pair_below.binds (ps := ["bound", "thing"]) fun _ _ _ _ _ _ us hl => match us, hl with | [_, _], _ => rfl
  have M_is_pair_below := He.glo_ok X G (c.fact 3 (f := .glo "is_pair_below") rfl)
  obtain ⟨fd_is_ascending, F_is_ascending⟩ := c.def_ 4 rfl
  have FD_is_ascending := F_is_ascending
  have F_is_ascending := funD_fun (st := s_is_ascending) F_is_ascending
  have B_is_ascending := F_is_ascending.binds (ps := ["things"]) fun _ _ _ _ _ _ us hl => match us, hl with | [_], _ => rfl
  have M_is_ascending := He.glo_ok X G (c.fact 4 (f := .glo "is_ascending") rfl)
  obtain ⟨fd_led_all, F_led_all⟩ := c.def_ 20 rfl
  have FD_led_all := F_led_all
  have F_led_all := funD_fun (st := s_led_all) F_led_all
  have B_led_all := F_led_all.binds (ps := ["system", "row"]) fun _ _ _ _ _ _ us hl => match us, hl with | [_, _], _ => rfl
  have M_led_all := He.glo_ok X G (c.fact 20 (f := .glo "led_all") rfl)
  obtain ⟨fd_is_row, F_is_row⟩ := c.def_ 18 rfl
  have FD_is_row := F_is_row
  have F_is_row := funD_fun (st := s_is_row) F_is_row
  have B_is_row := F_is_row.binds (ps := ["system", "thing"]) fun _ _ _ _ _ _ us hl => match us, hl with | [_, _], _ => rfl
  have M_is_row := He.glo_ok X G (c.fact 18 (f := .glo "is_row") rfl)
  obtain ⟨fd_led, F_led⟩ := c.def_ 19 rfl
  have FD_led := F_led
  have F_led := funD_fun (st := s_led) F_led
  have B_led := F_led.binds (ps := ["system", "row", "state"]) fun _ _ _ _ _ _ us hl => match us, hl with | [_, _, _], _ => rfl
  have M_led := He.glo_ok X G (c.fact 19 (f := .glo "led") rfl)
  obtain ⟨fd__law_books, F__law_books⟩ := c.def_ 44 rfl
  have FD__law_books := F__law_books
  have F__law_books := funD_fun (st := s_law_books) F__law_books
  have B__law_books := F__law_books.binds (ps := ["_law_hand_here", "_law_many", "_law_moves_here", "_law_due"]) fun _ _ _ _ _ _ us hl => match us, hl with | [_, _, _, _], _ => rfl
  have M__law_books := He.glo_ok X G (c.fact 44 (f := .glo "_law_books") rfl)
  obtain ⟨fd__law_grown, F__law_grown⟩ := c.def_ 43 rfl
  have FD__law_grown := F__law_grown
  have F__law_grown := funD_fun (st := s_law_grown) F__law_grown
  have B__law_grown := F__law_grown.binds (ps := ["_law_moves_here", "_law_pair"]) fun _ _ _ _ _ _ us hl => match us, hl with | [_, _], _ => rfl
  have M__law_grown := He.glo_ok X G (c.fact 43 (f := .glo "_law_grown") rfl)
  obtain ⟨fd__law_any, F__law_any⟩ := c.def_ 29 rfl
  have FD__law_any := F__law_any
  have F__law_any := funD_fun (st := s_law_any) F__law_any
  have B__law_any := F__law_any.binds (ps := ["_law_hand_here", "_law_items"]) fun _ _ _ _ _ _ us hl => match us, hl with | [_, _], _ => rfl
  have M__law_any := He.glo_ok X G (c.fact 29 (f := .glo "_law_any") rfl)
  obtain ⟨fd__law_nested, F__law_nested⟩ := c.def_ 41 rfl
  have FD__law_nested := F__law_nested
  have F__law_nested := funD_fun (st := s_law_nested) F__law_nested
  have B__law_nested := F__law_nested.binds (ps := ["_law_hand_here"]) fun _ _ _ _ _ _ us hl => match us, hl with | [_], _ => rfl
  have M__law_nested := He.glo_ok X G (c.fact 41 (f := .glo "_law_nested") rfl)
  obtain ⟨fd__law_is_book, F__law_is_book⟩ := c.def_ 40 rfl
  have FD__law_is_book := F__law_is_book
  have F__law_is_book := funD_fun (st := s_law_is_book) F__law_is_book
  have B__law_is_book := F__law_is_book.binds (ps := ["_law_many", "_law_moves_here", "_law_thing"]) fun _ _ _ _ _ _ us hl => match us, hl with | [_, _, _], _ => rfl
  have M__law_is_book := He.glo_ok X G (c.fact 40 (f := .glo "_law_is_book") rfl)
  obtain ⟨fd__law_moves, F__law_moves⟩ := c.def_ 35 rfl
  have FD__law_moves := F__law_moves
  have F__law_moves := funD_fun (st := s_law_moves) F__law_moves
  have B__law_moves := F__law_moves.binds (ps := ["_law_hand_here", "_law_many", "_law_most"]) fun _ _ _ _ _ _ us hl => match us, hl with | [_, _, _], _ => rfl
  have M__law_moves := He.glo_ok X G (c.fact 35 (f := .glo "_law_moves") rfl)
  obtain ⟨fd__law_leads, F__law_leads⟩ := c.def_ 33 rfl
  have FD__law_leads := F__law_leads
  have F__law_leads := funD_fun (st := s_law_leads) F__law_leads
  have B__law_leads := F__law_leads.binds (ps := ["_law_hand_here", "_law_many"]) fun _ _ _ _ _ _ us hl => match us, hl with | [_, _], _ => rfl
  have M__law_leads := He.glo_ok X G (c.fact 33 (f := .glo "_law_leads") rfl)
  obtain ⟨fd__law_halved, F__law_halved⟩ := c.def_ 34 rfl
  have FD__law_halved := F__law_halved
  have F__law_halved := funD_fun (st := s_law_halved) F__law_halved
  have B__law_halved := F__law_halved.binds (ps := ["_law_leads_here"]) fun _ _ _ _ _ _ us hl => match us, hl with | [_], _ => rfl
  have M__law_halved := He.glo_ok X G (c.fact 34 (f := .glo "_law_halved") rfl)
  obtain ⟨fd__law_parts, F__law_parts⟩ := c.def_ 32 rfl
  have FD__law_parts := F__law_parts
  have F__law_parts := funD_fun (st := s_law_parts) F__law_parts
  have B__law_parts := F__law_parts.binds (ps := ["_law_hand_here", "_law_many"]) fun _ _ _ _ _ _ us hl => match us, hl with | [_, _], _ => rfl
  have M__law_parts := He.glo_ok X G (c.fact 32 (f := .glo "_law_parts") rfl)
  obtain ⟨fd__law_low, F__law_low⟩ := c.def_ 31 rfl
  have FD__law_low := F__law_low
  have F__law_low := funD_fun (st := s_law_low) F__law_low
  have B__law_low := F__law_low.binds (ps := ["_law_top", "_law_bottom"]) fun _ _ _ _ _ _ us hl => match us, hl with | [_, _], _ => rfl
  have M__law_low := He.glo_ok X G (c.fact 31 (f := .glo "_law_low") rfl)
  obtain ⟨fd__law_turned, F__law_turned⟩ := c.def_ 45 rfl
  have FD__law_turned := F__law_turned
  have F__law_turned := funD_fun (st := s_law_turned) F__law_turned
  have B__law_turned := F__law_turned.binds (ps := ["_law_hand_here", "_law_many"]) fun _ _ _ _ _ _ us hl => match us, hl with | [_, _], _ => rfl
  have M__law_turned := He.glo_ok X G (c.fact 45 (f := .glo "_law_turned") rfl)
  have MK := He.mkr_ok (c.fact 69 (f := .mkr "System") rfl)

  have bla := FunD.bindsA (ps := ["_law_script"]) FD_law fun _ _ _ _ _ _ us hl => match us, hl with | [_], _ => rfl
  refine ⟨fd_law, fun s v => bla s [v] rfl, fun base KB GB => ?_⟩
  have k_hand : Cl P w K mg base CX0 1 "_law_hand" _ fd__law_hand ["_law_script"] (spHand K) := ⟨ok_hand F__law_hand T, B__law_hand, M__law_hand, F__law_hand.kp⟩
  have k_draw : Cl P w K mg base CX0 1 "_law_draw" _ fd__law_draw ["_law_hand_here", "_law_many"] spDraw := ⟨ok_draw F__law_draw T, B__law_draw, M__law_draw, F__law_draw.kp⟩
  have k_isint : Cl P w K mg base CX0 1 "is_integer" _ fd_is_integer ["thing"] (spIsInt K) := ⟨ok_isint F_is_integer T, B_is_integer, M_is_integer, F_is_integer.kp⟩
  have k_within : Cl P w K mg base CX0 2 "is_within" _ fd_is_within ["low", "high", "thing"] (spWithin K) := ⟨ok_within F_is_within k_isint, B_is_within, M_is_within, F_is_within.kp⟩
  have k_frac : Cl P w K mg base CX0 2 "is_fraction" _ fd_is_fraction ["thing"] (spFrac K) := ⟨ok_frac F_is_fraction T k_isint, B_is_fraction, M_is_fraction, F_is_fraction.kp⟩
  have k_rowb : Cl P w K mg base CX0 3 "is_row_below" _ fd_is_row_below ["bound", "thing"] (spRowB K) := ⟨ok_rowb F_is_row_below T k_within, B_is_row_below, M_is_row_below, F_is_row_below.kp⟩
  have k_move : Cl P w K mg base CX0 4 "is_move" _ fd_is_move ["many", "thing"] (spMove K) := ⟨ok_move F_is_move T k_frac k_rowb, B_is_move, M_is_move, F_is_move.kp⟩
  have k_comb : Cl P w K mg base CX0 1 "common_bottom" _ fd_common_bottom ["fractions"] (spComB K) := ⟨ok_comb F_common_bottom T, B_common_bottom, M_common_bottom, F_common_bottom.kp⟩
  have k_tops : Cl P w K mg base CX0 1 "tops_over" _ fd_tops_over ["fractions", "bottom"] (spTops K) := ⟨ok_tops F_tops_over, B_tops_over, M_tops_over, F_tops_over.kp⟩
  have k_one : Cl P w K mg base CX0 2 "are_one_together" _ fd_are_one_together ["fractions"] (spOne K) := ⟨ok_one F_are_one_together T k_comb k_tops, B_are_one_together, M_are_one_together, F_are_one_together.kp⟩
  have g_sinit := ok_sinit (P := P) (w := w) (base := base) F_System___init__ T Y k_within k_move k_one
  have k_led0 : Cl P w K mg base CX0 1 "_law_led" _ fd__law_led ["_law_leads_here", "_law_lot"] (spLotLed K) := ⟨ok_led0 F__law_led T, B__law_led, M__law_led, F__law_led.kp⟩
  have k_merging : Cl P w K mg base CX0 2 "_law_merging" _ fd__law_merging ["_law_many", "_law_moves_here"] (spLMerg K) := ⟨ok_merging F__law_merging T k_led0, B__law_merging, M__law_merging, F__law_merging.kp⟩
  have k_couples : Cl P w K mg base CX0 1 "_law_couples" _ fd__law_couples ["_law_many"] (spLCou K) := ⟨ok_couples F__law_couples T, B__law_couples, M__law_couples, F__law_couples.kp⟩
  have k_lapart : Cl P w K mg base CX0 2 "_law_apart" _ fd__law_apart ["_law_many", "_law_moves_here"] (spLAp K) := ⟨ok_lapart F__law_apart T k_couples k_led0, B__law_apart, M__law_apart, F__law_apart.kp⟩
  have k_lot_of : Cl P w K mg base CX0 1 "lot_of" _ fd_lot_of ["things"] (spLotOf K) := ⟨ok_lot_of F_lot_of T, B_lot_of, M_lot_of, F_lot_of.kp⟩
  have k_lot_led : Cl P w K mg base CX0 2 "lot_led" _ fd_lot_led ["leads", "lot"] (spLotLed K) := ⟨ok_lot_led F_lot_led T k_lot_of, B_lot_led, M_lot_led, F_lot_led.kp⟩
  have k_least_row_to_one : Cl P w K mg base CX0 3 "least_row_to_one" _ fd_least_row_to_one ["system", "start"] (spLeast K (He.ga K "System")) := ⟨ok_least_row_to_one F_least_row_to_one T k_lot_led Y, B_least_row_to_one, M_least_row_to_one, F_least_row_to_one.kp⟩
  have k_merging_row : Cl P w K mg base CX0 4 "merging_row" _ fd_merging_row ["system"] (spMrow K (He.ga K "System")) := ⟨ok_merging_row F_merging_row T k_least_row_to_one Y, B_merging_row, M_merging_row, F_merging_row.kp⟩
  have k_is2 : Cl P w K mg base CX0 3 "_law_is" _ fd__law_is ["_law_told", "_law_due"] (spIs2 K) := ⟨ok_is2 F__law_is T B__law_is M__law_is F__law_is.kp, B__law_is, M__law_is, F__law_is.kp⟩
  have k_keptL : Cl P w K mg base CX0 3 "is_kept" _ fd_is_kept ["system", "couples"] (spKeptL K (He.ga K "System")) := ⟨ok_keptL F_is_kept T Y k_lot_led, B_is_kept, M_is_kept, F_is_kept.kp⟩
  have k_apart : Cl P w K mg base CX0 4 "apart" _ fd_apart ["system"] (spApartP K (He.ga K "System")) := ⟨ok_apart F_apart T k_keptL Y k_lot_led, B_apart, M_apart, F_apart.kp⟩
  have k_shortest : Cl P w K mg base CX0 1 "_law_shortest" _ fd__law_shortest ["_law_many", "_law_moves_here", "_law_most"] (spLSh K) := ⟨ok_shortest F__law_shortest T, B__law_shortest, M__law_shortest, F__law_shortest.kp⟩
  have k_keptT : Cl P w K mg base CX0 3 "is_kept" _ fd_is_kept ["system", "couples"] (spKeptT K (He.ga K "System")) := ⟨ok_keptT F_is_kept T Y k_lot_led, B_is_kept, M_is_kept, F_is_kept.kp⟩
  have k_rowK : Cl P w K mg base CX0 3 "is_row_below" _ fd_is_row_below ["bound", "thing"] (spRowK K) := ⟨ok_rowK F_is_row_below T k_within, B_is_row_below, M_is_row_below, F_is_row_below.kp⟩
  have k_pairP : Cl P w K mg base CX0 4 "is_pair_below" _ fd_is_pair_below ["bound", "thing"] (spPairP K) := ⟨ok_pairP F_is_pair_below T k_rowK, B_is_pair_below, M_is_pair_below, F_is_pair_below.kp⟩
  have k_ascP : Cl P w K mg base CX0 1 "is_ascending" _ fd_is_ascending ["things"] (spAscP K) := ⟨ok_ascP F_is_ascending T, B_is_ascending, M_is_ascending, F_is_ascending.kp⟩
  have k_lotPP : Cl P w K mg base CX0 5 "is_lot_of_pairs" _ fd_is_lot_of_pairs ["bound", "thing"] (spLotPP K) := ⟨ok_lotPP F_is_lot_of_pairs T k_pairP k_ascP, B_is_lot_of_pairs, M_is_lot_of_pairs, F_is_lot_of_pairs.kp⟩
  have k_lotCP : Cl P w K mg base CX0 6 "is_lot_of_couples" _ fd_is_lot_of_couples ["bound", "thing"] (spLotCP K) := ⟨ok_lotCP F_is_lot_of_couples T k_lotPP, B_is_lot_of_couples, M_is_lot_of_couples, F_is_lot_of_couples.kp⟩
  have k_is_book : Cl P w K mg base CX0 7 "is_book" _ fd_is_book ["system", "thing"] (spBook K (He.ga K "System")) := ⟨ok_is_book F_is_book T k_keptT k_lotCP Y, B_is_book, M_is_book, F_is_book.kp⟩
  have k_isrow : Cl P w K mg base CX0 4 "is_row" _ fd_is_row ["system", "thing"] (spIsRow K (He.ga K "System")) := ⟨ok_isrow F_is_row T Y k_rowb, B_is_row, M_is_row, F_is_row.kp⟩
  have k_led : Cl P w K mg base CX0 5 "led" _ fd_led ["system", "row", "state"] (spLed K (He.ga K "System")) := ⟨ok_led F_led Y k_isrow k_within, B_led, M_led, F_led.kp⟩
  have k_all : Cl P w K mg base CX0 6 "led_all" _ fd_led_all ["system", "row"] (spAll K (He.ga K "System")) := ⟨ok_all F_led_all T Y k_isrow k_led, B_led_all, M_led_all, F_led_all.kp⟩
  have k_grown : Cl P w K mg base CX0 2 "_law_grown" _ fd__law_grown ["_law_moves_here", "_law_pair"] (spGrown K) := ⟨ok_grown F__law_grown T k_led0, B__law_grown, M__law_grown, F__law_grown.kp⟩
  have k_any : Cl P w K mg base CX0 2 "_law_any" _ fd__law_any ["_law_hand_here", "_law_items"] (spAny K) := ⟨ok_any F__law_any T k_draw, B__law_any, M__law_any, F__law_any.kp⟩
  have k_nested : Cl P w K mg base CX0 3 "_law_nested" _ fd__law_nested ["_law_hand_here"] (spNest K) := ⟨ok_nested F__law_nested T k_any k_draw, B__law_nested, M__law_nested, F__law_nested.kp⟩
  have k_books : Cl P w K mg base CX0 4 "_law_books" _ fd__law_books ["_law_hand_here", "_law_many", "_law_moves_here", "_law_due"] (spBooks K) := ⟨ok_books F__law_books T k_couples k_draw k_grown k_any k_nested, B__law_books, M__law_books, F__law_books.kp⟩
  have k_lbook : Cl P w K mg base CX0 2 "_law_is_book" _ fd__law_is_book ["_law_many", "_law_moves_here", "_law_thing"] (spLBook K) := ⟨ok_lbook F__law_is_book T k_led0, B__law_is_book, M__law_is_book, F__law_is_book.kp⟩
  have k_one_right : Cl P w K mg base CX0 8 "_law_one_right" _ fd__law_one_right ["_law_hand_here", "_law_many", "_law_moves_here"] (spRight K (He.ga K "System")) := ⟨ok_one_right F__law_one_right T MK g_sinit B_System___init__ Y k_merging k_lapart k_merging_row k_is2 k_apart k_shortest k_is_book k_all k_books k_lbook Y, B__law_one_right, M__law_one_right, F__law_one_right.kp⟩
  have k_leads : Cl P w K mg base CX0 2 "_law_leads" _ fd__law_leads ["_law_hand_here", "_law_many"] (spLeads K) := ⟨ok_leads F__law_leads T k_draw, B__law_leads, M__law_leads, F__law_leads.kp⟩
  have k_halved : Cl P w K mg base CX0 1 "_law_halved" _ fd__law_halved ["_law_leads_here"] (spHalved K) := ⟨ok_halved F__law_halved T, B__law_halved, M__law_halved, F__law_halved.kp⟩
  have k_low : Cl P w K mg base CX0 1 "_law_low" _ fd__law_low ["_law_top", "_law_bottom"] spLowS := ⟨ok_low F__law_low T, B__law_low, M__law_low, F__law_low.kp⟩
  have k_parts : Cl P w K mg base CX0 3 "_law_parts" _ fd__law_parts ["_law_hand_here", "_law_many"] (spParts K) := ⟨ok_parts F__law_parts T k_any k_low, B__law_parts, M__law_parts, F__law_parts.kp⟩
  have k_moves : Cl P w K mg base CX0 4 "_law_moves" _ fd__law_moves ["_law_hand_here", "_law_many", "_law_most"] (spMoves K) := ⟨ok_moves F__law_moves T k_draw k_leads k_halved k_parts, B__law_moves, M__law_moves, F__law_moves.kp⟩
  have k_turned : Cl P w K mg base CX0 3 "_law_turned" _ fd__law_turned ["_law_hand_here", "_law_many"] (spTurned K) := ⟨ok_turned F__law_turned T k_draw k_any k_low, B__law_turned, M__law_turned, F__law_turned.kp⟩
  exact ok_law F_law T k_hand k_draw k_one_right k_moves k_turned Y
end
end Law
open PySem PySem.W PySem.Calls PyProof.Rows
theorem PySem.Challenge.cw_asifforever_k08_whole_merging_rows_and_b_holds : PySem.Challenge.rw_asifforever_k08_whole_merging_rows_and_b.Holds := by
  w_on; o_law
  refine HandSHeadRun.head_imp (r := OpenLaw.row PySem.Challenge.rw_asifforever_k08_whole_merging_rows_and_b) (q := view (OpenLaw.row PySem.Challenge.rw_asifforever_k08_whole_merging_rows_and_b).prog [0, 53]) (H := Law.hk) (ob := Law.ob) (M := 13000) (loose := Law.names) (d := HandSHeadRun.topDef (OpenLaw.row PySem.Challenge.rw_asifforever_k08_whole_merging_rows_and_b).prog 53) (kwd := []) Law.ob_eq
    Law.run (by kernel_rfl) (by kernel_rfl) (by kernel_rfl) (by rfl) (by first | assumption | decide +kernel) (by decide +kernel) ⟨rfl, rfl, rfl, rfl, rfl, by decide +kernel⟩ ?hw ?hc
  case hw => w_witness2
  case hc =>
    refine L2.walk_ofE (l := PySem.Challenge.rw_asifforever_k08_whole_merging_rows_and_b) (n := 63) (k := 9) (x := "_law_script") (CX := L2.CX0) rfl (by decide) (by kernel_rfl) ⟨rfl, by decide, by decide⟩ ?F (fun _ _ _ _ z => z)
    intro w mg fa h Y G hmg0
    obtain ⟨K, KX, c, e⟩ := Y
    have hmg : mg ("law" : PySem.Str) = some (.ref fa) := by
      have e : (HandSHeadRun.topDef (OpenLaw.row PySem.Challenge.rw_asifforever_k08_whole_merging_rows_and_b).prog 53).name = ("law" : PySem.Str) := by kernel_rfl
      rw [← e]
      exact hmg0
    obtain ⟨fd, hb, hF⟩ := Law.facts (P := (PySem.Challenge.rw_asifforever_k08_whole_merging_rows_and_b).prog) (w := w) (by rfl) KX G hmg c e
    exact ⟨K, fd, Law.spLaw K, KX, hb, fun H a ns hl _ hS => ⟨a, ns, rfl, hS, hl, fun _ => rfl⟩, hF⟩

