import PyProof.Rows.All
import Wide.All
import OpenK.AllK
import Wide.FinOn
import KE.KExcIs
import HandS.ForMost
import HandS.Evl
import HandS.IsInst
import HandS.ExcInit
import HandS.ExcIs
import HandS.DeepEq
import HandS.OwnEq
import HandS.SetFor
import KE.GoesMore
import PyProof.Draws
import HandS.Walk
import HandS.Wide
import HandS.Gcd
import KE.KStateDown
import HandS.Defaults
import HandS.Head0
import HandS.Head1
import HandS.Head2
import HandS.Head3
import HandS.HeadEnd
import HandS.HeadHook1
import HandS.HeadHook2
import PyProof.NoPylong
import HandS.Conv
import HandS.TupMul
import HandS.TupAny
import HandS.Strs
import HandS.List
import HandS.Style
import PySem.Challenge.RW_asifforever_k27_whole_makers_of_models
import KE.KeyNested
import HandS.DictTup
import HandS.TupLe
import HandS.NoneIn
import KE.KUnpackStar
import HandS.Zip
import HandS.SortRule
import HandS.SortInts
import HandS.TupMul
import KE.KTupSum
set_option Elab.async false
set_option linter.all false
set_option maxRecDepth 100000
set_option maxHeartbeats 4000000
set_option exponentiation.threshold 200000
namespace Law
open PySem L2
def top (i : Nat) : Stmt := PySem.Challenge.pw_asifforever_k27_whole_makers_of_models.main.body.getD i (.Pass ⟨0, 0, 0, 0⟩)
abbrev s_is_integer : Stmt := top 1
abbrev s_is_within : Stmt := top 2
abbrev s_is_row_below : Stmt := top 3
abbrev s_is_pair_below : Stmt := top 4
abbrev s_is_ascending : Stmt := top 5
abbrev s_is_lot_of_pairs : Stmt := top 6
abbrev s_is_lot_of_couples : Stmt := top 7
abbrev s_BadModel_init : Stmt := inClass (top 10) 0
abbrev s_TooMany_init : Stmt := inClass (top 11) 0
abbrev s_NoPicture_init : Stmt := inClass (top 12) 0
abbrev s_NoSizes_init : Stmt := inClass (top 13) 0
abbrev s_NoPairs_init : Stmt := inClass (top 14) 0
abbrev s_Model_init : Stmt := inClass (top 16) 0
abbrev s_Model_eq : Stmt := inClass (top 16) 1
abbrev s_is_table : Stmt := top 17
abbrev s_is_tie : Stmt := top 18
abbrev s_ties_at : Stmt := top 19
abbrev s_is_picture : Stmt := top 20
abbrev s_weight : Stmt := top 21
abbrev s_goes_on : Stmt := top 22
abbrev s_fitting_from : Stmt := top 23
abbrev s_first_fitting : Stmt := top 24
abbrev s_fitting : Stmt := top 25
abbrev s_check_pairs : Stmt := top 26
abbrev s_tied_alike : Stmt := top 27
abbrev s_spins : Stmt := top 28
abbrev s_sets_apart : Stmt := top 29
abbrev s_colourings : Stmt := top 30
abbrev s_stacks : Stmt := top 31
abbrev s_law_hand : Stmt := top 33
abbrev s_law_draw : Stmt := top 34
abbrev s_law_any : Stmt := top 35
abbrev s_law_number : Stmt := top 36
abbrev s_law_pairs : Stmt := top 37
abbrev s_law_pictures : Stmt := top 38
abbrev s_law_weight : Stmt := top 39
abbrev s_law_made : Stmt := top 40
abbrev s_law_even : Stmt := top 41
abbrev s_law_net : Stmt := top 42
abbrev s_law_steps : Stmt := top 43
abbrev s_law_falling : Stmt := top 44
abbrev s_law_rows_falling : Stmt := top 45
abbrev s_law_power : Stmt := top 46
abbrev s_law_made_by : Stmt := top 47
abbrev s_law_weight_due : Stmt := top 48
abbrev s_law_called : Stmt := top 49
abbrev s_law : Stmt := top 50
end Law
namespace Law
open PySem PySem.Spec PyProof.Rows L2
/-! ### the head's Hook: facts of K by names, and one more Bool -/
abbrev AlM : Type := He.AlD × Bool
def obsM (n : Nat) (fa : List He.Fa) (fn : List He.DefD) (ex : PySem.W.Frag → Bool) (g : Addr → Option Obj) : AlM := (He.obsD fa fn (He.frG g (He.asD g n)), ex (He.frG g (He.asD g n)))
def hookM (n : Nat) (fa : List He.Fa) (fn : List He.DefD) (ex : PySem.W.Frag → Bool) : PySem.W.Hook where
  α := AlM
  obs := fun s => obsM n fa fn ex s.heap.get?
  val := fun _ => (He.valD fn, true)
  says := fun _ h => ∃ K : PySem.W.Frag, K.In h ∧ He.SaysD fa fn K ∧ ex K = true
  of := fun _ _ e => ⟨_, He.frG_in, congrArg (fun z : AlM => z.1) e, congrArg (fun z : AlM => z.2) e⟩
  keeps := fun _ _ _ ⟨K, hK, c⟩ k => ⟨K, PySem.W.Frag.In.keeps hK k, c⟩
theorem obsM_eq {n : Nat} {fa : List He.Fa} {fn : List He.DefD} {ex : PySem.W.Frag → Bool} {g : Addr → Option Obj} {s : Shared} (h : ∀ a, g a = s.heap.get? a) : obsM n fa fn ex g = (hookM n fa fn ex).obs s := by
  have e : g = s.heap.get? := funext h
  rw [e] <;> rfl
theorem funD_fun {K : PySem.W.Frag} {x qual : Str} {st : Stmt} {f : Addr} {fd : FuncData} (F : FunD K x qual (defArgs st) (defBody st) (defScope st) [] [] f fd) : Fun K x qual st f fd := by
  obtain ⟨⟨oc, od, dV, kV, doc, pm, an, cdv, ct, osl, h1, h2, h3, h4, _⟩, kp⟩ := F
  rcases h4 with ⟨_, rfl⟩ | ⟨h, _⟩
  · exact ⟨⟨oc, od, kV, doc, pm, an, cdv, ct, osl, h1, h2, h3⟩, kp⟩
  · exact absurd rfl h
end Law
namespace Law
open PySem PySem.Spec PyProof.Rows L2
/-! ### facts of the classes, as Bools of K -/
def clsB (K : PySem.W.Frag) (C : Addr) : Bool := match K.lookup C with
  | some ⟨.type "type", _, .cls cd, sl⟩ => (match cd.mro, sl.toList with
    | .ref C' :: bm, [_, _, _, _, some (.builtin n), _] => decide (C' = C) && (decide (n = "ValueError.__new__") && (!cd.hasDel && (cd.hasDict && PySem.HandSPX.refsVE bm)))
    | _, _ => false)
  | _ => false
def optT (o : Option Bool) : Bool := match o with
  | some b => b
  | none => false
def exvB (K : PySem.W.Frag) (C : Addr) : Bool :=
  clsB K C && (He.eqO (PySem.W.findIn K (.ref C) "__setattr__") (some (some (.builtin "object.__setattr__"))) && (optT (PySem.W.subIn K (.ref C) (.type "BaseException")) && (decide (PySem.W.typeIn K (.ref C) = some (.type "type")) && (PySem.W.keepIn K (.ref C) &&
  ((PySem.W.clsIn K C).isSome && (He.eqO (PySem.W.findIn K (.ref C) "__getattribute__") (some (some (.builtin "BaseException.__getattribute__"))) && (He.eqO (PySem.W.findIn K (.ref C) "__getattr__") (some none) && (He.eqO (PySem.W.findIn K (.ref C) "__class__") (some (some (.builtin "object.__class__"))) &&
  (He.eqO (PySem.W.specialIn K (.builtin "object.__class__") "__get__") (some (some (.builtin "getset_descriptor.__get__"))) && (optT (PySem.W.takesIn K (.builtin "object.__class__")) && (optT (PySem.W.mroIn K C (.type "object")) && PySem.W.hasDictIn K C)))))))))))
def iniB (K : PySem.W.Frag) (C : Addr) : Bool := He.eqO (PySem.W.findIn K (.ref C) "__init__") (some (some (.ref (He.ma K C "__init__")))) && decide (PySem.W.typeIn K (.ref (He.ma K C "__init__")) = some (.type "function"))
def mroB (K : PySem.W.Frag) (C D : Addr) : Bool := decide ((PySem.W.clsIn K C).map (·.mro) = some [.ref C, .ref D, .type "ValueError", .type "Exception", .type "BaseException", .type "object"])
/-- an own plain class's instances are asked for their class as usual -/
def insB (K : PySem.W.Frag) (C : Addr) : Bool := He.eqO (PySem.W.findIn K (.ref C) "__class__") (some (some (.builtin "object.__class__"))) && (He.eqO (PySem.W.specialIn K (.builtin "object.__class__") "__get__") (some (some (.builtin "getset_descriptor.__get__"))) && (optT (PySem.W.takesIn K (.builtin "object.__class__")) && optT (PySem.W.mroIn K C (.type "object"))))
def kiB (K : PySem.W.Frag) (a b : Addr) (r : Bool) : Bool := decide (PySem.W.kitOne K (.ref a) (.ref b) = some r)
def subB (K : PySem.W.Frag) (t : Value) (C : Addr) : Bool := decide (PySem.W.kitOne K t (.ref C) = some false) && PySem.W.notFirst K C t
def exK (K : PySem.W.Frag) : Bool := insB K (He.ga K "Model") && (exvB K (He.ga K "TooMany") && (iniB K (He.ga K "TooMany") && (He.eqO (PySem.W.findIn K (.ref (He.ga K "Model")) "__ne__") (some (some (.builtin "object.__ne__"))) &&
  (subB K (.type "dict") (He.ga K "Model") && subB K (.type "tuple") (He.ga K "Model")))))
end Law
set_option maxHeartbeats 0
namespace Law
open PySem PySem.Spec PyProof.Rows L2
def fns : List He.DefD := [
  ⟨("is_integer", none), "is_integer", "is_integer", defArgs s_is_integer, defBody s_is_integer, defScope s_is_integer, [], []⟩,
  ⟨("is_within", none), "is_within", "is_within", defArgs s_is_within, defBody s_is_within, defScope s_is_within, [], []⟩,
  ⟨("is_row_below", none), "is_row_below", "is_row_below", defArgs s_is_row_below, defBody s_is_row_below, defScope s_is_row_below, [], []⟩,
  ⟨("is_pair_below", none), "is_pair_below", "is_pair_below", defArgs s_is_pair_below, defBody s_is_pair_below, defScope s_is_pair_below, [], []⟩,
  ⟨("is_ascending", none), "is_ascending", "is_ascending", defArgs s_is_ascending, defBody s_is_ascending, defScope s_is_ascending, [], []⟩,
  ⟨("is_lot_of_pairs", none), "is_lot_of_pairs", "is_lot_of_pairs", defArgs s_is_lot_of_pairs, defBody s_is_lot_of_pairs, defScope s_is_lot_of_pairs, [], []⟩,
  ⟨("is_lot_of_couples", none), "is_lot_of_couples", "is_lot_of_couples", defArgs s_is_lot_of_couples, defBody s_is_lot_of_couples, defScope s_is_lot_of_couples, [], []⟩,
  ⟨("BadModel", some "__init__"), "__init__", "BadModel.__init__", defArgs s_BadModel_init, defBody s_BadModel_init, defScope s_BadModel_init, [], []⟩,
  ⟨("TooMany", some "__init__"), "__init__", "TooMany.__init__", defArgs s_TooMany_init, defBody s_TooMany_init, defScope s_TooMany_init, [], []⟩,
  ⟨("NoPicture", some "__init__"), "__init__", "NoPicture.__init__", defArgs s_NoPicture_init, defBody s_NoPicture_init, defScope s_NoPicture_init, [], []⟩,
  ⟨("NoSizes", some "__init__"), "__init__", "NoSizes.__init__", defArgs s_NoSizes_init, defBody s_NoSizes_init, defScope s_NoSizes_init, [], []⟩,
  ⟨("NoPairs", some "__init__"), "__init__", "NoPairs.__init__", defArgs s_NoPairs_init, defBody s_NoPairs_init, defScope s_NoPairs_init, [], []⟩,
  ⟨("Model", some "__init__"), "__init__", "Model.__init__", defArgs s_Model_init, defBody s_Model_init, defScope s_Model_init, [], []⟩,
  ⟨("Model", some "__eq__"), "__eq__", "Model.__eq__", defArgs s_Model_eq, defBody s_Model_eq, defScope s_Model_eq, [], []⟩,
  ⟨("is_table", none), "is_table", "is_table", defArgs s_is_table, defBody s_is_table, defScope s_is_table, [], []⟩,
  ⟨("is_tie", none), "is_tie", "is_tie", defArgs s_is_tie, defBody s_is_tie, defScope s_is_tie, [], []⟩,
  ⟨("ties_at", none), "ties_at", "ties_at", defArgs s_ties_at, defBody s_ties_at, defScope s_ties_at, [], []⟩,
  ⟨("is_picture", none), "is_picture", "is_picture", defArgs s_is_picture, defBody s_is_picture, defScope s_is_picture, [], []⟩,
  ⟨("weight", none), "weight", "weight", defArgs s_weight, defBody s_weight, defScope s_weight, [], []⟩,
  ⟨("goes_on", none), "goes_on", "goes_on", defArgs s_goes_on, defBody s_goes_on, defScope s_goes_on, [], []⟩,
  ⟨("fitting_from", none), "fitting_from", "fitting_from", defArgs s_fitting_from, defBody s_fitting_from, defScope s_fitting_from, [], []⟩,
  ⟨("first_fitting", none), "first_fitting", "first_fitting", defArgs s_first_fitting, defBody s_first_fitting, defScope s_first_fitting, [], []⟩,
  ⟨("fitting", none), "fitting", "fitting", defArgs s_fitting, defBody s_fitting, defScope s_fitting, [], []⟩,
  ⟨("check_pairs", none), "check_pairs", "check_pairs", defArgs s_check_pairs, defBody s_check_pairs, defScope s_check_pairs, [], []⟩,
  ⟨("tied_alike", none), "tied_alike", "tied_alike", defArgs s_tied_alike, defBody s_tied_alike, defScope s_tied_alike, [], []⟩,
  ⟨("spins", none), "spins", "spins", defArgs s_spins, defBody s_spins, defScope s_spins, [], []⟩,
  ⟨("sets_apart", none), "sets_apart", "sets_apart", defArgs s_sets_apart, defBody s_sets_apart, defScope s_sets_apart, [], []⟩,
  ⟨("colourings", none), "colourings", "colourings", defArgs s_colourings, defBody s_colourings, defScope s_colourings, [], []⟩,
  ⟨("stacks", none), "stacks", "stacks", defArgs s_stacks, defBody s_stacks, defScope s_stacks, [], []⟩,
  ⟨("_law_hand", none), "_law_hand", "_law_hand", defArgs s_law_hand, defBody s_law_hand, defScope s_law_hand, [], []⟩,
  ⟨("_law_draw", none), "_law_draw", "_law_draw", defArgs s_law_draw, defBody s_law_draw, defScope s_law_draw, [], []⟩,
  ⟨("_law_any", none), "_law_any", "_law_any", defArgs s_law_any, defBody s_law_any, defScope s_law_any, [], []⟩,
  ⟨("_law_number", none), "_law_number", "_law_number", defArgs s_law_number, defBody s_law_number, defScope s_law_number, [], []⟩,
  ⟨("_law_pairs", none), "_law_pairs", "_law_pairs", defArgs s_law_pairs, defBody s_law_pairs, defScope s_law_pairs, [], []⟩,
  ⟨("_law_pictures", none), "_law_pictures", "_law_pictures", defArgs s_law_pictures, defBody s_law_pictures, defScope s_law_pictures, [], []⟩,
  ⟨("_law_weight", none), "_law_weight", "_law_weight", defArgs s_law_weight, defBody s_law_weight, defScope s_law_weight, [], []⟩,
  ⟨("_law_made", none), "_law_made", "_law_made", defArgs s_law_made, defBody s_law_made, defScope s_law_made, [], []⟩,
  ⟨("_law_even", none), "_law_even", "_law_even", defArgs s_law_even, defBody s_law_even, defScope s_law_even, [], []⟩,
  ⟨("_law_net", none), "_law_net", "_law_net", defArgs s_law_net, defBody s_law_net, defScope s_law_net, [], []⟩,
  ⟨("_law_steps", none), "_law_steps", "_law_steps", defArgs s_law_steps, defBody s_law_steps, defScope s_law_steps, [], []⟩,
  ⟨("_law_falling", none), "_law_falling", "_law_falling", defArgs s_law_falling, defBody s_law_falling, defScope s_law_falling, [], []⟩,
  ⟨("_law_rows_falling", none), "_law_rows_falling", "_law_rows_falling", defArgs s_law_rows_falling, defBody s_law_rows_falling, defScope s_law_rows_falling, [], []⟩,
  ⟨("_law_power", none), "_law_power", "_law_power", defArgs s_law_power, defBody s_law_power, defScope s_law_power, [], []⟩,
  ⟨("_law_made_by", none), "_law_made_by", "_law_made_by", defArgs s_law_made_by, defBody s_law_made_by, defScope s_law_made_by, [], []⟩,
  ⟨("_law_weight_due", none), "_law_weight_due", "_law_weight_due", defArgs s_law_weight_due, defBody s_law_weight_due, defScope s_law_weight_due, [], []⟩,
  ⟨("_law_called", none), "_law_called", "_law_called", defArgs s_law_called, defBody s_law_called, defScope s_law_called, [], []⟩,
  ⟨("law", none), "law", "law", defArgs s_law, defBody s_law, defScope s_law, [], []⟩]
def fas : List He.Fa := [
  .glo "is_integer", .glo "is_within", .glo "is_row_below", .glo "is_pair_below", .glo "is_ascending", .glo "is_lot_of_pairs", .glo "is_lot_of_couples", .glo "DrawError", .glo "BadModel", .glo "TooMany", .glo "NoPicture", .glo "NoSizes", .glo "NoPairs", .glo "Model", .glo "is_table", .glo "is_tie", .glo "ties_at", .glo "is_picture", .glo "weight", .glo "goes_on", .glo "fitting_from", .glo "first_fitting", .glo "fitting", .glo "check_pairs", .glo "tied_alike", .glo "spins", .glo "sets_apart", .glo "colourings", .glo "stacks", .glo "_law_hand", .glo "_law_draw", .glo "_law_any", .glo "_law_number", .glo "_law_pairs", .glo "_law_pictures", .glo "_law_weight", .glo "_law_made", .glo "_law_even", .glo "_law_net", .glo "_law_steps", .glo "_law_falling", .glo "_law_rows_falling", .glo "_law_power", .glo "_law_made_by", .glo "_law_weight_due", .glo "_law_called", .glo "law", .free "ValueError", .free "abs", .free "all", .free "any", .free "bool", .free "enumerate", .free "int", .free "isinstance", .free "len", .free "max", .free "range", .free "sorted", .free "sum", .free "tuple", .free "zip", .cls "Model", .noat "Model" "many", .noat "Model" "levels", .noat "Model" "weights", .noat "Model" "ties", .mkr "Model", .meth "Model" "__eq__"]
-- defs: 0 is_integer, 1 is_within, 2 is_row_below, 3 is_pair_below, 4 is_ascending, 5 is_lot_of_pairs, 6 is_lot_of_couples, 7 BadModel.__init__, 8 TooMany.__init__, 9 NoPicture.__init__, 10 NoSizes.__init__, 11 NoPairs.__init__, 12 Model.__init__, 13 Model.__eq__, 14 is_table, 15 is_tie, 16 ties_at, 17 is_picture, 18 weight, 19 goes_on, 20 fitting_from, 21 first_fitting, 22 fitting, 23 check_pairs, 24 tied_alike, 25 spins, 26 sets_apart, 27 colourings, 28 stacks, 29 _law_hand, 30 _law_draw, 31 _law_any, 32 _law_number, 33 _law_pairs, 34 _law_pictures, 35 _law_weight, 36 _law_made, 37 _law_even, 38 _law_net, 39 _law_steps, 40 _law_falling, 41 _law_rows_falling, 42 _law_power, 43 _law_made_by, 44 _law_weight_due, 45 _law_called, 46 law
-- facts: 0 .glo "is_integer", 1 .glo "is_within", 2 .glo "is_row_below", 3 .glo "is_pair_below", 4 .glo "is_ascending", 5 .glo "is_lot_of_pairs", 6 .glo "is_lot_of_couples", 7 .glo "DrawError", 8 .glo "BadModel", 9 .glo "TooMany", 10 .glo "NoPicture", 11 .glo "NoSizes", 12 .glo "NoPairs", 13 .glo "Model", 14 .glo "is_table", 15 .glo "is_tie", 16 .glo "ties_at", 17 .glo "is_picture", 18 .glo "weight", 19 .glo "goes_on", 20 .glo "fitting_from", 21 .glo "first_fitting", 22 .glo "fitting", 23 .glo "check_pairs", 24 .glo "tied_alike", 25 .glo "spins", 26 .glo "sets_apart", 27 .glo "colourings", 28 .glo "stacks", 29 .glo "_law_hand", 30 .glo "_law_draw", 31 .glo "_law_any", 32 .glo "_law_number", 33 .glo "_law_pairs", 34 .glo "_law_pictures", 35 .glo "_law_weight", 36 .glo "_law_made", 37 .glo "_law_even", 38 .glo "_law_net", 39 .glo "_law_steps", 40 .glo "_law_falling", 41 .glo "_law_rows_falling", 42 .glo "_law_power", 43 .glo "_law_made_by", 44 .glo "_law_weight_due", 45 .glo "_law_called", 46 .glo "law", 47 .free "ValueError", 48 .free "abs", 49 .free "all", 50 .free "any", 51 .free "bool", 52 .free "enumerate", 53 .free "int", 54 .free "isinstance", 55 .free "len", 56 .free "max", 57 .free "range", 58 .free "sorted", 59 .free "sum", 60 .free "tuple", 61 .free "zip", 62 .cls "Model", 63 .noat "Model" "many", 64 .noat "Model" "levels", 65 .noat "Model" "weights", 66 .noat "Model" "ties", 67 .mkr "Model", 68 .meth "Model" "__eq__"
def names0 : List PySem.Str := ["is_integer", "is_within", "is_row_below", "is_pair_below", "is_ascending", "is_lot_of_pairs", "is_lot_of_couples", "DrawError", "BadModel", "TooMany", "NoPicture", "NoSizes"]
def names1 : List PySem.Str := ["NoPairs", "Model", "is_table", "is_tie", "ties_at", "is_picture", "weight", "goes_on", "fitting_from", "first_fitting", "fitting", "check_pairs"]
def names2 : List PySem.Str := ["tied_alike", "spins", "sets_apart", "colourings", "stacks", "_law_hand", "_law_draw", "_law_any", "_law_number", "_law_pairs", "_law_pictures", "_law_weight"]
def names3 : List PySem.Str := ["_law_made", "_law_even", "_law_net", "_law_steps", "_law_falling", "_law_rows_falling", "_law_power", "_law_made_by", "_law_weight_due", "_law_called"]
def names : List PySem.Str := names0 ++ names1 ++ names2 ++ names3
abbrev R : PySem.W.OpenRow := PySem.W.OpenLaw.row PySem.Challenge.rw_asifforever_k27_whole_makers_of_models
abbrev hk : PySem.W.Hook := hookM 4 fas fns exK
def ob (s : PySem.W.SharedT) : AlM := obsM 4 fas fns exK (HandSHeadRun.getT s)
theorem ob_eq (s : PySem.W.SharedT) : ob s = hk.obs s.abs := obsM_eq (HandSHeadRun.getT_eq s)
theorem run (w : World) : HandSHeadRun.RunEq R (PySem.W.view R.prog [50]) hk ob 13000 names w := by
  intro os
  kernel_rfl
end Law
set_option maxHeartbeats 4000000
namespace L2
open PySem PySem.Spec PyProof.Rows
/-! ### a dict whose keys are pairs (a number, a tuple of numbers), each with True -/
abbrev NKey := Int × List Int
def nkey (k : NKey) : NestedKey := .tup [.num k.1, .tup (k.2.map .num)]
theorem num_map_inj : ∀ {a b : List Int}, a.map NestedKey.num = b.map NestedKey.num → a = b
  | [], [], _ => rfl
  | [], _ :: _, h => by simp at h
  | _ :: _, [], h => by simp at h
  | x :: a, y :: b, h => by
    rw [List.map_cons, List.map_cons] at h
    injection h with h1 h2
    injection h1 with h1
    rw [h1, num_map_inj h2]
theorem nkey_inj {a b : NKey} (h : nkey a = nkey b) : a = b := by
  unfold nkey at h
  injection h with h
  injection h with h1 h2
  injection h1 with h1
  injection h2 with h2 _
  injection h2 with h2
  exact Prod.ext h1 (num_map_inj h2)
theorem nums_depth : ∀ l : List Int, NestedKey.depthAll (l.map NestedKey.num) = 0
  | [] => by simp [NestedKey.depthAll]
  | x :: l => by
    rw [List.map_cons, NestedKey.depthAll, nums_depth l]
    simp [NestedKey.depth]
theorem nkey_depth (k : NKey) : (nkey k).depth ≤ 8 := by
  unfold nkey
  simp [NestedKey.depth, NestedKey.depthAll, nums_depth]
/-- the key stands at b -/
def NKAt (H : Hp) (b : Addr) (k : NKey) : Prop := ∃ c, H b = some (.tup [.int k.1, .ref c]) ∧ H c = some (.tup (k.2.map V.int))
theorem nums_are {h : Heap} : ∀ {l : List Int} {its : List Value}, Vals (l.map V.int) its → NestedAll h (l.map NestedKey.num) its
  | [], _, r => by
    cases r
    exact .nil
  | x :: l, _, r => by
    cases r with
    | cons r1 r2 =>
      obtain ⟨t, rfl⟩ := (show ∃ t, _ = Value.int x t from r1)
      exact .cons (.int x t) (nums_are r2)
section
variable {P : Program} {w : World} {H : Hp} {h : Heap}
theorem nk_is (ok : HOk P w H h) {b : Addr} {k : NKey} (e : NKAt H b k) : (nestedKind P w).is h (nkey k) b := by
  obtain ⟨c, e1, e2⟩ := e
  obtain ⟨_, i1, r1, o1, a1, c1, n1, d1⟩ := (show ObjOk P w H h b (.tup [.int k.1, .ref c]) from ok b _ e1)
  obtain ⟨_, i2, r2, o2, a2, c2, n2, d2⟩ := (show ObjOk P w H h c (.tup (k.2.map V.int)) from ok c _ e2)
  refine ⟨?_, nkey_depth k⟩
  cases r1 with
  | cons q1 r1 =>
    cases r1 with
    | cons q2 r1 =>
      cases r1
      obtain ⟨t, rfl⟩ := (show ∃ t, _ = Value.int k.1 t from q1)
      cases (show _ = Value.ref c from q2)
      exact .tup a1 c1 d1 (.cons (.int _ t) (.cons (.tup a2 c2 d2 (nums_are r2)) .nil))
def ndX (xs : List (NKey × Addr)) : List (NestedKey × Addr × Value) := xs.map fun x => (nkey x.1, x.2, Value.bool true)
/-- the dict with these keys, by its own object alone -/
def ndO (P : Program) (w : World) (d : Addr) (xs : List (NKey × Addr)) : HO := .ext fun h => (d == sysModules) = false ∧
  ∃ o es ep, h.get? d = some o ∧ o.ExactDict ∧ o.data = .dict es ep ∧ es.toList = (ndX xs).map (entryOfKey (nestedKind P w)) ∧ ((ndX xs).map (·.1)).Nodup
/-- a dict with these keys stands at d -/
def NDic (P : Program) (w : World) (H : Hp) (d : Addr) (ks : List NKey) : Prop := ∃ xs : List (NKey × Addr), ks = xs.map (·.1) ∧ H d = some (ndO P w d xs) ∧ ∀ x ∈ xs, NKAt H x.2 x.1
theorem ndO_ok {H' : Hp} {h' : Heap} {d : Addr} {xs : List (NKey × Addr)} {o : Obj} {es : Array DictEntry} {ep : Nat} (hs : (d == sysModules) = false) (a : h'.get? d = some o) (b : o.ExactDict) (c : o.data = .dict es ep)
    (e : es.toList = (ndX xs).map (entryOfKey (nestedKind P w))) (n : ((ndX xs).map (·.1)).Nodup) : ObjOk P w H' h' d (ndO P w d xs) :=
  ⟨⟨hs, o, es, ep, a, b, c, e, n⟩, ⟨o, a⟩, fun _ _ ⟨s1, o1, es1, ep1, a1, r1⟩ k => ⟨s1, o1, es1, ep1, k _ a1, r1⟩⟩
theorem nd_rd (ok : HOk P w H h) {d : Addr} {xs : List (NKey × Addr)} (e : H d = some (ndO P w d xs)) (kk : ∀ x ∈ xs, NKAt H x.2 x.1) : (d == sysModules) = false ∧ h.DictOfH (nestedKind P w) d (ndX xs) := by
  obtain ⟨⟨s1, o, es, ep, a, b, c, e1, n⟩, _⟩ := (show ObjOk P w H h d (ndO P w d xs) from ok d _ e)
  refine ⟨s1, o, es, ep, a, b, c, e1, fun x hx => ?_, n⟩
  obtain ⟨y, hy, rfl⟩ := List.mem_map.mp hx
  exact nk_is ok (kk y hy)
theorem nd_at {xs : List (NKey × Addr)} (k : NKey) : (atKey (ndX xs) (nkey k)).isSome = decide (k ∈ xs.map (·.1)) := by
  unfold atKey ndX
  rw [Option.isSome_map]
  induction xs with
  | nil => rfl
  | cons x xs ih =>
    rw [List.map_cons, List.find?_cons]
    by_cases c : x.1 = k
    · rw [decide_eq_true (by rw [c] : (nkey x.1, x.2, Value.bool true).1 = nkey k)]
      rw [List.map_cons, decide_eq_true (by rw [c]; exact List.mem_cons_self)] <;> rfl
    · rw [decide_eq_false (fun z => c (nkey_inj z) : ¬ (nkey x.1, x.2, Value.bool true).1 = nkey k)]
      show Option.isSome _ = _
      rw [ih]
      refine decide_eq_decide.mpr ?_
      rw [List.map_cons, List.mem_cons]
      exact ⟨.inr, fun z => z.resolve_left fun q => c q.symm⟩
theorem nd_put_old {xs : List (NKey × Addr)} {k : NKey} : (ndX xs).map (putAt (nkey k) (Value.bool true)) = ndX xs := by
  unfold ndX
  rw [List.map_map]
  refine List.map_congr_left fun x _ => ?_
  show (if nkey x.1 = nkey k then _ else _) = _
  split <;> rfl
end
section
variable {X : Cx} {pos pos' : Pos} {o i value : Expr} {td ty tv : TE}
def tDNewN (P : Program) (w : World) : TE := fun _ H Q => ∀ p H', H p = none → Same H H' → NDic P w H' p [] → Q (.ref p) H'
theorem pe_dnewN : PE X (.Dict [] [] pos) (tDNewN X.prog X.w) := ⟨fun pins s σ H Q I h => by
  have fr := I.hok.fresh (Nat.le_refl s.heap.objs.size)
  have new : ObjOk X.prog X.w (upd H s.heap.objs.size (ndO X.prog X.w s.heap.objs.size [])) (s.heap.push { cls := .type "dict", data := .dict #[] }) s.heap.objs.size (ndO X.prog X.w s.heap.objs.size []) :=
    ndO_ok (beq_eq_false_iff_ne.mpr (Ne.symm (Nat.ne_of_lt I.big))) (Heap.get?_push_size _ rfl) ⟨rfl, rfl, rfl⟩ rfl rfl List.nodup_nil
  exact wpAny_Dict_empty ⟨.ref s.heap.objs.size, _, I.laid (a := s.heap.objs.size) (o := ndO X.prog X.w s.heap.objs.size []) (t' := s.toks) (fun _ _ q => Heap.get?_push_of_some _ q) (Nat.le_refl _) new, rfl,
    h _ _ fr (fun b u e => by rw [upd_ne (ne_of_none e fr)]; exact e) ⟨[], rfl, upd_same, fun x hx => absurd hx List.not_mem_nil⟩⟩⟩
/-- k in d -/
def tNDIn (P : Program) (w : World) (ty td : TE) : TE := fun σ H Q => ty σ H fun y H1 => td σ H1 fun x H2 => ∃ a b k ks, x = .ref a ∧ y = .ref b ∧ NKAt H2 b k ∧ NDic P w H2 a ks ∧ Q (.bl (decide (k ∈ ks))) H2
theorem pc_ndin (hu : X.A.units + 9 < cLine) (hi : PE X i ty) (ho : PE X o td) : PC X .In i o (tNDIn X.prog X.w ty td) := by
  refine ⟨fun pins s σ H Q I h => ?_⟩
  refine thn (hi.run pins s σ H _ I h) fun iv s1 ⟨y, H1, I1, ry, q1⟩ => thn (ho.run pins s1 σ H1 _ I1 q1) fun u s2 ⟨x, H2, I2, rx, a, b, k, ks, ex, ey, nk, nd, q2⟩ => ?_
  subst ex ey
  cases (show u = Value.ref a from rx)
  cases (show iv = Value.ref b from ry)
  obtain ⟨xs, rfl, e, kk⟩ := nd
  obtain ⟨hs, dd⟩ := nd_rd I2.hok e kk
  refine wpAny_in_heap (knd := nestedKind X.prog X.w) (by show X.A.units + 1 + 8 < cLine; omega) (nk_is I2.hok nk) hs dd ?_
  rw [nd_at]
  exact ⟨.bl _, H2, I2.tok _, rfl, q2⟩
/-- d[k] = True -/
def sNDPut (P : Program) (w : World) (td ty tv : TE) : TS := fun D σ H => tv σ H fun v H1 => td σ H1 fun x H2 => ty σ H2 fun y H3 => ∃ a b k ks, x = .ref a ∧ y = .ref b ∧ v = .bl true ∧ NKAt H3 b k ∧ NDic P w H3 a ks ∧ ks.length < sizeLine ∧
  ∀ ks' H4, (∀ q, q ∈ ks' ↔ q ∈ ks ∨ q = k) → ks'.length ≤ ks.length + 1 → (∀ c u, c ≠ a → H3 c = some u → H4 c = some u) → NDic P w H4 a ks' → D.nx σ H4
theorem ps_ndput (hu : X.A.units + 9 < cLine) (ho : PE X o td) (hi : PE X i ty) (hv : PE X value tv) (hs : swapsWith value (some (.Subscript o i pos')) pos.line X.env = pure false) :
    PS X (.Assign [.Subscript o i pos'] value pos) (sNDPut X.prog X.w td ty tv) := by
  refine ⟨fun pins s σ H D I h => ?_⟩
  refine wpAny_Assign_Subscript (thn (hv.run pins s σ H _ I h) fun r s1 ⟨v, H1, I1, rv, q1⟩ => thn (ho.run pins s1 σ H1 _ I1 q1) fun u s2 ⟨x, H2, I2, rx, q2⟩ => thn (hi.run pins s2 σ H2 _ I2 q2) fun iv s3 ⟨y, H3, I3, ry, a, b, k, ks, ex, ey, ev, nk, nd, nl, q3⟩ => ?_) hs
  subst ex ey ev
  cases (show u = Value.ref a from rx)
  cases (show iv = Value.ref b from ry)
  cases (show r = Value.bool true from rv)
  obtain ⟨xs, rfl, e, kk⟩ := nd
  obtain ⟨hsy, dd⟩ := nd_rd I3.hok e kk
  rw [List.length_map] at nl
  have mu : Mut (H3 a) := by rw [e]; exact True.intro
  have nka : ∀ {c : Addr} {q : NKey}, NKAt H3 c q → ∀ O, NKAt (upd H3 a O) c q := fun ⟨c', z1, z2⟩ O => ⟨c', by rw [upd_ne (ne_of z1 e (by intro z; cases z))]; exact z1, by rw [upd_ne (ne_of z2 e (by intro z; cases z))]; exact z2⟩
  refine wpAny_setItem_heap (knd := nestedKind X.prog X.w) (hsz := by unfold ndX; rw [List.length_map]; exact Nat.le_of_lt nl) (by show X.A.units + 1 + 8 < cLine; omega) (nk_is I3.hok nk) dd fun h' dd' hsame => ?_
  have fin : ∀ ys : List (NKey × Addr), ndX ys = storedH (ndX xs) (nkey k) b (Value.bool true) → (∀ q, q ∈ ys.map (·.1) ↔ q ∈ xs.map (·.1) ∨ q = k) → ys.length ≤ xs.length + 1 → (∀ y ∈ ys, NKAt H3 y.2 y.1) → SP X pins D .next { s3 with heap := h', toks := s3.toks + (nestedKind X.prog X.w).draws (nkey k) } := fun ys ey hm hl hk => by
    obtain ⟨ob, es, ep, g1, g2, g3, g4, _, g5⟩ := dd'
    rw [← ey] at g4 g5
    refine ⟨σ, upd H3 a (ndO X.prog X.w a ys), ?_, q3 (ys.map (·.1)) _ hm (by rw [List.length_map, List.length_map]; exact hl) (fun c u' n z => by rw [upd_ne n]; exact z) ⟨ys, rfl, upd_same, fun y hy => nka (hk y hy) _⟩⟩
    exact d_write I3 mu hsame ⟨ob, g1⟩ (ndO_ok hsy g1 g2 g3 g4 g5)
  by_cases c : k ∈ xs.map (·.1)
  · have z := nd_at (xs := xs) k
    rw [decide_eq_true c] at z
    obtain ⟨p, hp⟩ := Option.isSome_iff_exists.mp z
    refine fin xs ?_ (fun q => ⟨.inl, fun z => z.elim id fun z => by rw [z]; exact c⟩) (Nat.le_succ _) kk
    rw [storedH_old hp, nd_put_old]
  · have z := nd_at (xs := xs) k
    rw [decide_eq_false c] at z
    have hp : atKey (ndX xs) (nkey k) = none := by
      cases q : atKey (ndX xs) (nkey k) with
      | none => rfl
      | some p => rw [q] at z; cases z
    refine fin (xs ++ [(k, b)]) ?_ (fun q => ?_) (by rw [List.length_append]; exact Nat.le_refl _) fun y hy => ?_
    · rw [storedH_new hp]
      unfold ndX
      rw [List.map_append] <;> rfl
    · rw [List.map_append, List.mem_append]
      show _ ∨ q ∈ [k] ↔ _
      rw [List.mem_singleton]
    · rcases List.mem_append.mp hy with hy | hy
      · exact kk y hy
      · rw [List.mem_singleton.mp hy]
        exact nk
/-- d[k] = v as a target -/
def rSetD : TSet := fun o y v H Q => ∃ a H', o = .ref a ∧ DPut H a y v H' ∧ Q H'
theorem set_dict (hu : X.A.units + 1 < cLine) : PSet X rSetD := by
  intro pins s σ H o i v ov iv u Q I ro ri rv ⟨a, H', eo, g, q⟩
  subst eo
  cases (show ov = Value.ref a from ro)
  exact d_setItem hu I g ri rv fun s4 I4 => ⟨H', I4, q⟩
/-! ### a list of numbers from 0 on, of which no more is told -/
abbrev GoodG (xs : List Int) : Prop := (∀ x ∈ xs, 0 ≤ x) ∧ xs.length ≤ 63
def greatO (g : Addr) : HO := .ext fun h => ∃ xs : List Int, GoodG xs ∧ ∃ (its : List Value) (n : Nat), Vals (xs.map V.int) its ∧ h.get? g = some { cls := .type "list", data := .seq its.toArray n }
theorem greatO_ok {P : Program} {w : World} {H H' : Hp} {h : Heap} {g : Addr} {xs : List Int} (gx : GoodG xs) (x : ObjOk P w H h g (.lst (xs.map V.int))) : ObjOk P w H' h g (greatO g) := by
  obtain ⟨_, its, n, r, e⟩ := x
  exact ⟨⟨xs, gx, its, n, r, e⟩, ⟨_, e⟩, fun _ _ ⟨ys, gy, i2, n2, r2, e2⟩ k => ⟨ys, gy, i2, n2, r2, k _ e2⟩⟩
theorem Inv.toGreat {pins : List (Addr × Obj)} {σ : St} {H : Hp} {s : Shared} {g : Addr} {xs : List Int} (I : Inv X pins σ H s) (gx : GoodG xs) (e : H g = some (.lst (xs.map V.int))) : Inv X pins σ (upd H g (greatO g)) s := by
  have x := I.hok g _ e
  obtain ⟨_, its, n, r, e'⟩ := id x
  exact I.write (x := g) (e := g) (t' := s.toks) (h' := s.heap) (by rw [e]; exact True.intro) (.inl rfl) (fun _ _ _ q => q) ⟨_, e'⟩ (greatO_ok gx x)
theorem Inv.ofGreat {pins : List (Addr × Obj)} {σ : St} {H : Hp} {s : Shared} {g : Addr} (I : Inv X pins σ H s) (e : H g = some (greatO g)) : ∃ xs, GoodG xs ∧ Inv X pins σ (upd H g (.lst (xs.map V.int))) s := by
  obtain ⟨⟨xs, gx, its, n, r, e'⟩, _⟩ := (show ObjOk X.prog X.w H s.heap g (greatO g) from I.hok g _ e)
  refine ⟨xs, gx, I.write (x := g) (e := g) (t' := s.toks) (h' := s.heap) (by rw [e]; exact True.intro) (.inl rfl) (fun _ _ _ q => q) ⟨_, e'⟩ ⟨?_, its, n, r, e'⟩⟩
  have := gx.2
  rw [List.length_map, sizeLine_eq]
  omega
abbrev backG (g : Addr) (R : Hp → Prop) : Hp → Prop := fun H' => ∃ ys, GoodG ys ∧ H' g = some (.lst (ys.map V.int)) ∧ R (upd H' g (greatO g))
def tOpenG (t : TS) : TS := fun D σ H => ∃ g, H g = some (greatO g) ∧ ∀ xs, GoodG xs → t ⟨fun σ' => backG g (D.nx σ'), fun v => backG g (D.rt v), fun σ' => backG g (D.bk σ'), fun σ' => backG g (D.ct σ')⟩ σ (upd H g (.lst (xs.map V.int)))
theorem ps_openG {st : Stmt} {t : TS} (h : PS X st t) : PS X st (tOpenG t) := by
  refine ⟨fun pins s σ H D I hw => ?_⟩
  obtain ⟨g, e, hw⟩ := hw
  obtain ⟨xs, gx, I1⟩ := I.ofGreat e
  refine thn (h.run pins s σ _ _ I1 (hw xs gx)) fun f s1 q => ?_
  cases f with
  | next => obtain ⟨σ', H', I2, ys, gy, e2, q⟩ := q; exact ⟨σ', _, I2.toGreat gy e2, q⟩
  | brk => obtain ⟨σ', H', I2, ys, gy, e2, q⟩ := q; exact ⟨σ', _, I2.toGreat gy e2, q⟩
  | cont => obtain ⟨σ', H', I2, ys, gy, e2, q⟩ := q; exact ⟨σ', _, I2.toGreat gy e2, q⟩
  | ret v => obtain ⟨x, σ', H', I2, r, ys, gy, e2, q⟩ := q; exact ⟨x, σ', _, I2.toGreat gy e2, r, q⟩
def tCloseG (t : TS) : TS := fun D σ H => ∃ g xs, GoodG xs ∧ H g = some (.lst (xs.map V.int)) ∧ t D σ (upd H g (greatO g))
theorem ps_closeG {st : Stmt} {t : TS} (h : PS X st t) : PS X st (tCloseG t) := by
  refine ⟨fun pins s σ H D I hw => ?_⟩
  obtain ⟨g, xs, gx, e, hw⟩ := hw
  exact h.run pins s σ _ D (I.toGreat gx e) hw
end
end L2
namespace Law
open PySem L2
/-- what is asked of the module's names -/
structure NmA (mg : Str → Option Value) : Prop where
  abs : mg "abs" = none
  all : mg "all" = none
  any : mg "any" = none
  bool : mg "bool" = none
  enum : mg "enumerate" = none
  int : mg "int" = none
  isi : mg "isinstance" = none
  len : mg "len" = none
  max : mg "max" = none
  range : mg "range" = none
  sorted : mg "sorted" = none
  sum : mg "sum" = none
  tuple : mg "tuple" = none
  zip : mg "zip" = none
end Law
namespace Law
open PySem L2
/-! ### the hand: great numbers, small ones, their sum, a turn -/
theorem sne {x y : Str} (h : ¬ x = y) : ¬ ((Sum.inr x : Key) = Sum.inr y) := fun z => h (Sum.inr.inj z)
theorem m01 : ¬ ((Sum.inr ("great" : Str) : Key) = Sum.inr ("small" : Str)) := sne (by decide +kernel)
theorem m02 : ¬ ((Sum.inr ("great" : Str) : Key) = Sum.inr ("sum" : Str)) := sne (by decide +kernel)
theorem m03 : ¬ ((Sum.inr ("great" : Str) : Key) = Sum.inr ("turn" : Str)) := sne (by decide +kernel)
theorem m12 : ¬ ((Sum.inr ("small" : Str) : Key) = Sum.inr ("sum" : Str)) := sne (by decide +kernel)
theorem m13 : ¬ ((Sum.inr ("small" : Str) : Key) = Sum.inr ("turn" : Str)) := sne (by decide +kernel)
theorem m23 : ¬ ((Sum.inr ("sum" : Str) : Key) = Sum.inr ("turn" : Str)) := sne (by decide +kernel)
def hdK (gr sm : Addr) (s t : Int) : List (Key × V) := [(Sum.inr ("great" : Str), .ref gr), (Sum.inr ("small" : Str), .ref sm), (Sum.inr ("sum" : Str), .int s), (Sum.inr ("turn" : Str), .int t)]
section
variable {gr sm : Addr} {s t x : Int} {H : Hp} {p : Addr}
theorem put_of {kvs : List (Key × V)} {k : Key} {v w : V} (h : valV kvs k = some w) : putK kvs k v = kvs.map (fun kv => if kv.1 = k then (kv.1, v) else kv) := by
  unfold putK
  rw [if_pos (by rw [valV_any, h]; rfl)]
theorem get_great : valV (hdK gr sm s t) (Sum.inr ("great" : Str)) = some (.ref gr) := valV_pos rfl
theorem get_small : valV (hdK gr sm s t) (Sum.inr ("small" : Str)) = some (.ref sm) := (valV_neg m01).trans (valV_pos rfl)
theorem get_sum : valV (hdK gr sm s t) (Sum.inr ("sum" : Str)) = some (.int s) := (valV_neg m02).trans ((valV_neg m12).trans (valV_pos rfl))
theorem get_turn : valV (hdK gr sm s t) (Sum.inr ("turn" : Str)) = some (.int t) := (valV_neg m03).trans ((valV_neg m13).trans ((valV_neg m23).trans (valV_pos rfl)))
theorem put_turn : putK (hdK gr sm s t) (Sum.inr ("turn" : Str)) (.int x) = hdK gr sm s x := by
  rw [put_of get_turn]
  unfold hdK
  simp only [List.map_cons, List.map_nil, if_neg m03, if_neg m13, if_neg m23, if_true]
variable (hp : H p = some (.dK (hdK gr sm s t)))
include hp
theorem gt_great : DGet H p (.str "great") (some (.ref gr)) := by
  have := DGet.k (k := Sum.inr ("great" : Str)) hp
  rw [get_great] at this
  exact this
theorem gt_small : DGet H p (.str "small") (some (.ref sm)) := by
  have := DGet.k (k := Sum.inr ("small" : Str)) hp
  rw [get_small] at this
  exact this
theorem gt_sum : DGet H p (.str "sum") (some (.int s)) := by
  have := DGet.k (k := Sum.inr ("sum" : Str)) hp
  rw [get_sum] at this
  exact this
theorem gt_turn : DGet H p (.str "turn") (some (.int t)) := by
  have := DGet.k (k := Sum.inr ("turn" : Str)) hp
  rw [get_turn] at this
  exact this
theorem pt_turn (x : Int) : DPut H p (.str "turn") (.int x) (upd H p (.dK (hdK gr sm s x))) := by
  have := DPut.k (k := Sum.inr ("turn" : Str)) (v := .int x) hp (by show 4 < sizeLine; decide)
  rw [put_turn] at this
  exact this
end
/-- a hand stands at p -/
def HandAt (H : Hp) (p : Addr) : Prop := ∃ (gr sm : Addr) (small : List Int) (s t : Int), H p = some (.dK (hdK gr sm s t)) ∧ H gr = some (greatO gr) ∧ H sm = some (.lst (small.map V.int)) ∧ 0 < small.length ∧ small.length ≤ 64 ∧ (∀ c ∈ small, 0 ≤ c) ∧ 0 ≤ s ∧ 0 ≤ t
/-- its lists stand at g and c -/
def CellOf (H : Hp) (p g c : Addr) : Prop := ∃ s t, H p = some (.dK (hdK g c s t))
/-- what a draw may do: the hand stands again, nothing else has changed -/
structure Stp (p : Addr) (H H' : Hp) : Prop where
  keep : ∀ b o, b ≠ p → H b = some o → H' b = some o
  cell : ∀ g c, CellOf H p g c → CellOf H' p g c
  hand : HandAt H' p
theorem Stp.refl {p : Addr} {H : Hp} (h : HandAt H p) : Stp p H H := ⟨fun _ _ _ e => e, fun _ _ e => e, h⟩
theorem Stp.trans {p : Addr} {H H1 H2 : Hp} (a : Stp p H H1) (b : Stp p H1 H2) : Stp p H H2 := ⟨fun c o n e => b.keep c o n (a.keep c o n e), fun g c e => b.cell g c (a.cell g c e), b.hand⟩
theorem hdK_inj {ga ca gb cb : Addr} {s t s' t' : Int} (h : hdK ga ca s t = hdK gb cb s' t') : ga = gb ∧ ca = cb := by
  unfold hdK at h
  injection h with h1 h
  injection h1 with _ h2
  injection h2 with h2
  injection h with h3 _
  injection h3 with _ h4
  injection h4 with h4
  exact ⟨h2, h4⟩
theorem cell_eq {H : Hp} {p ga ca g c : Addr} {s t : Int} (hp : H p = some (.dK (hdK ga ca s t))) (h : CellOf H p g c) : g = ga ∧ c = ca := by
  obtain ⟨s', t', h⟩ := h
  rw [hp] at h
  have h1 := Option.some.inj h
  injection h1 with h2
  obtain ⟨a, b⟩ := hdK_inj h2
  exact ⟨a.symm, b.symm⟩
theorem cell_to {H H' : Hp} {p ga ca : Addr} {s t s' t' : Int} (hp : H p = some (.dK (hdK ga ca s t))) (hp' : H' p = some (.dK (hdK ga ca s' t'))) : ∀ g c, CellOf H p g c → CellOf H' p g c := fun g c hc => by
  obtain ⟨e1, e2⟩ := cell_eq hp hc
  rw [e1, e2]
  exact ⟨s', t', hp'⟩
/-- an object that stood not there at the start may change, whatever has been drawn since -/
theorem Stp.mut {p D : Addr} {H H' : Hp} {o : HO} (h : HandAt H p) (S : Stp p H H') (hD : H D = none) : Stp p H (upd H' D o) := by
  obtain ⟨ga, ca, small, s, t, hp, hg, hc, _⟩ := h
  obtain ⟨gb, cb, small', s', t', hp', hg', hc', r⟩ := S.hand
  obtain ⟨e1, e2⟩ := cell_eq hp' (S.cell ga ca ⟨s, t, hp⟩)
  have n1 : p ≠ D := ne_of_none hp hD
  have n2 : cb ≠ D := e2 ▸ ne_of_none hc hD
  have n3 : gb ≠ D := e1 ▸ ne_of_none hg hD
  exact ⟨fun b o n e => by rw [upd_ne (ne_of_none e hD)]; exact S.keep b o n e, fun g c hc => by
    obtain ⟨x1, x2, x3⟩ := S.cell g c hc
    exact ⟨x1, x2, by rw [upd_ne n1]; exact x3⟩, gb, cb, small', s', t', by rw [upd_ne n1]; exact hp', by rw [upd_ne n3]; exact hg', by rw [upd_ne n2]; exact hc', r⟩
def spDraw : Sp := fun vs H Q _ => ∃ (p : Addr) (m : Int), vs = [.ref p, .int m] ∧ 0 < m ∧ m < 1099511627776 ∧ HandAt H p ∧ ∀ (d : Int) (H' : Hp), 0 ≤ d → d < m → Stp p H H' → Q (.int d) H'
theorem getg {ys : List Int} (h : 0 < ys.length) : ∃ z, ys[0]? = some z ∧ z ∈ ys := ⟨ys[0], List.getElem?_eq_getElem h, List.getElem_mem h⟩
theorem atI_ints {ys : List Int} {i : Nat} {z : Int} (h : ys[i]? = some z) : atI (ys.map V.int) (i : Int) = some (V.int z) := atI_nat (by rw [List.getElem?_map, h] <;> rfl)
theorem Stp.sqL {K : PySem.W.Frag} {p l : Addr} {H H' : Hp} {xs : List V} (S : Stp p H H') (hp : HandAt H p) (h : SqL K H l xs) : SqL K H' l xs := by
  obtain ⟨ga, ca, small, s, t, hp, _⟩ := hp
  rcases h with (h | ⟨o, h⟩) | h
  · exact .inl (.inl (S.keep _ _ (ne_of h hp (by intro z; cases z)) h))
  · exact .inl (.inr ⟨o, S.keep _ _ (ne_of h hp (by intro z; cases z)) h⟩)
  · exact .inr h
theorem Stp.sqT {K : PySem.W.Frag} {p l : Addr} {H H' : Hp} {xs : List V} (S : Stp p H H') (hp : HandAt H p) (h : SqT K H l xs) : SqT K H' l xs := by
  obtain ⟨ga, ca, small, s, t, hp, _⟩ := hp
  rcases h with (h | ⟨o, h⟩) | h
  · exact .inl (.inl (S.keep _ _ (ne_of h hp (by intro z; cases z)) h))
  · exact .inl (.inr ⟨o, S.keep _ _ (ne_of h hp (by intro z; cases z)) h⟩)
  · exact .inr h
theorem ne_hand {H : Hp} {p a : Addr} (h : HandAt H p) (n : H a = none) : a ≠ p := by
  obtain ⟨ga, ca, small, s, t, hp, _⟩ := h
  intro z
  rw [z, hp] at n
  cases n
end Law
namespace L2
open PySem
theorem Same.sqT {K : PySem.W.Frag} {H H' : Hp} {a : Addr} {xs : List V} (e : Same H H') (h : SqT K H a xs) : SqT K H' a xs := by
  rcases h with (h | ⟨o, h⟩) | h
  · exact .inl (.inl (e _ _ h))
  · exact .inl (.inr ⟨o, e _ _ h⟩)
  · exact .inr h
theorem Same.new {H : Hp} {p : Addr} {o : HO} (h : H p = none) : Same H (upd H p o) := fun b u e => by
  rw [upd_ne (ne_of_none e h)]
  exact e
theorem Same.mut {H H' : Hp} {p : Addr} {o : HO} (e : Same H H') (h : H p = none) : Same H (upd H' p o) := fun b u hb => by
  rw [upd_ne (ne_of_none hb h)]
  exact e b u hb
@[elab_as_elim] theorem new_step {H : Hp} {a : Addr} {o : HO} {Q : Hp → Prop} (h : H a = none) (k : ∀ G, Same H G → G a = some o → Q G) : Q (upd H a o) := k _ (Same.new h) upd_same
end L2
namespace Law
open PySem L2
theorem HandAt.same {H H' : Hp} {p : Addr} (h : HandAt H p) (s : Same H H') : HandAt H' p := by
  obtain ⟨ga, ca, small, s1, t, hp, hg, hc, r⟩ := h
  exact ⟨ga, ca, small, s1, t, s _ _ hp, s _ _ hg, s _ _ hc, r⟩
theorem Stp.of {H H' : Hp} {p : Addr} (h : HandAt H p) (s : Same H H') : Stp p H H' := ⟨fun b o _ e => s b o e, fun g c ⟨x, y, e⟩ => ⟨x, y, s _ _ e⟩, h.same s⟩
theorem Stp.pre {p : Addr} {H H1 H2 : Hp} (b : Stp p H1 H2) (s : Same H H1) (h : HandAt H p) : Stp p H H2 := (Stp.of h s).trans b
theorem Stp.post {p : Addr} {H H1 H2 : Hp} (a : Stp p H H1) (s : Same H1 H2) : Stp p H H2 := a.trans (Stp.of a.hand s)
theorem cut63 {xs : List V} (h : xs.length ≤ 63) : cutV xs none (some 63) = xs := by
  unfold cutV
  show (xs.drop 0).take (HT.sIx xs.length xs.length (some ((63 : Nat) : Int)) - 0) = xs
  rw [HT.sIx_nat, Nat.min_eq_right (by omega), Nat.sub_zero, List.drop_zero, List.take_length]
theorem merge_app : ∀ (more acc : List (Key × V)), ((acc ++ more).map (·.1)).Nodup → mergeK acc more = acc ++ more
  | [], acc, _ => (List.append_nil acc).symm
  | p :: r, acc, h => by
    have hn : valV acc p.1 = none := by
      unfold valV
      rw [List.find?_eq_none.mpr]
      · rfl
      · intro kv hkv e
        rw [List.map_append, List.nodup_append] at h
        exact h.2.2 kv.1 (List.mem_map_of_mem hkv) p.1 (List.mem_map_of_mem List.mem_cons_self) (of_decide_eq_true e)
    have e : putK acc p.1 p.2 = acc ++ [p] := putK_new _ hn
    show mergeK (putK acc p.1 p.2) r = acc ++ p :: r
    rw [e, merge_app r (acc ++ [p]) (by rw [List.append_assoc]; exact h), List.append_assoc] <;> rfl
theorem hd_keys (gr sm : Addr) (s t : Int) : ((hdK gr sm s t).map (·.1)).Nodup := by
  show ([Sum.inr ("great" : Str), Sum.inr ("small" : Str), Sum.inr ("sum" : Str), Sum.inr ("turn" : Str)] : List Key).Nodup
  decide +kernel
theorem merge_hd (gr sm : Addr) (s t : Int) : mergeK [] (hdK gr sm s t) = hdK gr sm s t := merge_app _ [] (hd_keys gr sm s t)
def absI (n : Int) : Int := if n < 0 then -n else n
theorem absI_nn (n : Int) : 0 ≤ absI n := by
  unfold absI
  split <;> omega
def spHand (K : PySem.W.Frag) : Sp := fun vs H Q _ => ∃ (a : Addr) (ns : List Int), vs = [.ref a] ∧ SqL K H a (ns.map V.int) ∧ ns.length ≤ 63 ∧ ∀ (p : Addr) (H' : Hp), H p = none → Same H H' → HandAt H' p → Q (.ref p) H'
theorem sum_nn : ∀ {l : List Int}, (∀ x ∈ l, 0 ≤ x) → 0 ≤ l.sum
  | [], _ => Int.le_refl 0
  | x :: l, h => by
    rw [List.sum_cons]
    have := h x List.mem_cons_self
    have := sum_nn fun y hy => h y (List.mem_cons_of_mem _ hy)
    omega
section
variable {P : Program} {w : World} {K : PySem.W.Frag} {mg : Str → Option Value} {base : Heap}
abbrev nLawHand : List Str := ["_law_script", "_law_given", "_law_small", "_law_great", "_law_cell"]
theorem scLawHand : FnScope nLawHand ["_law_script"] (defScope s_law_hand) := ⟨rfl, rfl, rfl, by decide +kernel, rfl, by decide +kernel, by decide +kernel⟩
theorem ok_hand {f : Addr} {fd : FuncData} (F : Fun K "_law_hand" "_law_hand" s_law_hand f fd) (T : NmA mg) : FnOk P w K mg base CX0 1 f fd ["_law_script"] (spHand K) := by
  refine F.ok scLawHand (fun vs H Q E h => ?_) (fun cdv A' outer s H vs Q E hr h => ?_)
  · obtain ⟨a, ns, rfl, _⟩ := h
    rfl
  · obtain ⟨a, ns, rfl, hS, h63, k⟩ := h
    have hu := hu_of hr
    refine ⟨_, pss_cons (ps_setLc (i := 1) (own := [("_law_cell", 4)]) (g := (gName 4)) (tt := tYes) (by rfl) scLawHand.nd rfl rfl (sw_true rfl rfl rfl (by decide +kernel)) (pi_list (pe_slice sl_list (pv 0) po_none (po_some pe_int))) (blkOk_by (own := [("_law_cell", 4)]) (N := nLawHand) (sc := defScope s_law_hand) (by decide +kernel)) (fun _ _ _ _ _ => (pg_name (i := 4) scLawHand.nd rfl (Or.inl rfl))) (fun _ _ _ _ _ => pts_nil) (fun _ _ _ _ _ => (pe_callB call_abs (by rfl) T.abs (by decide +kernel) (pa_cons (pe_callTy (r := fun xs H Q => (∃ i, xs = [.int i] ∧ Q (.int i) H) ∨ ∃ k, xs = [.bl k] ∧ Q (.int (if k then 1 else 0)) H) call_int1 (by rfl) T.int (by decide +kernel) (pa_cons (pv 4) pa_nil)) pa_nil))))
      (pss_cons (ps_set (i := 2) scLawHand.nd rfl (Or.inl rfl) (pe_op op_cat (pe_lc (own := [("_law_cell", 4)]) (g := (gName 4)) (tt := _) rfl scLawHand.nd  (pi_list (pv 1)) (blkOk_by (own := [("_law_cell", 4)]) (N := nLawHand) (sc := defScope s_law_hand) (by decide +kernel)) (fun _ _ _ _ _ => (pg_name (i := 4) scLawHand.nd rfl (Or.inl rfl))) (fun _ _ _ _ _ => (pts_one (pt_cmpR op_lt (pv 4) (pe_op op_pow pe_int pe_int) (nomark _)))) (fun _ _ _ _ _ => (pe_op op_mod (pe_callTy (r := fun xs H Q => (∃ i, xs = [.int i] ∧ Q (.int i) H) ∨ ∃ k, xs = [.bl k] ∧ Q (.int (if k then 1 else 0)) H) call_int1 (by rfl) T.int (by decide +kernel) (pa_cons (pv 4) pa_nil)) pe_int))) (pe_lst (pa_cons (pe_op op_add (pe_op op_mul pe_int (pe_callB call_len_seq (by rfl) T.len PySem.boot_len (pa_cons (pv 1) pa_nil))) pe_int) pa_nil))))
      (pss_cons (ps_setLc (i := 3) (own := [("_law_cell", 4)]) (g := (gName 4)) (tt := _) (by rfl) scLawHand.nd rfl rfl (sw_true rfl rfl rfl (by decide +kernel)) (pi_list (pv 1)) (blkOk_by (own := [("_law_cell", 4)]) (N := nLawHand) (sc := defScope s_law_hand) (by decide +kernel)) (fun _ _ _ _ _ => (pg_name (i := 4) scLawHand.nd rfl (Or.inl rfl))) (fun _ _ _ _ _ => (pts_one (pt_cmpR op_ge (pv 4) (pe_op op_pow pe_int pe_int) (nomark _)))) (fun _ _ _ _ _ => (pv 4)))
      (pss_one (ps_closeG (ps_ret (pe_disp (pps_cons pe_str (pv 3) (pps_cons pe_str (pv 2) (pps_cons pe_str (pe_op op_mod (pe_callTy call_int1 (by rfl) T.int (by decide +kernel) (pa_cons (pe_callB (cr_sum rfl) (by rfl) T.sum (by decide +kernel) (pa_cons (pv 2) pa_nil)) pa_nil)) pe_int) (pps_cons pe_str pe_int pps_nil)))) (by rfl) (by rfl) (fun z => by cases z) (by decide))))))), ?_⟩
    refine ⟨_, rfl, 63, rfl, a, _, rfl, hS, fun sp nsp => ?_⟩
    have h63' : (ns.map V.int).length ≤ 63 := by rw [List.length_map]; exact h63
    rw [cut63 h63']
    refine new_step nsp fun H1 s1 e1 => ?_
    refine ⟨sp, rfl, ⟨_, SqL.of e1⟩, fun D hD => ?_⟩
    refine lc_list (K := K) (a := sp) (xs := ns.map V.int) (fun i H' => Same H1 H' ∧ ∃ l : List Int, H' D = some (.lst (l.map V.int)) ∧ l.length = i ∧ ∀ x ∈ l, 0 ≤ x) ⟨Same.new hD, [], upd_same, rfl, fun x hx => absurd hx List.not_mem_nil⟩ (fun i H' _ h => SqL.of (h.1 _ _ e1)) ?_ ?_
    · rintro i x H' hi ⟨s2, l, h1, h2, h3⟩
      rw [List.getElem?_map] at hi
      obtain ⟨z, hz, rfl⟩ := Option.map_eq_some_iff.mp hi
      have il := (List.getElem?_eq_some_iff.mp hz).1
      refine ⟨rfl, _, rfl, .inl ⟨_, rfl, _, rfl, _, h1, ?_, s2.mut hD, l ++ [absI z], ?_, by rw [List.length_append, h2] <;> rfl, fun y hy => ?_⟩⟩
      · rw [List.length_map]
        exact small1000 (by omega)
      · rw [upd_same, List.map_append] <;> rfl
      · rcases List.mem_append.mp hy with hy | hy
        · exact h3 y hy
        · rw [List.mem_singleton.mp hy]
          exact absI_nn z
    rintro H2 ⟨s2, gv, g1, g2, g3⟩
    rw [List.length_map] at g2
    have Dn : H D = none := s1.free hD
    refine ⟨_, rfl, D, rfl, ⟨_, SqL.of g1⟩, fun D2 hD2 => ?_⟩
    refine lc_list (K := K) (a := D) (xs := gv.map V.int) (fun i H' => Same H2 H' ∧ ∃ l : List Int, H' D2 = some (.lst (l.map V.int)) ∧ l.length ≤ i ∧ ∀ x ∈ l, 0 ≤ x) ⟨Same.new hD2, [], upd_same, Nat.le_refl _, fun x hx => absurd hx List.not_mem_nil⟩ (fun i H' _ h => SqL.of (h.1 _ _ g1)) ?_ ?_
    · rintro i x H' hi ⟨s3, l, h1, h2, h3⟩
      rw [List.getElem?_map] at hi
      obtain ⟨z, hz, rfl⟩ := Option.map_eq_some_iff.mp hi
      have il := (List.getElem?_eq_some_iff.mp hz).1
      refine ⟨rfl, _, rfl, _, _, rfl, rfl, ⟨by decide, by decide, by decide⟩, _, _, rfl, rfl, _, rfl, ite2 (fun _ => ?_) (fun _ => ⟨s3, l, h1, by omega, h3⟩)⟩
      refine ⟨_, rfl, .inl ⟨_, rfl, _, _, rfl, rfl, (by show (0 : Int) < 1000000007; decide), _, h1, ?_, s3.mut hD2, l ++ [z % 1000000007], ?_, by rw [List.length_append]; exact Nat.succ_le_succ h2, fun y hy => ?_⟩⟩
      · rw [List.length_map]
        exact small1000 (by omega)
      · rw [upd_same, List.map_append] <;> rfl
      · rcases List.mem_append.mp hy with hy | hy
        · exact h3 y hy
        · rw [List.mem_singleton.mp hy]
          exact Int.emod_nonneg _ (by decide)
    rintro H3 ⟨s3, sl, l1, l2, l3⟩
    rw [List.length_map] at l2
    have g13 := s3 _ _ g1
    refine ⟨_, rfl, D, _, rfl, .inl (SqL.of g13), _, _, rfl, rfl, .inl ⟨by decide, by decide⟩, _, _, rfl, rfl, by show 1 ≤ sizeLine; decide, fun L hL => ?_⟩
    refine new_step hL fun H4 s4 e4 => ?_
    refine ⟨D2, L, _, _, rfl, rfl, s4 _ _ l1, e4, ?_, fun sm hsm => ?_⟩
    · rw [List.length_map]
      show _ + 1 ≤ _
      rw [sizeLine_eq]
      omega
    refine new_step hsm fun H5 s5 e5 => ?_
    have s35 := s4.trans s5
    have g15 := s35 _ _ g13
    have s05 := ((s1.trans s2).trans s3).trans s35
    obtain ⟨small, es, n1, n2, n3⟩ : ∃ small : List Int, sl.map V.int ++ [V.int (37 * ((gv.map V.int).length : Nat) + 11)] = small.map V.int ∧ 0 < small.length ∧ small.length ≤ 64 ∧ ∀ c ∈ small, 0 ≤ c := by
      refine ⟨sl ++ [37 * (((gv.map V.int).length : Nat) : Int) + 11], by rw [List.map_append] <;> rfl, by rw [List.length_append]; exact Nat.succ_pos _, by rw [List.length_append]; show _ + 1 ≤ _; omega, fun c hc => ?_⟩
      rcases List.mem_append.mp hc with hc | hc
      · exact l3 c hc
      · rw [List.mem_singleton.mp hc]
        omega
    rw [es] at e5
    refine ⟨_, rfl, D, rfl, ⟨_, SqL.of g15⟩, fun D3 hD3 => ?_⟩
    have D3n : H D3 = none := s05.free hD3
    refine lc_list (K := K) (a := D) (xs := gv.map V.int) (fun i H' => Same H5 H' ∧ ∃ l : List Int, H' D3 = some (.lst (l.map V.int)) ∧ l.length ≤ i ∧ ∀ x ∈ l, 0 ≤ x) ⟨Same.new hD3, [], upd_same, Nat.le_refl _, fun x hx => absurd hx List.not_mem_nil⟩ (fun i H' _ h => SqL.of (h.1 _ _ g15)) ?_ ?_
    · rintro i x H' hi ⟨s6, l, h1, h2, h3⟩
      rw [List.getElem?_map] at hi
      obtain ⟨z, hz, rfl⟩ := Option.map_eq_some_iff.mp hi
      have il := (List.getElem?_eq_some_iff.mp hz).1
      refine ⟨rfl, _, rfl, _, _, rfl, rfl, ⟨by decide, by decide, by decide⟩, _, _, rfl, rfl, _, rfl, ite2 (fun _ => ?_) (fun _ => ⟨s6, l, h1, by omega, h3⟩)⟩
      refine ⟨_, rfl, _, h1, ?_, s6.mut hD3, l ++ [z], ?_, by rw [List.length_append]; exact Nat.succ_le_succ h2, fun y hy => ?_⟩
      · rw [List.length_map]
        exact small1000 (by omega)
      · rw [upd_same, List.map_append] <;> rfl
      · rcases List.mem_append.mp hy with hy | hy
        · exact h3 y hy
        · rw [List.mem_singleton.mp hy]
          exact g3 z (List.mem_of_getElem? hz)
    rintro H6 ⟨s6, gl, q1, q2, q3⟩
    rw [List.length_map] at q2
    have s06 := s05.trans s6
    have e6 := s6 _ _ e5
    have D3sm : sm ≠ D3 := ne_of_none e5 hD3
    refine ⟨D3, gl, ⟨q3, by omega⟩, q1, ?_⟩
    have s07 : Same H (upd H6 D3 (greatO D3)) := s06.mut D3n
    obtain ⟨H7, hH7⟩ : ∃ G, G = upd H6 D3 (greatO D3) := ⟨_, rfl⟩
    have e7 : H7 sm = some (.lst (small.map V.int)) := by rw [hH7, upd_ne D3sm]; exact e6
    have q7 : H7 D3 = some (greatO D3) := by rw [hH7]; exact upd_same
    rw [← hH7] at s07 ⊢
    intro p np
    have e8 : upd H7 p (.dK []) sm = some (.lst (small.map V.int)) := (Same.new np) _ _ e7
    refine ⟨_, rfl, _, rfl, _, rfl, sm, small, rfl, SqL.of e8, .inl ⟨_, rfl, _, _, rfl, rfl, (by show (0 : Int) < 999979; decide), upd_same, hdK D3 sm (small.sum % 999979) 0, rfl, (show 4 ≤ 15 by decide), ?_⟩⟩
    rw [merge_hd, upd_upd]
    refine k p _ (s07.free np) (s07.trans (Same.new np)) ⟨D3, sm, small, _, 0, upd_same, (Same.new np) _ _ q7, (Same.new np) _ _ e7, n1, n2, n3, Int.emod_nonneg _ (by decide), by decide⟩
abbrev nLawDraw : List Str := ["_law_hand_here", "_law_many", "_law_number_here", "_law_turn", "_law_seed"]
theorem scLawDraw : FnScope nLawDraw ["_law_hand_here", "_law_many"] (defScope s_law_draw) := ⟨rfl, rfl, rfl, by decide +kernel, rfl, by decide +kernel, by decide +kernel⟩
theorem ok_draw {f : Addr} {fd : FuncData} (F : Fun K "_law_draw" "_law_draw" s_law_draw f fd) (T : NmA mg) : FnOk P w K mg base CX0 1 f fd ["_law_hand_here", "_law_many"] spDraw := by
  refine F.ok scLawDraw (fun vs H Q E h => ?_) (fun cdv A' outer s H vs Q E hr h => ?_)
  · obtain ⟨p, m, rfl, _⟩ := h
    rfl
  · obtain ⟨p, m, rfl, hm0, hm1, hH, k⟩ := h
    have hu := hu_of hr
    refine ⟨_, pss_cons (ps_openG (ps_if (pt_cmpR op_gt (pe_callB call_len_seq (by rfl) T.len PySem.boot_len (pa_cons (pe_dget hu (pv 0) pe_str (fun _ _ => rfl)) pa_nil)) pe_int (nomark _))
        (pss_cons (ps_set (i := 2) scLawDraw.nd rfl (Or.inl rfl) (pe_ix ix_list (pe_dget hu (pv 0) pe_str (fun _ _ => rfl)) pe_int (fun _ _ => rfl)))
        (pss_cons (ps_asg (pe_op op_fdivW (pv 2) (pv 1)) (pg_sub (pe_dget hu (pv 0) pe_str (fun _ _ => rfl)) pe_int set_list))
        (pss_cons (ps_if (pt_cmpR op_lt (pv 2) (pv 1) (nomark _))
          (pss_one (ps_expr (pe_bm PySem.F.plainAttrs_list PySem.F.slot_list_pop PySem.F.type_list_pop mt_popAt (pe_dget hu (pv 0) pe_str (fun _ _ => rfl)) (pa_cons pe_int pa_nil)))) pss_nil)
        (pss_one (ps_ret (pe_op op_mod (pe_callTy call_int1 (by rfl) T.int (by decide +kernel) (pa_cons (pv 2) pa_nil)) (pv 1))))))) pss_nil))
      (pss_cons (ps_set (i := 3) scLawDraw.nd rfl (Or.inl rfl) (pe_op op_add (pe_dget hu (pv 0) pe_str (fun _ _ => rfl)) pe_int))
      (pss_cons (ps_dput hu (pv 0) pe_str (pv 3) rfl)
      (pss_cons (ps_set (i := 4) scLawDraw.nd rfl (Or.inl rfl) (pe_op op_add (pe_ix ix_list (pe_dget hu (pv 0) pe_str (fun _ _ => rfl)) (pe_op op_mod (pe_callTy call_int1 (by rfl) T.int (by decide +kernel) (pa_cons (pv 3) pa_nil)) (pe_callB call_len_seq (by rfl) T.len PySem.boot_len (pa_cons (pe_dget hu (pv 0) pe_str (fun _ _ => rfl)) pa_nil))) (fun _ _ => rfl)) (pe_op op_mul pe_int (pe_dget hu (pv 0) pe_str (fun _ _ => rfl)))))
      (pss_cons (ps_set (i := 2) scLawDraw.nd rfl (Or.inl rfl) (pe_op op_mod (pe_callTy call_int1 (by rfl) T.int (by decide +kernel) (pa_cons (pe_op op_mul (pe_op op_add (pe_op op_add (pv 4) (pe_op op_mul pe_int (pv 3))) pe_int) pe_int) pa_nil)) pe_int))
      (pss_cons (ps_set (i := 2) scLawDraw.nd rfl (Or.inl rfl) (pe_op op_mod (pe_callTy call_int1 (by rfl) T.int (by decide +kernel) (pa_cons (pe_op op_mul (pv 2) (pe_op op_add (pe_op op_fdiv (pv 2) pe_int) pe_int)) pa_nil)) pe_int))
      (pss_cons (ps_set (i := 2) scLawDraw.nd rfl (Or.inl rfl) (pe_op op_mod (pe_callTy call_int1 (by rfl) T.int (by decide +kernel) (pa_cons (pe_op op_add (pe_op op_mul (pv 2) (pe_op op_add (pe_op op_fdiv (pv 2) pe_int) pe_int)) (pv 3)) pa_nil)) pe_int))
      (pss_one (ps_ret (pe_op op_mod (pe_callTy call_int1 (by rfl) T.int (by decide +kernel) (pa_cons (pe_op op_fdiv (pv 2) pe_int) pa_nil)) (pv 1)))))))))), ?_⟩
    obtain ⟨gr, sm, small, s0, t, hp, hg, hc, c1, c2, c3, hs, ht⟩ := id hH
    have ngp : gr ≠ p := ne_of hg hp (by intro z; cases z)
    have nsp : sm ≠ p := ne_of hc hp (by intro z; cases z)
    refine ⟨gr, hg, fun xs gx => ?_⟩
    have hp' : upd H gr (.lst (xs.map V.int)) p = some (.dK (hdK gr sm s0 t)) := by rw [upd_ne (Ne.symm ngp)]; exact hp
    have back : ∀ o, upd (upd H gr o) gr (greatO gr) = H := fun o => by
      rw [upd_upd]
      funext b
      by_cases hb : b = gr
      · rw [hb, upd_same, hg]
      · rw [upd_ne hb]
    refine ⟨_, rfl, p, _, rfl, gt_great hp', gr, _, rfl, .inl (SqL.of upd_same), _, _, rfl, rfl, _, rfl, ite2 (fun h0 => ?_) (fun _ => ?_)⟩
    · have h0 := of_decide_eq_true h0
      rw [List.length_map] at h0
      have h0 : 0 < xs.length := by omega
      obtain ⟨z, hz, zm⟩ := getg h0
      have z0 := gx.1 z zm
      refine ⟨_, rfl, p, _, rfl, gt_great hp', gr, _, _, _, rfl, rfl, SqL.of upd_same, atI_ints (i := 0) hz, ?_⟩
      refine ⟨_, rfl, _, rfl, _, _, rfl, rfl, wide_div (b := 40) hm0 (by omega) (by decide) (by decide), _, rfl, p, _, rfl, gt_great hp', gr, _, _, 0, rfl, rfl, upd_same, Evl.ixN_nat (by rw [List.length_map]; exact h0), ?_⟩
      rw [upd_upd]
      have es : (xs.map V.int).set 0 (.int (z / m)) = (xs.set 0 (z / m)).map V.int := by rw [List.map_set]
      rw [es]
      have gy : GoodG (xs.set 0 (z / m)) := ⟨fun y hy => by
        rcases List.mem_or_eq_of_mem_set hy with hy | hy
        · exact gx.1 y hy
        · rw [hy]
          exact Int.ediv_nonneg z0 (by omega), by rw [List.length_set]; exact gx.2⟩
      have hp2 : ∀ o, upd H gr o p = some (.dK (hdK gr sm s0 t)) := fun o => by rw [upd_ne (Ne.symm ngp)]; exact hp
      have fin : ∀ ys, GoodG ys → ∃ ys', GoodG ys' ∧ upd H gr (.lst (ys.map V.int)) gr = some (.lst (ys'.map V.int)) ∧ Q (.int (z % m)) (upd (upd H gr (.lst (ys.map V.int))) gr (greatO gr)) := fun ys gy => ⟨ys, gy, upd_same, by
        rw [back]
        exact k _ _ (Int.emod_nonneg _ (by omega)) (Int.emod_lt_of_pos _ hm0) (Stp.refl hH)⟩
      refine ⟨_, rfl, _, rfl, _, _, rfl, rfl, _, rfl, ite2 (fun _ => ?_) (fun _ => ?_)⟩
      · have len1 : 0 < ((xs.set 0 (z / m)).map V.int).length := by rw [List.length_map, List.length_set]; exact h0
        refine ⟨_, rfl, p, _, rfl, gt_great (hp2 _), .inl ⟨rfl, _, SqL.of upd_same⟩, gr, _, 0, 0, ((xs.set 0 (z / m)).map V.int)[0], rfl, rfl, upd_same, by decide, by decide, (ixN_seq (i := 0) (j := 0) (Evl.ixN_nat len1)).1, List.getElem?_eq_getElem len1, ?_⟩
        rw [upd_upd]
        have ee : ((xs.set 0 (z / m)).map V.int).eraseIdx 0 = ((xs.set 0 (z / m)).eraseIdx 0).map V.int := by rw [DT.map_erase]
        rw [ee]
        refine ⟨_, rfl, .inl ⟨_, rfl, _, rfl, _, _, rfl, rfl, hm0, fin _ ⟨fun y hy => gy.1 y (List.mem_of_mem_eraseIdx hy), Nat.le_trans (List.length_eraseIdx_le _ _) gy.2⟩⟩⟩
      · exact ⟨_, rfl, .inl ⟨_, rfl, _, rfl, _, _, rfl, rfl, hm0, fin _ gy⟩⟩
    · refine ⟨xs, gx, upd_same, ?_⟩
      rw [back]
      refine ⟨_, rfl, p, _, rfl, gt_turn hp, _, _, rfl, rfl, ?_⟩
      refine ⟨_, rfl, _, rfl, p, _, rfl, pt_turn hp _, ?_⟩
      have hc' : upd H p (.dK (hdK gr sm s0 (t + 1))) sm = some (.lst (small.map V.int)) := by rw [upd_ne nsp]; exact hc
      have ll : 0 < ((small.map V.int).length : Int) := by rw [List.length_map]; omega
      obtain ⟨j, hj⟩ := Int.eq_ofNat_of_zero_le (Int.emod_nonneg (t + 1) (show ((small.map V.int).length : Int) ≠ 0 by omega))
      have jl : j < small.length := by
        have := Int.emod_lt_of_pos (t + 1) ll
        rw [List.length_map] at this hj
        omega
      have at1 : atI (small.map V.int) ((t + 1) % ((small.map V.int).length : Int)) = some (V.int small[j]) := by
        rw [hj]
        exact atI_ints (List.getElem?_eq_getElem jl)
      have v0 := c3 _ (List.getElem_mem jl)
      refine ⟨_, rfl, p, _, rfl, gt_small upd_same, _, rfl, .inl ⟨_, rfl, _, rfl, p, _, rfl, gt_small upd_same, sm, _, rfl, .inl (SqL.of hc'), _, _, rfl, rfl, ll, sm, _, _, _, rfl, rfl, SqL.of hc', at1, _, rfl, p, _, rfl, gt_sum upd_same, _, _, rfl, rfl, .inl ⟨by decide, by decide⟩, _, _, rfl, rfl, ?_⟩⟩
      refine ⟨_, rfl, _, rfl, _, _, rfl, rfl, .inl ⟨by decide, by decide⟩, _, _, rfl, rfl, _, _, rfl, rfl, _, _, rfl, rfl, .inr ⟨by decide, by decide⟩, .inl ⟨_, rfl, _, _, rfl, rfl, (by show (0 : Int) < 2147483647; decide), ?_⟩⟩
      generalize hx : ((small[j] + 31 * s0 + 104729 * (t + 1) + 3) * 48271) % 2147483647 = x
      have x0 : 0 ≤ x := by rw [← hx]; exact Int.emod_nonneg _ (by decide)
      have x1 : x < 2147483647 := by rw [← hx]; exact Int.emod_lt_of_pos _ (by decide)
      refine ⟨_, rfl, _, rfl, _, _, rfl, rfl, ⟨by decide, by decide⟩, _, _, rfl, rfl, _, _, rfl, rfl, .inl ⟨by omega, by omega⟩, .inl ⟨_, rfl, _, _, rfl, rfl, (by show (0 : Int) < 2147483629; decide), ?_⟩⟩
      generalize hy : (x * (x / 1009 + 69621)) % 2147483629 = y
      have y0 : 0 ≤ y := by rw [← hy]; exact Int.emod_nonneg _ (by decide)
      have y1 : y < 2147483629 := by rw [← hy]; exact Int.emod_lt_of_pos _ (by decide)
      refine ⟨_, rfl, _, rfl, _, _, rfl, rfl, ⟨by decide, by decide⟩, _, _, rfl, rfl, _, _, rfl, rfl, .inl ⟨by omega, by omega⟩, _, rfl, _, _, rfl, rfl, .inl ⟨_, rfl, _, _, rfl, rfl, (by show (0 : Int) < 2147483399; decide), ?_⟩⟩
      refine ⟨_, rfl, _, _, rfl, rfl, ⟨by decide, by decide⟩, .inl ⟨_, rfl, _, rfl, _, _, rfl, rfl, hm0, ?_⟩⟩
      exact k _ _ (Int.emod_nonneg _ (by omega)) (Int.emod_lt_of_pos _ hm0) ⟨fun b o n e => by rw [upd_ne n]; exact e, cell_to hp upd_same, gr, sm, small, s0, t + 1, upd_same, by rw [upd_ne ngp]; exact hg, hc', c1, c2, c3, hs, by omega⟩
end
end Law

namespace Law
open PySem L2
section
variable {P : Program} {w : World} {K : PySem.W.Frag} {mg : Str → Option Value} {base : Heap}
/-- a def of the module that may be called by its name -/
structure Cl (P : Program) (w : World) (K : PySem.W.Frag) (mg : Str → Option Value) (base : Heap) (CX : CXT) (k : Nat) (x : Str) (f : Addr) (fd : FuncData) (ps : List Str) (sp : Sp) : Prop where
  ok : FnOk P w K mg base CX k f fd ps sp
  b : Binds K fd ps []
  m : mg x = some (.ref f)
  kp : PySem.W.keepIn K (.ref f) = true
theorem Cl.call {X : Cx} {k : Nat} {x : Str} {f : Addr} {fd : FuncData} {ps : List Str} {sp : Sp} {p pos : Pos} {e : Expr} {es : List Expr} {t : TA} (c : Cl X.prog X.w X.K X.mg X.base CX0 k x f fd ps sp) (hr : Room k X.A) (ha : PA X (e :: es) t) (hg : Gl X x := by rfl) (hdb : (x == ("__debug__" : Str)) = false := by decide)
    (he : starEach (e :: es) X.env = (false, eval e X.env) :: starEach es X.env := by rfl) (hpl : (backTo pos (starEach es X.env)).any (·.1) = false := by rfl) :
    PE X (.Call (.Name x p) (e :: es) [] pos) (tCall sp [] E0 t) := pe_call c.ok hr hg c.m c.kp c.b .nil pass0 ha hdb he hpl
def spAny (K : PySem.W.Frag) : Sp := fun vs H Q _ => ∃ (p l : Addr) (xs : List V), vs = [.ref p, .ref l] ∧ (SqL K H l xs ∨ SqT K H l xs) ∧ 0 < xs.length ∧ xs.length < 1073741824 ∧ HandAt H p ∧ ∀ (i : Nat) (x : V) (H' : Hp), xs[i]? = some x → Stp p H H' → Q x H'
theorem scAny : FnScope ["_law_hand_here", "_law_things"] ["_law_hand_here", "_law_things"] (defScope s_law_any) := ⟨rfl, rfl, rfl, by decide +kernel, rfl, by decide +kernel, by decide +kernel⟩
theorem ok_any {f fD : Addr} {fd fdD : FuncData} (F : Fun K "_law_any" "_law_any" s_law_any f fd) (T : NmA mg) (D : Cl P w K mg base CX0 1 "_law_draw" fD fdD ["_law_hand_here", "_law_many"] spDraw) : FnOk P w K mg base CX0 2 f fd ["_law_hand_here", "_law_things"] (spAny K) := by
  refine F.ok scAny (fun vs H Q E h => ?_) (fun cdv A outer s H vs Q E hr h => ?_)
  · obtain ⟨p, l, xs, rfl, _⟩ := h
    rfl
  · obtain ⟨p, l, xs, rfl, hS, h0, h1, hH, k⟩ := h
    refine ⟨_, pss_one (ps_ret (pe_ix ix_seq (pv 1) (D.call hr (pa_cons (pv 0) (pa_cons (pe_callB call_len_seq (by rfl) T.len PySem.boot_len (pa_cons (pv 1) pa_nil)) pa_nil))) (fun _ _ => rfl))), ?_⟩
    refine ⟨_, rfl, _, rfl, _, rfl, l, xs, rfl, hS, p, _, rfl, by omega, by omega, hH, fun d H' d0 d1 S => ?_⟩
    obtain ⟨j, rfl⟩ := Int.eq_ofNat_of_zero_le d0
    have hj : j < xs.length := by omega
    have ha : atI xs ((j : Nat) : Int) = some xs[j] := by
      unfold atI
      rw [Evl.ixN_nat hj]
      exact List.getElem?_eq_getElem hj
    rcases hS with hS | hS
    · exact .inl ⟨l, xs, _, _, rfl, rfl, S.sqL hH hS, ha, k j _ H' (List.getElem?_eq_getElem hj) S⟩
    · exact .inr (.inl ⟨l, xs, _, _, rfl, rfl, S.sqT hH hS, ha, k j _ H' (List.getElem?_eq_getElem hj) S⟩)
end
end Law

namespace Law
open PySem L2
/-! ### the program's own: integers, fractions -/
def Ty3 (K : PySem.W.Frag) (H : Hp) (x : V) (bi bb : Bool) : Prop := ∃ t, TyX K H x t ∧ PySem.W.kitOne K t (.type "int") = some bi ∧ PySem.W.kitOne K t (.type "bool") = some bb
theorem ty3_int {K : PySem.W.Frag} {H : Hp} (i : Int) : Ty3 K H (.int i) true false := ⟨_, .base (.int i), kit_ty (by decide +kernel), kit_ty (by decide +kernel)⟩
theorem tyx_tup {K : PySem.W.Frag} {H : Hp} {a : Addr} {xs : List V} (h : SqT K H a xs) : TyX K H (.ref a) (.type "tuple") := by
  rcases h with (h | ⟨o, h⟩) | ⟨o, its, n, hk, hc, _⟩
  · exact .base (.tup h)
  · exact .fTuple h
  · exact .kTuple hk hc
theorem kit_tt {K : PySem.W.Frag} : PySem.W.kitOne K (.type "tuple") (.type "tuple") = some true := kit_ty (by decide +kernel)
end Law
namespace Law
open PySem L2
section
variable {P : Program} {w : World} {K : PySem.W.Frag} {mg : Str → Option Value} {base : Heap}
def spIsInt (K : PySem.W.Frag) : Sp := fun vs H Q _ => ∃ x bi bb, vs = [x] ∧ Ty3 K H x bi bb ∧ Q (.bl (bi && !bb)) H
theorem scIsInt : FnScope ["thing"] ["thing"] (defScope s_is_integer) := ⟨rfl, rfl, rfl, by decide +kernel, rfl, by decide +kernel, by decide +kernel⟩
theorem ok_isint {f : Addr} {fd : FuncData} (F : Fun K "is_integer" "is_integer" s_is_integer f fd) (T : NmA mg) : FnOk P w K mg base CX0 1 f fd ["thing"] (spIsInt K) := by
  refine F.ok scIsInt (fun vs H Q E h => ?_) (fun cdv A outer s H vs Q E hr h => ?_)
  · obtain ⟨x, bi, bb, rfl, _⟩ := h
    rfl
  · obtain ⟨x, bi, bb, rfl, ⟨t, ty, h1, h2⟩, k⟩ := h
    refine ⟨_, pss_one (ps_ret (pe_and (pe_callB call_isi (by rfl) T.isi (by decide +kernel) (pa_cons (pv 0) (pa_cons (pe_bltn (v := .ty "int") (u := .type "int") (by rfl) T.int (by decide +kernel) rfl) pa_nil)))
      (pe_one (pe_not (pe_callB call_isi (by rfl) T.isi (by decide +kernel) (pa_cons (pv 0) (pa_cons (pe_bltn (v := .ty "bool") (u := .type "bool") (by rfl) T.bool (by decide +kernel) rfl) pa_nil))))))), ?_⟩
    refine ⟨_, rfl, _, _, _, _, _, rfl, .ty "int", ty, h1, _, rfl, ?_⟩
    cases bi with
    | true => exact iteT ⟨_, rfl, _, _, _, _, _, rfl, .ty "bool", ty, h2, _, rfl, k⟩
    | false => exact iteF k
def spWithin (K : PySem.W.Frag) : Sp := fun vs H Q _ => ∃ (lo hi : Int) (x : V), vs = [.int lo, .int hi, x] ∧ ((∃ i, x = .int i ∧ Q (.bl (decide (lo ≤ i) && decide (i ≤ hi))) H) ∨ ∃ bi bb, Ty3 K H x bi bb ∧ (bi && !bb) = false ∧ Q (.bl false) H)
theorem scWithin : FnScope ["low", "high", "thing"] ["low", "high", "thing"] (defScope s_is_within) := ⟨rfl, rfl, rfl, by decide +kernel, rfl, by decide +kernel, by decide +kernel⟩
theorem ok_within {f fI : Addr} {fd fdI : FuncData} (F : Fun K "is_within" "is_within" s_is_within f fd) (I : Cl P w K mg base CX0 1 "is_integer" fI fdI ["thing"] (spIsInt K)) : FnOk P w K mg base CX0 2 f fd ["low", "high", "thing"] (spWithin K) := by
  refine F.ok scWithin (fun vs H Q E h => ?_) (fun cdv A outer s H vs Q E hr h => ?_)
  · obtain ⟨lo, hi, x, rfl, _⟩ := h
    rfl
  · obtain ⟨lo, hi, x, rfl, h⟩ := h
    refine ⟨_, pss_one (ps_ret (pe_and (I.call hr (pa_cons (pv 2) pa_nil)) (pe_one (pe_chain op_le op_le (pv 0) (pv 2) (pv 1))))), ?_⟩
    rcases h with ⟨i, rfl, k⟩ | ⟨bi, bb, ty, hb, k⟩
    · refine ⟨_, rfl, _, true, false, rfl, ty3_int i, true, rfl, iteT ?_⟩
      refine ⟨_, rfl, _, rfl, _, _, rfl, rfl, _, rfl, ?_⟩
      refine ite2 (fun h1 => ?_) (fun h1 => ?_)
      · refine ⟨_, rfl, _, _, rfl, rfl, ?_⟩
        rw [h1, Bool.true_and] at k
        exact k
      · rw [Bool.not_eq_true] at h1
        rw [h1, Bool.false_and] at k
        exact k
    · refine ⟨_, rfl, x, bi, bb, rfl, ty, _, rfl, ?_⟩
      rw [hb]
      exact iteF k
def isW (lo hi : Int) : V → Bool
  | .int i => decide (lo ≤ i) && decide (i ≤ hi)
  | _ => false
def Known (K : PySem.W.Frag) (H : Hp) (x : V) : Prop := (∃ i, x = .int i) ∨ ∃ bi bb, Ty3 K H x bi bb ∧ (bi && !bb) = false ∧ ∀ lo hi, isW lo hi x = false
theorem all_take {α : Type} (f : α → Bool) : ∀ xs : List α, (xs.map f).all id = xs.all f
  | [] => rfl
  | x :: xs => by rw [List.map_cons, List.all_cons, List.all_cons, all_take f xs] <;> rfl
end
end Law
namespace L2
open PySem PySem.Spec PyProof.Rows
/-- the place of the first one that is missing -/
def firstNo {α : Type} : List (Option α) → Option Nat
  | [] => none
  | none :: _ => some 0
  | some _ :: r => (firstNo r).map (· + 1)
theorem firstNo_none {α : Type} : ∀ {l : List (Option α)}, firstNo l = none → l = (l.filterMap id).map some
  | [], _ => rfl
  | none :: _, h => by cases h
  | some a :: r, h => by
    have z := firstNo_none (Option.map_eq_none_iff.mp (show (firstNo r).map (· + 1) = none from h))
    show some a :: r = some a :: (r.filterMap id).map some
    rw [← z]
theorem firstNo_at {α : Type} : ∀ {l : List (Option α)} {i : Nat}, firstNo l = some i → l[i]? = some none ∧ ∀ j, j < i → ∃ a, l[j]? = some (some a)
  | [], _, h => by cases h
  | none :: _, _, h => by
    cases h
    exact ⟨rfl, fun j hj => absurd hj (Nat.not_lt_zero _)⟩
  | some a :: r, i, h => by
    obtain ⟨k, h1, h2⟩ := Option.map_eq_some_iff.mp (show (firstNo r).map (· + 1) = some i from h)
    subst h2
    obtain ⟨a1, a2⟩ := firstNo_at h1
    refine ⟨a1, fun j hj => ?_⟩
    cases j with
    | zero => exact ⟨a, rfl⟩
    | succ j => exact a2 j (by omega)
theorem firstNo_of {α : Type} : ∀ {l : List (Option α)} {i : Nat}, l[i]? = some none → (∀ j, j < i → ∃ a, l[j]? = some (some a)) → firstNo l = some i
  | [], i, h, _ => by simp at h
  | none :: r, 0, _, _ => rfl
  | none :: r, i + 1, _, h => by
    obtain ⟨a, ha⟩ := h 0 (Nat.succ_pos _)
    cases ha
  | some a :: r, 0, h, _ => by cases h
  | some a :: r, i + 1, h, g => by
    have ih := firstNo_of (l := r) (i := i) h fun j hj => g (j + 1) (by omega)
    show (firstNo r).map (· + 1) = _
    rw [ih] <;> rfl
theorem firstNo_all {α : Type} : ∀ {l : List (Option α)}, (∀ (j : Nat) (o : Option α), l[j]? = some o → ∃ a, o = some a) → firstNo l = none
  | [], _ => rfl
  | none :: r, h => by
    obtain ⟨a, ha⟩ := h 0 none rfl
    cases ha
  | some a :: r, h => by
    show (firstNo r).map (· + 1) = none
    rw [firstNo_all fun j o hj => h (j + 1) o hj] <;> rfl
/-- a part of a System that is wrong -/
abbrev Part := Sum Str Nat
abbrev Tie := (Int × Int) × List (List Int)
def rLenK (K : PySem.W.Frag) : List V → Hp → VK → Prop := fun xs H Q => ∃ p ys, xs = [.ref p] ∧ (SqL K H p ys ∨ SqT K H p ys) ∧ Q (.int (ys.length : Nat)) H
theorem filter_snoc {α : Type} {f : α → Bool} {xs : List α} {i : Nat} {x : α} (h : xs[i]? = some x) : (xs.take (i + 1)).filter f = (xs.take i).filter f ++ if f x = true then [x] else [] := by
  rw [List.take_add_one, h, List.filter_append]
  congr 1
  show [x].filter f = _
  rw [List.filter_cons, List.filter_nil]
theorem in_two (p i j : Int) : inV (.int p) [.int i, .int j] = (decide (p = i) || decide (p = j)) := by
  unfold inV
  rw [List.any_cons, List.any_cons, List.any_nil, Bool.or_false]
  show (decide (i = p) || decide (j = p)) = _
  rw [decide_eq_decide.mpr (show i = p ↔ p = i from ⟨Eq.symm, Eq.symm⟩), decide_eq_decide.mpr (show j = p ↔ p = j from ⟨Eq.symm, Eq.symm⟩)]
/-! ### a model's data -/
def AllIn {α : Type} (R : V → α → Prop) (vs : List V) (l : List α) : Prop := vs.length = l.length ∧ ∀ (i : Nat) (v : V), vs[i]? = some v → ∃ x, l[i]? = some x ∧ R v x
theorem AllIn.mono {α : Type} {R R' : V → α → Prop} {vs : List V} {l : List α} (h : AllIn R vs l) (f : ∀ v x, R v x → R' v x) : AllIn R' vs l := ⟨h.1, fun i v hv => by
  obtain ⟨x, h1, h2⟩ := h.2 i v hv
  exact ⟨x, h1, f _ _ h2⟩⟩
theorem snoc_getA {α : Type} {xs : List α} {y v : α} {i : Nat} (h : (xs ++ [y])[i]? = some v) : (i < xs.length ∧ xs[i]? = some v) ∨ (i = xs.length ∧ y = v) := by
  by_cases hi : i < xs.length
  · rw [List.getElem?_append_left hi] at h
    exact .inl ⟨hi, h⟩
  · rw [List.getElem?_append_right (by omega)] at h
    have : i - xs.length = 0 := by
      cases e : i - xs.length with
      | zero => rfl
      | succ n => rw [e] at h; simp at h
    rw [this] at h
    exact .inr ⟨by omega, Option.some.inj h⟩
theorem AllIn.snoc {α : Type} {R : V → α → Prop} {vs : List V} {l : List α} {v : V} {x : α} (h : AllIn R vs l) (hv : R v x) : AllIn R (vs ++ [v]) (l ++ [x]) := by
  refine ⟨by rw [List.length_append, List.length_append, h.1] <;> rfl, fun i u hu => ?_⟩
  rcases snoc_getA hu with ⟨hi, e⟩ | ⟨hi, e⟩
  · obtain ⟨y, h1, h2⟩ := h.2 i u e
    exact ⟨y, by rw [List.getElem?_append_left (by rw [← h.1]; exact hi)]; exact h1, h2⟩
  · subst e
    refine ⟨x, ?_, hv⟩
    rw [List.getElem?_append_right (by rw [hi, h.1]; exact Nat.le_refl _), hi, h.1, Nat.sub_self]
    rfl
theorem AllIn.nil {α : Type} {R : V → α → Prop} : AllIn R [] [] := ⟨rfl, fun i v hv => by simp at hv⟩
theorem AllIn.drop {α : Type} {R : V → α → Prop} {vs : List V} {l : List α} (n : Nat) (h : AllIn R vs l) : AllIn R (vs.drop n) (l.drop n) := ⟨by rw [List.length_drop, List.length_drop, h.1], fun i v hv => by
  rw [List.getElem?_drop] at hv
  obtain ⟨x, h1, h2⟩ := h.2 _ v hv
  exact ⟨x, by rw [List.getElem?_drop]; exact h1, h2⟩⟩
theorem AllIn.take {α : Type} {R : V → α → Prop} {vs : List V} {l : List α} (n : Nat) (h : AllIn R vs l) : AllIn R (vs.take n) (l.take n) := ⟨by rw [List.length_take, List.length_take, h.1], fun i v hv => by
  rw [List.getElem?_take] at hv
  split at hv
  · rename_i c
    obtain ⟨x, h1, h2⟩ := h.2 _ v hv
    exact ⟨x, by rw [List.getElem?_take, if_pos c]; exact h1, h2⟩
  · cases hv⟩
theorem sqT_updL {K : PySem.W.Frag} {H : Hp} {a D : Addr} {acc xs : List V} {o : HO} (hD : H D = some (.lst acc)) (h : SqT K H a xs) : SqT K (upd H D o) a xs := by
  rcases h with (z | ⟨q, z⟩) | z
  · refine .inl (.inl ?_)
    rw [upd_ne (ne_of z hD (by intro y; cases y))]
    exact z
  · refine .inl (.inr ⟨q, ?_⟩)
    rw [upd_ne (ne_of z hD (by intro y; cases y))]
    exact z
  · exact .inr z
def RowAt (K : PySem.W.Frag) (H : Hp) (v : V) (l : List Int) : Prop := ∃ a, v = .ref a ∧ SqT K H a (l.map V.int)
theorem RowAt.same {K : PySem.W.Frag} {H H' : Hp} {v : V} {l : List Int} (s : Same H H') (h : RowAt K H v l) : RowAt K H' v l := by
  obtain ⟨a, h1, h2⟩ := h
  exact ⟨a, h1, s.sqT h2⟩
theorem RowAt.upd {K : PySem.W.Frag} {H : Hp} {D : Addr} {acc : List V} {o : HO} {v : V} {l : List Int} (hD : H D = some (.lst acc)) (h : RowAt K H v l) : RowAt K (upd H D o) v l := by
  obtain ⟨a, h1, h2⟩ := h
  exact ⟨a, h1, sqT_updL hD h2⟩
def RowsAt (K : PySem.W.Frag) (H : Hp) (a : Addr) (t : List (List Int)) : Prop := ∃ vs, SqT K H a vs ∧ AllIn (RowAt K H) vs t
theorem RowsAt.same {K : PySem.W.Frag} {H H' : Hp} {a : Addr} {t : List (List Int)} (s : Same H H') (h : RowsAt K H a t) : RowsAt K H' a t := by
  obtain ⟨vs, h1, h2⟩ := h
  exact ⟨vs, s.sqT h1, h2.mono fun _ _ => RowAt.same s⟩
theorem RowsAt.upd {K : PySem.W.Frag} {H : Hp} {D : Addr} {acc : List V} {o : HO} {a : Addr} {t : List (List Int)} (hD : H D = some (.lst acc)) (h : RowsAt K H a t) : RowsAt K (upd H D o) a t := by
  obtain ⟨vs, h1, h2⟩ := h
  exact ⟨vs, sqT_updL hD h1, h2.mono fun _ _ => RowAt.upd hD⟩
def TieAt (K : PySem.W.Frag) (H : Hp) (v : V) (t : Tie) : Prop := ∃ a b, v = .ref a ∧ SqT K H a [.int t.1.1, .int t.1.2, .ref b] ∧ RowsAt K H b t.2
theorem TieAt.same {K : PySem.W.Frag} {H H' : Hp} {v : V} {t : Tie} (s : Same H H') (h : TieAt K H v t) : TieAt K H' v t := by
  obtain ⟨a, b, h1, h2, h3⟩ := h
  exact ⟨a, b, h1, s.sqT h2, h3.same s⟩
theorem TieAt.upd {K : PySem.W.Frag} {H : Hp} {D : Addr} {acc : List V} {o : HO} {v : V} {t : Tie} (hD : H D = some (.lst acc)) (h : TieAt K H v t) : TieAt K (upd H D o) v t := by
  obtain ⟨a, b, h1, h2, h3⟩ := h
  exact ⟨a, b, h1, sqT_updL hD h2, h3.upd hD⟩
def TiesAt (K : PySem.W.Frag) (H : Hp) (a : Addr) (ts : List Tie) : Prop := ∃ vs, SqT K H a vs ∧ AllIn (TieAt K H) vs ts
theorem TiesAt.same {K : PySem.W.Frag} {H H' : Hp} {a : Addr} {ts : List Tie} (s : Same H H') (h : TiesAt K H a ts) : TiesAt K H' a ts := by
  obtain ⟨vs, h1, h2⟩ := h
  exact ⟨vs, s.sqT h1, h2.mono fun _ _ => TieAt.same s⟩
structure Mdl where
  many : Int
  levels : Int
  ws : List (List Int)
  ts : List Tie
def modF (many levels : Int) (w t : Addr) : List (Str × V) := putF "ties" (.ref t) (putF "weights" (.ref w) (putF "levels" (.int levels) (putF "many" (.int many) [])))
theorem nTM : ¬ ("ties" : Str) = "many" := by decide +kernel
theorem nTL : ¬ ("ties" : Str) = "levels" := by decide +kernel
theorem nTW : ¬ ("ties" : Str) = "weights" := by decide +kernel
theorem nWM : ¬ ("weights" : Str) = "many" := by decide +kernel
theorem nWL : ¬ ("weights" : Str) = "levels" := by decide +kernel
theorem nLM : ¬ ("levels" : Str) = "many" := by decide +kernel
theorem modF_many (m l : Int) (w t : Addr) : (modF m l w t).lookup ("many" : Str) = some (.int m) := by
  unfold modF
  rw [lookup_putF, if_neg (Ne.symm nTM), lookup_putF, if_neg (Ne.symm nWM), lookup_putF, if_neg (Ne.symm nLM), lookup_putF, if_pos rfl]
theorem modF_levels (m l : Int) (w t : Addr) : (modF m l w t).lookup ("levels" : Str) = some (.int l) := by
  unfold modF
  rw [lookup_putF, if_neg (Ne.symm nTL), lookup_putF, if_neg (Ne.symm nWL), lookup_putF, if_pos rfl]
theorem modF_weights (m l : Int) (w t : Addr) : (modF m l w t).lookup ("weights" : Str) = some (.ref w) := by
  unfold modF
  rw [lookup_putF, if_neg (Ne.symm nTW), lookup_putF, if_pos rfl]
theorem modF_ties (m l : Int) (w t : Addr) : (modF m l w t).lookup ("ties" : Str) = some (.ref t) := by
  unfold modF
  rw [lookup_putF, if_pos rfl]
def ModAt (K : PySem.W.Frag) (C : Addr) (H : Hp) (p : Addr) (m : Mdl) : Prop := ∃ dx w t, H p = some (.ins C dx (modF m.many m.levels w t)) ∧ RowsAt K H w m.ws ∧ TiesAt K H t m.ts
theorem ModAt.same {K : PySem.W.Frag} {C : Addr} {H H' : Hp} {p : Addr} {m : Mdl} (s : Same H H') (h : ModAt K C H p m) : ModAt K C H' p m := by
  obtain ⟨dx, w, t, h1, h2, h3⟩ := h
  exact ⟨dx, w, t, s _ _ h1, h2.same s, h3.same s⟩
structure ModT (K : PySem.W.Frag) (mg : Str → Option Value) (C : Addr) : Prop where
  cl : Cls K C
  nK : NoAttr K C "many"
  nL : NoAttr K C "levels"
  nW : NoAttr K C "weights"
  nT : NoAttr K C "ties"
  mgC : mg "Model" = some (.ref C)
  ha : PySem.W.findIn K (.ref C) "__class__" = some (some (.builtin "object.__class__"))
  hn : PySem.W.specialIn K (.builtin "object.__class__") "__get__" = some (some (.builtin "getset_descriptor.__get__"))
  ht : PySem.W.takesIn K (.builtin "object.__class__") = some true
  hm : PySem.W.mroIn K C (.type "object") = some true
theorem ModAt.ty {K : PySem.W.Frag} {mg : Str → Option Value} {C : Addr} {H : Hp} {p : Addr} {m : Mdl} (T : ModT K mg C) (h : ModAt K C H p m) : TyX K H (.ref p) (.ref C) := by
  obtain ⟨dx, w, t, h1, _⟩ := h
  exact .base (.ins h1 T.cl T.ha T.hn T.ht T.hm)
theorem kit_selfM {K : PySem.W.Frag} {v : Value} (h : (v == v) = true) : PySem.W.kitOne K v v = some true := by
  unfold PySem.W.kitOne
  rw [if_pos h]
/-! ### what a model must be -/
def tabB (rows cols : Int) (t : List (List Int)) : Bool := decide ((t.length : Int) = rows) && t.all fun l => decide ((l.length : Int) = cols) && l.all fun x => decide (x ≤ 1000)
def tieB (many levels : Int) (t : Tie) : Bool := decide (t.1.2 < many) && (decide (t.1.1 < t.1.2) && tabB levels levels t.2)
def cntT (ts : List Tie) (p : Int) : Nat := (ts.filter fun t => decide (p = t.1.1) || decide (p = t.1.2)).length
def leP (a b : Int × Int) : Bool := if a.1 = b.1 then decide (a.2 ≤ b.2) else decide (a.1 ≤ b.1)
abbrev RowOk (l : List Int) : Prop := ∀ x ∈ l, 0 ≤ x
abbrev TabOk (t : List (List Int)) : Prop := t.length ≤ 16000000 ∧ ∀ l ∈ t, l.length ≤ 16000000 ∧ RowOk l
/-- small enough to be written -/
structure MdlSm (m : Mdl) : Prop where
  m0 : 0 ≤ m.many
  m1 : m.many ≤ 12
  l0 : 0 ≤ m.levels
  l1 : m.levels ≤ 4
  wl : m.ws.length ≤ 12
  wr : ∀ l ∈ m.ws, l.length ≤ 4 ∧ l ≠ [] ∧ ∀ x ∈ l, 0 ≤ x ∧ x ≤ 1000
  tl : m.ts.length ≤ 144
  tr : ∀ t ∈ m.ts, (0 ≤ t.1.1 ∧ t.1.1 < 12) ∧ (0 ≤ t.1.2 ∧ t.1.2 < 12) ∧ t.2.length ≤ 4 ∧ t.2 ≠ [] ∧ ∀ l ∈ t.2, l.length ≤ 4 ∧ l ≠ [] ∧ ∀ x ∈ l, 0 ≤ x ∧ x ≤ 1000
end L2
namespace Law
open PySem L2
section
variable {P : Program} {w : World} {K : PySem.W.Frag} {mg : Str → Option Value} {base : Heap}
def rowI (b : Int) (l : List Int) : Bool := l.all fun i => decide (0 ≤ i) && decide (i ≤ b - 1)
def spRowI (K : PySem.W.Frag) : Sp := fun vs H Q _ => ∃ (b : Int) (a : Addr) (l : List Int), vs = [.int b, .ref a] ∧ SqT K H a (l.map V.int) ∧ l.length ≤ 16000000 ∧ ∀ H', Same H H' → Q (.bl (rowI b l)) H'
abbrev nIsRowBelowI : List Str := ["bound", "thing", "part"]
theorem scIsRowBelowI : FnScope nIsRowBelowI ["bound", "thing"] (defScope s_is_row_below) := ⟨rfl, rfl, rfl, by decide +kernel, rfl, by decide +kernel, by decide +kernel⟩
theorem ok_rowI {f : Addr} {fd : FuncData} {fcWithin : Addr} {fdcWithin : FuncData} (F : Fun K "is_row_below" "is_row_below" s_is_row_below f fd) (T : NmA mg) (cWithin : Cl P w K mg base CX0 2 "is_within" fcWithin fdcWithin ["low", "high", "thing"] (spWithin K)) : FnOk P w K mg base CX0 3 f fd ["bound", "thing"] (spRowI K) := by
  refine F.ok scIsRowBelowI (fun vs H Q E h => ?_) (fun cdv A' outer s H vs Q E hr h => ?_)
  · obtain ⟨b, a, l, rfl, _⟩ := h
    rfl
  · obtain ⟨b, a, l, rfl, hS, ll, k⟩ := h
    refine ⟨_, pss_one (ps_ret (pe_and (pe_callB call_isi (by rfl) T.isi (by decide +kernel) (pa_cons (pv 1) (pa_cons (pe_bltn (v := .ty "tuple") (u := .type "tuple") (by rfl) T.tuple (by decide +kernel) rfl) pa_nil))) (pe_one (pe_callB (cr_all rfl) (by rfl) T.all (by decide +kernel) (pa_cons (pe_lc (own := [("part", 2)]) (g := (gName 2)) (tt := tYes) rfl scIsRowBelowI.nd  (pi_tup (pv 1)) (blkOk_by (own := [("part", 2)]) (N := nIsRowBelowI) (sc := defScope s_is_row_below) (by decide +kernel)) (fun _ _ _ _ _ => (pg_name (i := 2) scIsRowBelowI.nd rfl (Or.inl rfl))) (fun _ _ _ _ _ => pts_nil) (fun _ _ _ _ _ => (cWithin.call (hr.mono (by decide)) (pa_cons pe_int (pa_cons (pe_op op_sub (pv 0) pe_int) (pa_cons (pv 2) pa_nil)))))) pa_nil))))), ?_⟩
    refine ⟨_, rfl, _, _, _, _, _, rfl, .ty "tuple", tyx_tup hS, kit_tt, _, rfl, iteT ?_⟩
    refine ⟨_, rfl, a, rfl, ⟨_, hS⟩, fun D hD => ?_⟩
    refine lc_tup (K := K) (a := a) (xs := l.map V.int) (fun i H' => Same H H' ∧ H' D = some (.lst (((l.take i).map fun i => decide (0 ≤ i) && decide (i ≤ b - 1)).map V.bl))) ⟨Same.new hD, upd_same⟩ (fun i H' _ h => h.1.sqT hS) ?_ ?_
    · rintro i x H' hi ⟨s1, h1⟩
      rw [List.getElem?_map] at hi
      obtain ⟨z, hz, rfl⟩ := Option.map_eq_some_iff.mp hi
      have il := (List.getElem?_eq_some_iff.mp hz).1
      refine ⟨rfl, _, rfl, _, _, rfl, rfl, _, rfl, _, _, _, rfl, .inl ⟨z, rfl, _, h1, ?_, s1.mut hD, ?_⟩⟩
      · rw [List.length_map, List.length_map, List.length_take, sizeLine_eq]
        omega
      · rw [upd_same, List.take_add_one, hz, List.map_append, List.map_append] <;> rfl
    · rintro H' ⟨s1, h1⟩
      rw [List.length_map, List.take_length] at h1
      refine ⟨D, _, rfl, SqL.of h1, ?_⟩
      rw [all_take]
      exact k H' s1
theorem rowI_k {l : List Int} (h : RowOk l) : rowI 1001 l = l.all fun s => decide (s ≤ 1000) := by
  unfold rowI
  induction l with
  | nil => rfl
  | cons a l ih =>
    rw [List.all_cons, List.all_cons, ih fun i hi => h i (List.mem_cons_of_mem _ hi), decide_eq_true (h a List.mem_cons_self), Bool.true_and] <;> rfl
def spTable (K : PySem.W.Frag) : Sp := fun vs H Q _ => ∃ (rows cols : Int) (a : Addr) (t : List (List Int)), vs = [.int rows, .int cols, .ref a] ∧ RowsAt K H a t ∧ TabOk t ∧ ∀ H', Same H H' → Q (.bl (tabB rows cols t)) H'
abbrev nIsTable : List Str := ["rows", "columns", "thing", "row"]
theorem scIsTable : FnScope nIsTable ["rows", "columns", "thing"] (defScope s_is_table) := ⟨rfl, rfl, rfl, by decide +kernel, rfl, by decide +kernel, by decide +kernel⟩
theorem ok_is_table {f : Addr} {fd : FuncData} {fcRowI : Addr} {fdcRowI : FuncData} (F : Fun K "is_table" "is_table" s_is_table f fd) (T : NmA mg) (cRowI : Cl P w K mg base CX0 3 "is_row_below" fcRowI fdcRowI ["bound", "thing"] (spRowI K)) : FnOk P w K mg base CX0 4 f fd ["rows", "columns", "thing"] (spTable K) := by
  refine F.ok scIsTable (fun vs H Q E h => ?_) (fun cdv A' outer s H vs Q E hr h => ?_)
  · obtain ⟨rows, cols, a, t, rfl, _⟩ := h
    rfl
  · obtain ⟨rows, cols, a, t, rfl, hS, ht, k⟩ := h
    refine ⟨_, pss_cons (ps_if (PW.pt (pw_or (pt_not (pt_val (pe_callB call_isi (by rfl) T.isi (by decide +kernel) (pa_cons (pv 2) (pa_cons (pe_bltn (v := .ty "tuple") (u := .type "tuple") (by rfl) T.tuple (by decide +kernel) rfl) pa_nil))))) (pw_or1 (pt_cmpR op_ne (pe_callB call_len_seq (by rfl) T.len PySem.boot_len (pa_cons (pv 2) pa_nil)) (pv 0) (nomark _)))))
        (pss_one (ps_ret pe_bl)) pss_nil)
      (pss_one (ps_ret (pe_callB (cr_all rfl) (by rfl) T.all (by decide +kernel) (pa_cons (pe_lc (own := [("row", 3)]) (g := (gName 3)) (tt := tYes) rfl scIsTable.nd  (pi_tup (pv 2)) (blkOk_by (own := [("row", 3)]) (N := nIsTable) (sc := defScope s_is_table) (by decide +kernel)) (fun _ _ _ _ _ => (pg_name (i := 3) scIsTable.nd rfl (Or.inl rfl))) (fun _ _ _ _ _ => pts_nil) (fun _ _ _ _ _ => (pe_and (pe_callB (r := rIsi K) (show CallR _ (.builtin "isinstance") (rIsi K) from call_isi) (by rfl) T.isi (by decide +kernel) (pa_cons (pv 3) (pa_cons (pe_bltn (v := .ty "tuple") (u := .type "tuple") (by rfl) T.tuple (by decide +kernel) rfl) pa_nil))) (pe_and (pe_cmpR op_eq (pe_callB (r := rLenK K) (show CallR _ (.builtin "len") (rLenK K) from call_len_seq) (by rfl) T.len PySem.boot_len (pa_cons (pv 3) pa_nil)) (pv 1) (nomark _)) (pe_one (cRowI.call (hr.mono (by decide)) (pa_cons pe_int (pa_cons (pv 3) pa_nil)))))))) pa_nil)))), ?_⟩
    obtain ⟨vs, hV, hA⟩ := hS
    have vl := hA.1
    refine ⟨_, rfl, _, _, _, _, _, rfl, .ty "tuple", tyx_tup hV, kit_tt, _, rfl, ?_⟩
    refine iteF ⟨_, rfl, a, _, rfl, .inr hV, _, rfl, rfl, _, rfl, ?_⟩
    have ed : decide (V.int ((vs.length : Nat) : Int) = V.int rows) = decide ((t.length : Int) = rows) := by
      rw [vl]
      exact decide_eq_decide.mpr ⟨fun z => V.int.inj z, fun z => by rw [z]⟩
    unfold tabB at k
    rw [ed]
    cases c1 : decide ((t.length : Int) = rows) with
    | false =>
      rw [c1, Bool.false_and] at k
      exact iteT (k H (Same.refl H))
    | true =>
      rw [c1, Bool.true_and] at k
      refine iteF ⟨_, rfl, a, rfl, ⟨_, hV⟩, fun D hD => ?_⟩
      refine lc_tup (K := K) (a := a) (xs := vs) (fun i H' => Same H H' ∧ H' D = some (.lst (((t.take i).map fun l => decide ((l.length : Int) = cols) && l.all fun x => decide (x ≤ 1000)).map V.bl))) ⟨Same.new hD, upd_same⟩ (fun i H' _ h => h.1.sqT hV) ?_ ?_
      · rintro i x H' hi ⟨s1, h1⟩
        obtain ⟨l, hl, b, rfl, hb⟩ := hA.2 i x hi
        obtain ⟨ll, l0⟩ := ht.2 l (List.mem_of_getElem? hl)
        have il := (List.getElem?_eq_some_iff.mp hl).1
        have hb' := s1.sqT hb
        have put : ∀ H2, Same H' H2 → ∃ acc, H2 D = some (.lst acc) ∧ acc.length < sizeLine ∧ (Same H (upd H2 D (.lst (acc ++ [.bl (decide ((l.length : Int) = cols) && l.all fun x => decide (x ≤ 1000))]))) ∧ (upd H2 D (.lst (acc ++ [.bl (decide ((l.length : Int) = cols) && l.all fun x => decide (x ≤ 1000))]))) D = some (.lst (((t.take (i + 1)).map fun l => decide ((l.length : Int) = cols) && l.all fun x => decide (x ≤ 1000)).map V.bl))) := fun H2 s2 => by
          refine ⟨_, s2 _ _ h1, ?_, (s1.trans s2).mut hD, ?_⟩
          · have := ht.1
            rw [List.length_map, List.length_map, List.length_take, sizeLine_eq]
            omega
          · rw [upd_same, List.take_add_one, hl, List.map_append, List.map_append] <;> rfl
        refine ⟨rfl, ?_⟩
        refine ⟨_, rfl, _, _, _, _, _, rfl, .ty "tuple", tyx_tup hb', kit_tt, _, rfl, ?_⟩
        refine iteT ⟨_, rfl, b, _, rfl, .inr hb', _, rfl, rfl, _, rfl, ?_⟩
        have ed : decide (V.int (((l.map V.int).length : Nat) : Int) = V.int cols) = decide ((l.length : Int) = cols) := by
          rw [List.length_map]
          exact decide_eq_decide.mpr ⟨fun z => V.int.inj z, fun z => by rw [z]⟩
        rw [ed]
        cases c2 : decide ((l.length : Int) = cols) with
        | false =>
          rw [c2, Bool.false_and] at put
          exact iteF (put H' (Same.refl _))
        | true =>
          rw [c2, Bool.true_and, ← rowI_k l0] at put
          exact iteT ⟨_, rfl, 1001, b, l, rfl, hb', ll, fun H2 s2 => put H2 s2⟩
      · rintro H' ⟨s1, h1⟩
        rw [vl, List.take_length] at h1
        refine ⟨D, _, rfl, SqL.of h1, ?_⟩
        rw [all_take]
        exact k H' s1
abbrev TieOk (t : Tie) : Prop := 0 ≤ t.1.1 ∧ 0 ≤ t.1.2 ∧ TabOk t.2
def spTie (K : PySem.W.Frag) : Sp := fun vs H Q _ => ∃ (many levels : Int) (v : V) (t : Tie), vs = [.int many, .int levels, v] ∧ TieAt K H v t ∧ TieOk t ∧ ∀ H', Same H H' → Q (.bl (tieB many levels t)) H'
abbrev nIsTie : List Str := ["many", "levels", "thing", "one", "other", "table"]
theorem scIsTie : FnScope nIsTie ["many", "levels", "thing"] (defScope s_is_tie) := ⟨rfl, rfl, rfl, by decide +kernel, rfl, by decide +kernel, by decide +kernel⟩
theorem ok_is_tie {f : Addr} {fd : FuncData} {fcTable : Addr} {fdcTable : FuncData} {fcWithin : Addr} {fdcWithin : FuncData} (F : Fun K "is_tie" "is_tie" s_is_tie f fd) (T : NmA mg) (cTable : Cl P w K mg base CX0 4 "is_table" fcTable fdcTable ["rows", "columns", "thing"] (spTable K)) (cWithin : Cl P w K mg base CX0 2 "is_within" fcWithin fdcWithin ["low", "high", "thing"] (spWithin K)) : FnOk P w K mg base CX0 5 f fd ["many", "levels", "thing"] (spTie K) := by
  refine F.ok scIsTie (fun vs H Q E h => ?_) (fun cdv A' outer s H vs Q E hr h => ?_)
  · obtain ⟨many, levels, v, t, rfl, _⟩ := h
    rfl
  · obtain ⟨many, levels, v, t, rfl, hT, ht, k⟩ := h
    refine ⟨_, pss_cons (ps_if (PW.pt (pw_or (pt_not (pt_val (pe_callB call_isi (by rfl) T.isi (by decide +kernel) (pa_cons (pv 2) (pa_cons (pe_bltn (v := .ty "tuple") (u := .type "tuple") (by rfl) T.tuple (by decide +kernel) rfl) pa_nil))))) (pw_or1 (pt_cmpR op_ne (pe_callB call_len_seq (by rfl) T.len PySem.boot_len (pa_cons (pv 2) pa_nil)) pe_int (nomark _)))))
        (pss_one (ps_ret pe_bl)) pss_nil)
      (pss_cons (ps_asg (pv 2) (pg_tup (by rfl) (pgs_cons (pg_name (i := 3) scIsTie.nd rfl (Or.inl rfl)) (pgs_cons (pg_name (i := 4) scIsTie.nd rfl (Or.inl rfl)) (pgs_cons (pg_name (i := 5) scIsTie.nd rfl (Or.inl rfl)) pgs_nil)))))
      (pss_one (ps_ret (pe_and (cWithin.call (hr.mono (by decide)) (pa_cons pe_int (pa_cons (pe_op op_sub (pv 0) pe_int) (pa_cons (pv 4) pa_nil)))) (pe_and (cWithin.call (hr.mono (by decide)) (pa_cons pe_int (pa_cons (pe_op op_sub (pv 4) pe_int) (pa_cons (pv 3) pa_nil)))) (pe_one (cTable.call (hr.mono (by decide)) (pa_cons (pv 1) (pa_cons (pv 1) (pa_cons (pv 5) pa_nil)))))))))), ?_⟩
    obtain ⟨a, b, rfl, hA, hR⟩ := hT
    obtain ⟨t0, t1, tt⟩ := ht
    refine ⟨_, rfl, _, _, _, _, _, rfl, .ty "tuple", tyx_tup hA, kit_tt, _, rfl, ?_⟩
    refine iteF ⟨_, rfl, a, _, rfl, .inr hA, rfl, _, rfl, iteF ?_⟩
    refine ⟨_, rfl, a, _, rfl, hA, rfl, _, _, rfl, _, _, rfl, _, _, rfl, rfl, ?_⟩
    unfold tieB at k
    refine ⟨_, rfl, _, _, rfl, rfl, _, rfl, _, _, _, rfl, .inl ⟨t.1.2, rfl, _, rfl, ?_⟩⟩
    rw [decide_eq_true t1, Bool.true_and, show decide (t.1.2 ≤ many - 1) = decide (t.1.2 < many) from decide_eq_decide.mpr (by omega)]
    cases c1 : decide (t.1.2 < many) with
    | false =>
      rw [c1, Bool.false_and] at k
      exact iteF (k H (Same.refl H))
    | true =>
      rw [c1, Bool.true_and] at k
      refine iteT ⟨_, rfl, _, _, rfl, rfl, _, rfl, _, _, _, rfl, .inl ⟨t.1.1, rfl, _, rfl, ?_⟩⟩
      rw [decide_eq_true t0, Bool.true_and, show decide (t.1.1 ≤ t.1.2 - 1) = decide (t.1.1 < t.1.2) from decide_eq_decide.mpr (by omega)]
      cases c2 : decide (t.1.1 < t.1.2) with
      | false =>
        rw [c2, Bool.false_and] at k
        exact iteF (k H (Same.refl H))
      | true =>
        rw [c2, Bool.true_and] at k
        exact iteT ⟨_, rfl, _, rfl, _, rfl, _, _, b, t.2, rfl, hR, tt, fun H' s => k H' s⟩
def spTiesAt (K : PySem.W.Frag) : Sp := fun vs H Q _ => ∃ (a : Addr) (ts : List Tie) (p : Int), vs = [.ref a, .int p] ∧ TiesAt K H a ts ∧ ts.length ≤ 16000000 ∧ ∀ H', Same H H' → Q (.int (cntT ts p : Nat)) H'
abbrev nTiesAt : List Str := ["ties", "place", "one", "other", "_"]
theorem scTiesAt : FnScope nTiesAt ["ties", "place"] (defScope s_ties_at) := ⟨rfl, rfl, rfl, by decide +kernel, rfl, by decide +kernel, by decide +kernel⟩
theorem ok_ties_at {f : Addr} {fd : FuncData} (F : Fun K "ties_at" "ties_at" s_ties_at f fd) (T : NmA mg) : FnOk P w K mg base CX0 1 f fd ["ties", "place"] (spTiesAt K) := by
  refine F.ok scTiesAt (fun vs H Q E h => ?_) (fun cdv A' outer s H vs Q E hr h => ?_)
  · obtain ⟨a, ts, p, rfl, _⟩ := h
    rfl
  · obtain ⟨a, ts, p, rfl, hT, tl0, k⟩ := h
    have hu := hu_of hr
    refine ⟨_, pss_one (ps_ret (pe_callB call_len_seq (by rfl) T.len PySem.boot_len (pa_cons (pe_lc (own := [("one", 2), ("other", 3), ("_", 4)]) (g := (gTup K 3 (gCons (gName 2) (gCons (gName 3) (gCons (gName 4) gNil))))) (tt := _) rfl scTiesAt.nd  (pi_tup (pv 0)) (blkOk_by (own := [("one", 2), ("other", 3), ("_", 4)]) (N := nTiesAt) (sc := defScope s_ties_at) (by decide +kernel)) (fun _ _ _ _ _ => (pg_tup (by rfl) (pgs_cons (pg_name (i := 2) scTiesAt.nd rfl (Or.inl rfl)) (pgs_cons (pg_name (i := 3) scTiesAt.nd rfl (Or.inl rfl)) (pgs_cons (pg_name (i := 4) scTiesAt.nd rfl (Or.inl rfl)) pgs_nil))))) (fun _ _ _ _ _ => (pts_one (pt_cmpR (r := rIn K false) (show OpR _ (compareOp .In) (rIn K false) from op_in_seq) (pv 1) (pe_tup (pa_cons (pv 2) (pa_cons (pv 3) pa_nil))) (by rfl)))) (fun _ _ _ _ _ => (pv 2))) pa_nil))), ?_⟩
    obtain ⟨vs, hV, hA⟩ := hT
    have vl := hA.1
    refine ⟨_, rfl, a, rfl, ⟨_, hV⟩, fun D hD => ?_⟩
    refine lc_tup (K := K) (a := a) (xs := vs) (fun i H' => Same H H' ∧ H' D = some (.lst (((ts.take i).filter fun t => decide (p = t.1.1) || decide (p = t.1.2)).map fun t => V.int t.1.1))) ⟨Same.new hD, upd_same⟩ (fun i H' _ h => h.1.sqT hV) ?_ ?_
    · rintro i x H' hi ⟨s1, h1⟩
      obtain ⟨t, ht, b, c, rfl, hb, hc⟩ := hA.2 i x hi
      have il := (List.getElem?_eq_some_iff.mp ht).1
      refine ⟨b, _, rfl, s1.sqT hb, rfl, _, _, rfl, _, _, rfl, _, _, rfl, rfl, ?_⟩
      refine ⟨rfl, _, rfl, _, rfl, _, rfl, by show 2 ≤ sizeLine; decide, fun q hq => ?_⟩
      refine new_step hq fun H2 s2 e2 => ?_
      refine ⟨q, _, rfl, .inr (SqT.of e2), rfl, rfl, _, rfl, ?_⟩
      rw [in_two, if_neg Bool.false_ne_true]
      have h2 := s2 _ _ h1
      have fs := filter_snoc (f := fun t : Tie => decide (p = t.1.1) || decide (p = t.1.2)) ht
      refine ite2 (fun c => ?_) (fun c => ?_)
      · rw [if_pos c] at fs
        refine ⟨_, rfl, _, h2, ?_, (s1.trans s2).mut hD, ?_⟩
        · have := List.length_filter_le (fun t : Tie => decide (p = t.1.1) || decide (p = t.1.2)) (ts.take i)
          rw [List.length_take] at this
          rw [List.length_map, sizeLine_eq]
          omega
        · rw [upd_same, fs, List.map_append] <;> rfl
      · rw [if_neg c, List.append_nil] at fs
        exact ⟨s1.trans s2, by rw [fs]; exact h2⟩
    · rintro H' ⟨s1, h1⟩
      rw [vl, List.take_length] at h1
      refine ⟨D, _, rfl, .inl (SqL.of h1), ?_⟩
      rw [List.length_map]
      exact k H' s1
end
end Law

namespace Law
open PySem L2
def tupD (l : List Int) : PyData := .tuple (l.map .int)
theorem eqvAll_map {α : Type} [DecidableEq α] (g : α → PyData) (hg : ∀ a b, PyData.eqv (g a) (g b) = decide (a = b)) : ∀ xs ys : List α, PyData.eqvAll (xs.map g) (ys.map g) = decide (xs = ys)
  | [], [] => by simp [PyData.eqvAll]
  | [], _ :: _ => by simp [PyData.eqvAll]
  | _ :: _, [] => by simp [PyData.eqvAll]
  | x :: xs, y :: ys => by
    rw [List.map_cons, List.map_cons, PyData.eqvAll, hg, eqvAll_map g hg xs ys]
    by_cases h1 : x = y <;> by_cases h2 : xs = ys <;> simp [h1, h2]
theorem eqv_int (a b : Int) : PyData.eqv (.int a) (.int b) = decide (a = b) := by
  rw [PyData.eqv]
  rfl
theorem eqv_tupD (a b : List Int) : PyData.eqv (tupD a) (tupD b) = decide (a = b) := by
  unfold tupD
  rw [PyData.eqv]
  exact eqvAll_map PyData.int eqv_int a b
theorem lay_all {α : Type} (g : α → PyData) (n : Nat) (hg : ∀ a, (g a).canLay0 = true ∧ (g a).depth ≤ n) : ∀ xs : List α, PyData.canLayAll0 (xs.map g) = true ∧ PyData.depthAll (xs.map g) ≤ n
  | [] => by simp [PyData.canLayAll0, PyData.depthAll]
  | x :: xs => by
    obtain ⟨h1, h2⟩ := hg x
    obtain ⟨h3, h4⟩ := lay_all g n hg xs
    rw [List.map_cons, PyData.canLayAll0, PyData.depthAll, h1, h3]
    exact ⟨rfl, Nat.max_le.mpr ⟨h2, h4⟩⟩
theorem lay_int (a : Int) : (PyData.int a).canLay0 = true ∧ (PyData.int a).depth ≤ 0 := by simp [PyData.canLay0, PyData.depth]
theorem lay_tupD (a : List Int) : (tupD a).canLay0 = true ∧ (tupD a).depth ≤ 1 := by
  have h := lay_all PyData.int 0 lay_int a
  unfold tupD
  rw [PyData.canLay0, PyData.depth]
  exact ⟨h.1, by omega⟩
theorem shaped_of {d : PyData} {n : Nat} (h : d.canLay0 = true ∧ d.depth ≤ n) (hn : n ≤ 64) : SeqAt.shaped d = true := by
  unfold SeqAt.shaped
  rw [h.1, Bool.true_and, decide_eq_true (Nat.le_trans h.2 hn)]
theorem dp_ints {K : PySem.W.Frag} {H : Hp} : ∀ l : List Int, DpAll K H (l.map V.int) (l.map PyData.int)
  | [] => .nil
  | x :: l => .cons (.int x) (dp_ints l)
theorem any_take {α : Type} (f : α → Bool) : ∀ xs : List α, (xs.map f).any id = xs.any f
  | [] => rfl
  | x :: xs => by rw [List.map_cons, List.any_cons, List.any_cons, any_take f xs] <;> rfl
abbrev tabD (t : List (List Int)) : PyData := .tuple (t.map tupD)
def tieD (t : Tie) : PyData := .tuple [.int t.1.1, .int t.1.2, tabD t.2]
abbrev tiesD (ts : List Tie) : PyData := .tuple (ts.map tieD)
theorem eqv_tabD (a b : List (List Int)) : PyData.eqv (tabD a) (tabD b) = decide (a = b) := by
  rw [PyData.eqv]
  exact eqvAll_map tupD eqv_tupD a b
theorem eqv_tieD (a b : Tie) : PyData.eqv (tieD a) (tieD b) = decide (a = b) := by
  obtain ⟨⟨a1, a2⟩, a3⟩ := a
  obtain ⟨⟨b1, b2⟩, b3⟩ := b
  unfold tieD
  rw [PyData.eqv, PyData.eqvAll, PyData.eqvAll, PyData.eqvAll, PyData.eqvAll, eqv_int, eqv_int, eqv_tabD]
  by_cases h1 : a1 = b1 <;> by_cases h2 : a2 = b2 <;> by_cases h3 : a3 = b3 <;> simp [h1, h2, h3]
theorem eqv_tiesD (a b : List Tie) : PyData.eqv (tiesD a) (tiesD b) = decide (a = b) := by
  rw [PyData.eqv]
  exact eqvAll_map tieD eqv_tieD a b
theorem lay_tabD (t : List (List Int)) : (tabD t).canLay0 = true ∧ (tabD t).depth ≤ 2 := by
  have h := lay_all tupD 1 lay_tupD t
  rw [PyData.canLay0, PyData.depth]
  exact ⟨h.1, by omega⟩
theorem lay_tieD (t : Tie) : (tieD t).canLay0 = true ∧ (tieD t).depth ≤ 3 := by
  have h := lay_tabD t.2
  unfold tieD
  rw [PyData.canLay0, PyData.canLayAll0, PyData.canLayAll0, PyData.canLayAll0, PyData.canLayAll0, PyData.depth, PyData.depthAll, PyData.depthAll, PyData.depthAll, PyData.depthAll, h.1, (lay_int t.1.1).1, (lay_int t.1.2).1]
  have h1 := (lay_int t.1.1).2
  have h2 := (lay_int t.1.2).2
  exact ⟨rfl, by omega⟩
theorem lay_tiesD (ts : List Tie) : (tiesD ts).canLay0 = true ∧ (tiesD ts).depth ≤ 4 := by
  have h := lay_all tieD 3 lay_tieD ts
  rw [PyData.canLay0, PyData.depth]
  exact ⟨h.1, by omega⟩
theorem dp_all {α : Type} {K : PySem.W.Frag} {H : Hp} {R : V → α → Prop} {g : α → PyData} (hg : ∀ v x, R v x → Dp K H v (g x)) : ∀ {vs : List V} {l : List α}, AllIn R vs l → DpAll K H vs (l.map g)
  | [], [], _ => .nil
  | [], _ :: _, h => absurd h.1 (by simp)
  | _ :: _, [], h => absurd h.1 (by simp)
  | v :: vs, m :: ms, h => by
    obtain ⟨m', e, hm⟩ := h.2 0 v rfl
    cases e
    exact .cons (hg _ _ hm) (dp_all hg ⟨by simpa using h.1, fun i x hx => h.2 (i + 1) x (by simpa using hx)⟩)
theorem dp_row {K : PySem.W.Frag} {H : Hp} {v : V} {l : List Int} (h : RowAt K H v l) : Dp K H v (tupD l) := by
  obtain ⟨a, rfl, h2⟩ := h
  exact .tup h2 (dp_ints l)
theorem dp_rows {K : PySem.W.Frag} {H : Hp} {a : Addr} {t : List (List Int)} (h : RowsAt K H a t) : Dp K H (.ref a) (tabD t) := by
  obtain ⟨vs, h1, h2⟩ := h
  exact .tup h1 (dp_all (g := tupD) (fun _ _ => dp_row) h2)
theorem dp_tie {K : PySem.W.Frag} {H : Hp} {v : V} {t : Tie} (h : TieAt K H v t) : Dp K H v (tieD t) := by
  obtain ⟨a, b, rfl, h2, h3⟩ := h
  exact .tup h2 (.cons (.int _) (.cons (.int _) (.cons (dp_rows h3) .nil)))
theorem dp_ties {K : PySem.W.Frag} {H : Hp} {a : Addr} {ts : List Tie} (h : TiesAt K H a ts) : Dp K H (.ref a) (tiesD ts) := by
  obtain ⟨vs, h1, h2⟩ := h
  exact .tup h1 (dp_all (g := tieD) (fun _ _ => dp_tie) h2)
def partV : Part → V
  | .inl s => .str s
  | .inr n => .int (n : Int)
theorem mk_same {C : Addr} {H H' : Hp} {y dy : Addr} (hy : H y = none) (hdy : H dy = none) (kC : ∀ b o, b ≠ y → (upd (upd H dy (.own y)) y (.ins C dy [])) b = some o → H' b = some o) : Same H H' := fun b o e =>
  kC b o (ne_of_none e hy) (by rw [upd_ne (ne_of_none e hy), upd_ne (ne_of_none e hdy)]; exact e)
theorem mk_same0 {C : Addr} {H : Hp} {y dy : Addr} (hy : H y = none) (hdy : H dy = none) : Same H (upd (upd H dy (.own y)) y (.ins C dy [])) := fun b o e => by
  rw [upd_ne (ne_of_none e hy), upd_ne (ne_of_none e hdy)]
  exact e
end Law
namespace L2
open PySem PySem.Spec PyProof.Rows
/-! ### what is wrong with a model -/
def lastP (ts : List Tie) (i : Nat) : Int × Int := if i = 0 then (0, 0) else match ts[i - 1]? with
  | some t => t.1
  | none => (0, 0)
def gT (many levels : Int) (ts : List Tie) (i : Nat) : Bool := match ts[i]? with
  | some t => tieB many levels t && !leP t.1 (lastP ts i)
  | none => true
def badT (many levels : Int) (ts : List Tie) : Option Nat := firstNo ((List.range ts.length).map fun i => if gT many levels ts i = true then some () else none)
def crowdB (many : Int) (ts : List Tie) : Bool := (List.range many.toNat).any fun p => decide (4 < cntT ts (p : Nat))
def wrongM (m : Mdl) : Option Part := if ¬ (1 ≤ m.many ∧ m.many ≤ 12) then some (.inl "many") else if ¬ (1 ≤ m.levels ∧ m.levels ≤ 4) then some (.inl "levels") else if tabB m.many m.levels m.ws = false then some (.inl "weights") else
  match badT m.many m.levels m.ts with
  | some i => some (.inr i)
  | none => if crowdB m.many m.ts = true then some (.inl "crowded") else none
theorem rng_some {g : Nat → Bool} {n i : Nat} (hi : i < n) (h : g i = false) (hj : ∀ j, j < i → g j = true) : firstNo ((List.range n).map fun i => if g i = true then some () else none) = some i := by
  refine firstNo_of (by rw [List.getElem?_map, List.getElem?_range hi]; show some (if g i = true then some () else none) = _; rw [h] <;> rfl) fun j jl => ⟨(), ?_⟩
  rw [List.getElem?_map, List.getElem?_range (by omega)]
  show some (if g j = true then some () else none) = _
  rw [hj j jl] <;> rfl
theorem rng_none {g : Nat → Bool} {n : Nat} (h : ∀ j, j < n → g j = true) : firstNo ((List.range n).map fun i => if g i = true then some () else none) = none := by
  refine firstNo_all fun j o hj => ⟨(), ?_⟩
  rw [List.getElem?_map] at hj
  obtain ⟨k, h1, h2⟩ := Option.map_eq_some_iff.mp hj
  have jl := (List.getElem?_eq_some_iff.mp h1).1
  rw [List.length_range] at jl
  rw [List.getElem?_range jl] at h1
  cases h1
  rw [← h2, h _ jl] <;> rfl
theorem rng_all {g : Nat → Bool} {n : Nat} (h : firstNo ((List.range n).map fun i => if g i = true then some () else none) = none) : ∀ j, j < n → g j = true := fun j jl => by
  have z := firstNo_none h
  have e : ((List.range n).map fun i => if g i = true then some () else none)[j]? = some (if g j = true then some () else none) := by rw [List.getElem?_map, List.getElem?_range jl] <;> rfl
  rw [z, List.getElem?_map] at e
  obtain ⟨u, _, h2⟩ := Option.map_eq_some_iff.mp e
  cases hg : g j with
  | true => rfl
  | false => rw [hg] at h2; cases h2
theorem lex2 (a b c d : Int) : Ob.lexAt (fun j => decide (([a, b] : List Int).getD j 0 = ([c, d] : List Int).getD j 0)) (fun j => decide (([a, b] : List Int).getD j 0 ≤ ([c, d] : List Int).getD j 0)) (decide (([a, b] : List Int).length ≤ ([c, d] : List Int).length)) 0 (min ([a, b] : List Int).length ([c, d] : List Int).length) = leP (a, b) (c, d) := by
  show Ob.lexAt _ _ _ 0 2 = _
  rw [Ob.lexAt_succ, Ob.lexAt_succ, Ob.lexAt_zero]
  show (if decide (a = c) = true then (if decide (b = d) = true then decide (2 ≤ 2) else decide (b ≤ d)) else decide (a ≤ c)) = _
  unfold leP
  by_cases h1 : a = c
  · rw [if_pos (decide_eq_true h1), if_pos h1]
    by_cases h2 : b = d
    · rw [if_pos (decide_eq_true h2), decide_eq_true (show b ≤ d by omega)] <;> rfl
    · rw [if_neg (by simpa using h2)]
  · rw [if_neg (by simpa using h1), if_neg h1]
theorem cut2 (a b c : V) : cutV [a, b, c] none (some 2) = [a, b] := rfl
end L2
namespace L2
open PySem PySem.Spec PyProof.Rows
theorem leP_code {a b : Int × Int} (ha : 0 ≤ a.2 ∧ a.2 < 12) (hb : 0 ≤ b.2 ∧ b.2 < 12) (h : leP a b = false) : b.1 * 12 + b.2 < a.1 * 12 + a.2 := by
  unfold leP at h
  by_cases c : a.1 = b.1
  · rw [if_pos c] at h
    have := of_decide_eq_false h
    omega
  · rw [if_neg c] at h
    have := of_decide_eq_false h
    omega
theorem ties_few {many levels : Int} {ts : List Tie} (hm : many ≤ 12) (h : ∀ j, j < ts.length → gT many levels ts j = true) (nn : ∀ t ∈ ts, 0 ≤ t.1.1 ∧ 0 ≤ t.1.2) : ts.length ≤ 144 := by
  have get : ∀ (i : Nat) (t : Tie), ts[i]? = some t → t.1.2 < many ∧ t.1.1 < t.1.2 ∧ tabB levels levels t.2 = true ∧ leP t.1 (lastP ts i) = false := fun i t ht => by
    have g := h i (List.getElem?_eq_some_iff.mp ht).1
    unfold gT at g
    rw [ht] at g
    have g : (tieB many levels t && !leP t.1 (lastP ts i)) = true := g
    unfold tieB at g
    simp only [Bool.and_eq_true, Bool.not_eq_true', decide_eq_true_eq] at g
    exact ⟨g.1.1, g.1.2.1, g.1.2.2, g.2⟩
  have code : ∀ (i : Nat) (t : Tie), ts[i]? = some t → (i : Int) ≤ t.1.1 * 12 + t.1.2 := fun i => by
    induction i with
    | zero =>
      intro t ht
      obtain ⟨a, b⟩ := nn t (List.mem_of_getElem? ht)
      omega
    | succ i ih =>
      intro t ht
      have il := (List.getElem?_eq_some_iff.mp ht).1
      have hp := List.getElem?_eq_getElem (l := ts) (i := i) (by omega)
      have := ih _ hp
      obtain ⟨g1, g2, _, g3⟩ := get _ t ht
      obtain ⟨p1, p2, _, _⟩ := get _ _ hp
      have lp : lastP ts (i + 1) = ts[i].1 := by
        unfold lastP
        rw [if_neg (Nat.succ_ne_zero i), Nat.add_sub_cancel, hp]
      rw [lp] at g3
      obtain ⟨a, b⟩ := nn t (List.mem_of_getElem? ht)
      obtain ⟨c, d⟩ := nn _ (List.mem_of_getElem? hp)
      have := leP_code ⟨b, by omega⟩ ⟨d, by omega⟩ g3
      omega
  rcases Nat.eq_zero_or_pos ts.length with z | z
  · omega
  · have hp := List.getElem?_eq_getElem (l := ts) (i := ts.length - 1) (by omega)
    have := code _ _ hp
    obtain ⟨g1, g2, _, _⟩ := get _ _ hp
    obtain ⟨a, b⟩ := nn _ (List.mem_of_getElem? hp)
    omega
theorem tab_rows {rows cols : Int} {t : List (List Int)} (h : tabB rows cols t = true) : (t.length : Int) = rows ∧ ∀ l ∈ t, (l.length : Int) = cols ∧ ∀ x ∈ l, x ≤ 1000 := by
  unfold tabB at h
  simp only [Bool.and_eq_true, decide_eq_true_eq, List.all_eq_true] at h
  exact ⟨h.1, fun l hl => ⟨(h.2 l hl).1, (h.2 l hl).2⟩⟩
theorem wrong_ok {m : Mdl} (h : wrongM m = none) : (1 ≤ m.many ∧ m.many ≤ 12) ∧ (1 ≤ m.levels ∧ m.levels ≤ 4) ∧ tabB m.many m.levels m.ws = true ∧ (∀ j, j < m.ts.length → gT m.many m.levels m.ts j = true) ∧ crowdB m.many m.ts = false := by
  unfold wrongM at h
  by_cases c1 : 1 ≤ m.many ∧ m.many ≤ 12
  · rw [if_neg (fun z => z c1)] at h
    by_cases c2 : 1 ≤ m.levels ∧ m.levels ≤ 4
    · rw [if_neg (fun z => z c2)] at h
      cases c3 : tabB m.many m.levels m.ws with
      | false => rw [if_pos c3] at h; cases h
      | true =>
        rw [if_neg (by rw [c3]; exact Bool.noConfusion)] at h
        cases c4 : badT m.many m.levels m.ts with
        | some i => rw [c4] at h; cases h
        | none =>
          rw [c4] at h
          refine ⟨c1, c2, rfl, rng_all c4, ?_⟩
          cases c5 : crowdB m.many m.ts with
          | false => rfl
          | true =>
            have h : (if crowdB m.many m.ts = true then some (Sum.inl "crowded") else none : Option Part) = none := h
            rw [if_pos c5] at h
            cases h
    · rw [if_pos c2] at h; cases h
  · rw [if_pos c1] at h; cases h
theorem ok_sm {m : Mdl} (h : wrongM m = none) (hw : ∀ l ∈ m.ws, l ≠ [] ∧ ∀ x ∈ l, 0 ≤ x) (ht : ∀ t ∈ m.ts, 0 ≤ t.1.1 ∧ 0 ≤ t.1.2 ∧ t.2 ≠ [] ∧ ∀ l ∈ t.2, l ≠ [] ∧ ∀ x ∈ l, 0 ≤ x) : MdlSm m := by
  obtain ⟨c1, c2, c3, c4, _⟩ := wrong_ok h
  obtain ⟨w1, w2⟩ := tab_rows c3
  refine ⟨by omega, c1.2, by omega, c2.2, by omega, fun l hl => ?_, ties_few c1.2 c4 fun t h => ⟨(ht t h).1, (ht t h).2.1⟩, fun t hm => ?_⟩
  · obtain ⟨a, b⟩ := w2 l hl
    obtain ⟨c, d⟩ := hw l hl
    exact ⟨by omega, c, fun x hx => ⟨d x hx, b x hx⟩⟩
  · obtain ⟨i, hi, rfl⟩ := List.mem_iff_getElem.mp hm
    have g := c4 i hi
    unfold gT at g
    rw [List.getElem?_eq_getElem hi] at g
    have g : (tieB m.many m.levels m.ts[i] && !leP m.ts[i].1 (lastP m.ts i)) = true := g
    unfold tieB at g
    simp only [Bool.and_eq_true, Bool.not_eq_true', decide_eq_true_eq] at g
    obtain ⟨⟨g1, g2, g3⟩, _⟩ := g
    obtain ⟨r1, r2⟩ := tab_rows g3
    obtain ⟨a, b, c, d⟩ := ht _ hm
    exact ⟨⟨a, by omega⟩, ⟨b, by omega⟩, by omega, c, fun l hl => ⟨by have := (r2 l hl).1; omega, (d l hl).1, fun x hx => ⟨(d l hl).2 x hx, (r2 l hl).2 x hx⟩⟩⟩
theorem leP_0 {t : Int × Int} (h0 : 0 ≤ t.1) (h1 : t.1 < t.2) : leP t (0, 0) = false := by
  unfold leP
  by_cases c : t.1 = 0
  · rw [if_pos c]
    exact decide_eq_false (by omega)
  · rw [if_neg c]
    exact decide_eq_false (by omega)
theorem set_rng (M : Nat) (f : Nat → V) (j : Nat) (v : V) : ((List.range M).map f).set j v = (List.range M).map fun p => if p = j then v else f p := by
  refine List.ext_getElem? fun i => ?_
  rw [List.getElem?_set, List.length_map, List.length_range, List.getElem?_map, List.getElem?_map]
  by_cases h : j = i
  · rw [if_pos h]
    by_cases l : j < M
    · rw [if_pos l, List.getElem?_range (by omega)]
      show _ = some (if i = j then v else f i)
      rw [if_pos h.symm]
    · rw [if_neg l, List.getElem?_eq_none (by rw [List.length_range]; omega)] <;> rfl
  · rw [if_neg h]
    by_cases l : i < M
    · rw [List.getElem?_range l]
      show some (f i) = some (if i = j then v else f i)
      rw [if_neg (fun z => h z.symm)]
    · rw [List.getElem?_eq_none (by rw [List.length_range]; omega)] <;> rfl
theorem cnt_snoc {ts : List Tie} {i : Nat} {t : Tie} (h : ts[i]? = some t) (p : Int) : cntT (ts.take (i + 1)) p = cntT (ts.take i) p + if p = t.1.1 ∨ p = t.1.2 then 1 else 0 := by
  unfold cntT
  rw [filter_snoc h, List.length_append]
  congr 1
  by_cases c : p = t.1.1 ∨ p = t.1.2
  · rw [if_pos c, if_pos (by rcases c with c | c <;> simp [c])]
    rfl
  · rw [if_neg c, if_neg (fun z => c (by simpa using z))]
    rfl
theorem rep_rng (n : Nat) (x : V) : (List.replicate n [x]).flatten = (List.range n).map fun _ => x := by
  induction n with
  | zero => rfl
  | succ n ih => rw [List.replicate_succ', List.flatten_append, ih, List.range_succ, List.map_append] <;> rfl
def rTupOf (K : PySem.W.Frag) : List V → Hp → VK → Prop := fun xs H Q => ∃ p ys, xs = [.ref p] ∧ ((SqL K H p ys ∧ ∀ l, H l = none → Q (.ref l) (upd H l (.tup ys))) ∨ (SqT K H p ys ∧ Q (.ref p) H))
/-- a list of ties in the making, all of them right -/
structure TsOk (many levels : Int) (ts : List Tie) : Prop where
  g : ∀ j, j < ts.length → gT many levels ts j = true
  n : ∀ t ∈ ts, 0 ≤ t.1.1 ∧ 0 ≤ t.1.2 ∧ t.2 ≠ [] ∧ ∀ l ∈ t.2, l ≠ [] ∧ ∀ x ∈ l, 0 ≤ x
theorem TsOk.nil {many levels : Int} : TsOk many levels [] := ⟨fun j hj => absurd hj (Nat.not_lt_zero _), fun t ht => absurd ht List.not_mem_nil⟩
theorem lastP_app {ts : List Tie} {t : Tie} {j : Nat} (hj : j ≤ ts.length) : lastP (ts ++ [t]) j = lastP ts j := by
  unfold lastP
  by_cases c : j = 0
  · rw [if_pos c, if_pos c]
  · rw [if_neg c, if_neg c, List.getElem?_append_left (by omega)]
theorem TsOk.snoc {many levels : Int} {ts : List Tie} {t : Tie} (h : TsOk many levels ts) (hb : tieB many levels t = true) (hn : 0 ≤ t.1.1 ∧ 0 ≤ t.1.2 ∧ t.2 ≠ [] ∧ ∀ l ∈ t.2, l ≠ [] ∧ ∀ x ∈ l, 0 ≤ x) (hl : ∀ t' ∈ ts, t'.1.1 < t.1.1 ∨ (t'.1.1 = t.1.1 ∧ t'.1.2 < t.1.2)) : TsOk many levels (ts ++ [t]) := by
  refine ⟨fun j hj => ?_, fun u hu => ?_⟩
  · rw [List.length_append] at hj
    have hj : j < ts.length + 1 := hj
    by_cases c : j < ts.length
    · have g := h.g j c
      unfold gT at g ⊢
      rw [List.getElem?_append_left c, lastP_app (by omega)]
      exact g
    · have e : j = ts.length := by omega
      subst e
      unfold gT
      rw [List.getElem?_append_right (Nat.le_refl _), Nat.sub_self, lastP_app (Nat.le_refl _)]
      show (tieB many levels t && !leP t.1 (lastP ts ts.length)) = true
      rw [hb, Bool.true_and]
      have : leP t.1 (lastP ts ts.length) = false := by
        unfold lastP
        by_cases z : ts.length = 0
        · rw [if_pos z]
          unfold tieB at hb
          simp only [Bool.and_eq_true, decide_eq_true_eq] at hb
          exact leP_0 hn.1 hb.2.1
        · rw [if_neg z, List.getElem?_eq_getElem (show ts.length - 1 < ts.length by omega)]
          show leP t.1 (ts[ts.length - 1]).1 = false
          have := hl _ (List.getElem_mem (show ts.length - 1 < ts.length by omega))
          unfold leP
          rcases this with q | ⟨q1, q2⟩
          · rw [if_neg (by omega)]
            exact decide_eq_false (by omega)
          · rw [if_pos q1.symm]
            exact decide_eq_false (by omega)
      rw [this] <;> rfl
  · rcases List.mem_append.mp hu with hu | hu
    · exact h.n u hu
    · rw [List.mem_singleton.mp hu]
      exact hn
theorem cnt_app (ts : List Tie) (t : Tie) (p : Int) : cntT (ts ++ [t]) p = cntT ts p + if p = t.1.1 ∨ p = t.1.2 then 1 else 0 := by
  have h : (ts ++ [t])[ts.length]? = some t := by rw [List.getElem?_append_right (Nat.le_refl _), Nat.sub_self] <;> rfl
  have z := cnt_snoc h p
  rw [List.take_of_length_le (by rw [List.length_append]; exact Nat.le_refl _), List.take_left] at z
  exact z
theorem made_ok {m : Mdl} (c1 : 1 ≤ m.many ∧ m.many ≤ 12) (c2 : 1 ≤ m.levels ∧ m.levels ≤ 4) (c3 : tabB m.many m.levels m.ws = true) (c4 : TsOk m.many m.levels m.ts) (c5 : ∀ p : Nat, p < m.many.toNat → cntT m.ts (p : Int) ≤ 4) : wrongM m = none := by
  unfold wrongM
  rw [if_neg (fun z => z c1), if_neg (fun z => z c2), if_neg (by rw [c3]; exact Bool.noConfusion)]
  have bm : badT m.many m.levels m.ts = none := rng_none c4.g
  rw [bm]
  show (if crowdB m.many m.ts = true then _ else _) = _
  have : crowdB m.many m.ts = false := by
    unfold crowdB
    refine List.any_eq_false.mpr fun p hp => ?_
    have := c5 p (List.mem_range.mp hp)
    intro z
    have := of_decide_eq_true z
    omega
  rw [if_neg (by rw [this]; exact Bool.noConfusion)]
theorem gT_get {many levels : Int} {ts : List Tie} {i : Nat} {t : Tie} (h : gT many levels ts i = true) (ht : ts[i]? = some t) : tieB many levels t = true ∧ leP t.1 (lastP ts i) = false := by
  unfold gT at h
  rw [ht] at h
  have h : (tieB many levels t && !leP t.1 (lastP ts i)) = true := h
  simp only [Bool.and_eq_true, Bool.not_eq_true'] at h
  exact h
end L2
namespace Law
open PySem L2
theorem rowAt_stp {K : PySem.W.Frag} {p : Addr} {H H' : Hp} {v : V} {l : List Int} (S : Stp p H H') (hh : HandAt H p) (h : RowAt K H v l) : RowAt K H' v l := by
  obtain ⟨a, h1, h2⟩ := h
  exact ⟨a, h1, S.sqT hh h2⟩
theorem rowsAt_stp {K : PySem.W.Frag} {p : Addr} {H H' : Hp} {a : Addr} {t : List (List Int)} (S : Stp p H H') (hh : HandAt H p) (h : RowsAt K H a t) : RowsAt K H' a t := by
  obtain ⟨vs, h1, h2⟩ := h
  exact ⟨vs, S.sqT hh h1, h2.mono fun _ _ => rowAt_stp S hh⟩
theorem tieAt_stp {K : PySem.W.Frag} {p : Addr} {H H' : Hp} {v : V} {t : Tie} (S : Stp p H H') (hh : HandAt H p) (h : TieAt K H v t) : TieAt K H' v t := by
  obtain ⟨a, b, h1, h2, h3⟩ := h
  exact ⟨a, b, h1, S.sqT hh h2, rowsAt_stp S hh h3⟩
theorem rowOk_tab {lv : Int} {t : List (List Int)} {rows : Int} (hl : (t.length : Int) = rows) (h : ∀ l ∈ t, (l.length : Int) = lv ∧ ∀ x ∈ l, 0 ≤ x ∧ x ≤ 1000) : tabB rows lv t = true := by
  unfold tabB
  rw [decide_eq_true hl, Bool.true_and, List.all_eq_true]
  intro l hm
  obtain ⟨a, b⟩ := h l hm
  rw [decide_eq_true a, Bool.true_and, List.all_eq_true]
  exact fun x hx => decide_eq_true (b x hx).2
theorem mrgIf {c : TT} {a b : TE} {σ : L2.St} {H : Hp} {Q : VK} (R : V → Hp → Prop) (h : ∀ Q' : VK, (∀ x H1, R x H1 → Q' x H1) → tIf c a b σ H Q') (key : ∀ x H1, R x H1 → Q x H1) : tIf c a b σ H Q := h Q key
def mdK (many levels : Int) (w t : Addr) : List (Key × V) := [(Sum.inr ("many" : Str), .int many), (Sum.inr ("levels" : Str), .int levels), (Sum.inr ("weights" : Str), .ref w), (Sum.inr ("ties" : Str), .ref t)]
theorem k_ML : ¬ ((Sum.inr ("many" : Str) : Key) = Sum.inr ("levels" : Str)) := sne (by decide +kernel)
theorem k_MW : ¬ ((Sum.inr ("many" : Str) : Key) = Sum.inr ("weights" : Str)) := sne (by decide +kernel)
theorem k_MT : ¬ ((Sum.inr ("many" : Str) : Key) = Sum.inr ("ties" : Str)) := sne (by decide +kernel)
theorem k_LW : ¬ ((Sum.inr ("levels" : Str) : Key) = Sum.inr ("weights" : Str)) := sne (by decide +kernel)
theorem k_LT : ¬ ((Sum.inr ("levels" : Str) : Key) = Sum.inr ("ties" : Str)) := sne (by decide +kernel)
theorem k_WT : ¬ ((Sum.inr ("weights" : Str) : Key) = Sum.inr ("ties" : Str)) := sne (by decide +kernel)
section
variable (m l : Int) (w t : Addr)
theorem gv_m : valV (mdK m l w t) (Sum.inr ("many" : Str)) = some (.int m) := valV_pos rfl
theorem gv_l : valV (mdK m l w t) (Sum.inr ("levels" : Str)) = some (.int l) := (valV_neg k_ML).trans (valV_pos rfl)
theorem gv_w : valV (mdK m l w t) (Sum.inr ("weights" : Str)) = some (.ref w) := (valV_neg k_MW).trans ((valV_neg k_LW).trans (valV_pos rfl))
theorem gv_t : valV (mdK m l w t) (Sum.inr ("ties" : Str)) = some (.ref t) := (valV_neg k_MT).trans ((valV_neg k_LT).trans ((valV_neg k_WT).trans (valV_pos rfl)))
end
section
variable {H : Hp} {p w t : Addr} {m l : Int} (h : H p = some (.dK (mdK m l w t)))
include h
theorem gd_m : DGet H p (.str "many") (some (.int m)) := by
  have q := DGet.k (k := Sum.inr ("many" : Str)) h
  rw [gv_m] at q
  exact q
theorem gd_l : DGet H p (.str "levels") (some (.int l)) := by
  have q := DGet.k (k := Sum.inr ("levels" : Str)) h
  rw [gv_l] at q
  exact q
theorem gd_w : DGet H p (.str "weights") (some (.ref w)) := by
  have q := DGet.k (k := Sum.inr ("weights" : Str)) h
  rw [gv_w] at q
  exact q
theorem gd_t : DGet H p (.str "ties") (some (.ref t)) := by
  have q := DGet.k (k := Sum.inr ("ties" : Str)) h
  rw [gv_t] at q
  exact q
end
theorem md_keys (m l : Int) (w t : Addr) : ((mdK m l w t).map (·.1)).Nodup := by
  show ([Sum.inr ("many" : Str), Sum.inr ("levels" : Str), Sum.inr ("weights" : Str), Sum.inr ("ties" : Str)] : List Key).Nodup
  simp only [List.nodup_cons, List.mem_cons, List.not_mem_nil, or_false, not_or, k_ML, k_MW, k_MT, k_LW, k_LT, k_WT, not_false_eq_true, and_self, List.nodup_nil]
/-- a dict of a model's parts -/
def DicAt (K : PySem.W.Frag) (H : Hp) (d : Addr) (m : Mdl) : Prop := ∃ w t, H d = some (.dK (mdK m.many m.levels w t)) ∧ RowsAt K H w m.ws ∧ TiesAt K H t m.ts
theorem DicAt.same {K : PySem.W.Frag} {H H' : Hp} {d : Addr} {m : Mdl} (s : Same H H') (h : DicAt K H d m) : DicAt K H' d m := by
  obtain ⟨w, t, h1, h2, h3⟩ := h
  exact ⟨w, t, s _ _ h1, h2.same s, h3.same s⟩
theorem sm_ok {m : Mdl} (h : MdlSm m) : TabOk m.ws ∧ ∀ t ∈ m.ts, TieOk t := by
  refine ⟨⟨Nat.le_trans h.wl (by decide), fun l hl => ?_⟩, fun t ht => ?_⟩
  · obtain ⟨a, _, b⟩ := h.wr l hl
    exact ⟨Nat.le_trans a (by decide), fun x hx => (b x hx).1⟩
  · obtain ⟨a, b, c, _, d⟩ := h.tr t ht
    exact ⟨a.1, b.1, Nat.le_trans c (by decide), fun l hl => ⟨Nat.le_trans (d l hl).1 (by decide), fun x hx => ((d l hl).2.2 x hx).1⟩⟩
theorem dicAt_stp {K : PySem.W.Frag} {p d : Addr} {H H' : Hp} {m : Mdl} (S : Stp p H H') (hh : HandAt H p) (n : d ≠ p) (h : DicAt K H d m) : DicAt K H' d m := by
  obtain ⟨w, t, h1, h2, h3⟩ := h
  obtain ⟨vs, h4, h5⟩ := h3
  exact ⟨w, t, S.keep _ _ n h1, rowsAt_stp S hh h2, vs, S.sqT hh h4, h5.mono fun _ _ => tieAt_stp S hh⟩
end Law
namespace PySem
namespace LawEnum
open AutoSeq1 (wpAny_loadPart')
theorem meets_enumerate_newT (l : Addr) (items : Array Value) (n : Nat) (dct : Option Addr) (sl : Array (Option Value)) :
    Meets (Builtin.«enumerate.__new__» ⟨[.type "enumerate", .ref l], []⟩) (fun _ R s => s.heap.get? l = some { cls := .type "tuple", dict := dct, data := .seq items n, slots := sl } ∧
      R (.ok (.ret (.ref (s.heap.push { cls := .type "tuple_iterator", data := .fields #[.ref l, .int 0 0] }).objs.size)))
        { s with heap := (s.heap.push { cls := .type "tuple_iterator", data := .fields #[.ref l, .int 0 0] }).push { cls := .type "enumerate", data := .fields #[.none, .bool false, .ref s.heap.objs.size, rawInt 0, .none, .none] } }) :=
  .of_wp fun prog w A R s h => by
    obtain ⟨hp, g, d, tk, os⟩ := s; obtain ⟨hl, h⟩ := h
    have hsub := sub_enumerate
    have hL : Heap.IsTuple (Shared.heap ⟨hp, g, d, tk, os⟩) l items := ⟨_, hl, rfl, n, rfl⟩
    wp_walk using wpAny_loadPart' hl
    refine wpAny_stack_any fun st => wpAny_pure ?_
    split
    · rename_i c _ _ _ _ _
      cases (c == Value.type "enumerate")
      · wp_walk using wpAny_loadPart' hl, wpAny_pyIter_tuple hL
        exact ⟨_, rfl, h⟩
      · wp_walk using wpAny_loadPart' hl, wpAny_pyIter_tuple hL
        exact ⟨_, rfl, h⟩
    · wp_walk using wpAny_loadPart' hl, wpAny_pyIter_tuple hL
      exact ⟨_, rfl, h⟩
section
variable {prog : Program} {w : World} {A : Around} {E : Value → Shared → Prop} {s : Shared}
theorem call_enumerate_tuple {l : Addr} {items : Array Value} {Q : Value → Shared → Prop} (hL : s.heap.IsTuple l items)
    (h : ∀ h', IsEnum h' (s.heap.objs.size + 1) s.heap.objs.size 0 .none → h'.IsTupleIter s.heap.objs.size l 0 → h'.objs.size = s.heap.objs.size + 2 →
      (∀ b o, s.heap.get? b = some o → h'.get? b = some o) → Q (.ref (s.heap.objs.size + 1)) { s with heap := h' }) :
    wpAny (model prog w) A (call (.type "enumerate") [.ref l]) Q E s := by
  obtain ⟨⟨c, dct, dt, sl⟩, hl, hc, n, hd⟩ := hL
  replace hc : c = .type "tuple" := hc
  replace hd : dt = .seq items n := hd
  subst hc hd
  refine callType_new F.called_enumerate (by decide) (F.typeCall_enumerate_1 _) (F.newCall_enumerate_1 _) (fun obj => F.args_object_init_2 obj _) F.entry_enumerate_new
    (meets_enumerate_newT l items n dct sl) ⟨hl, ?_⟩
  have hz : (s.heap.push { cls := .type "tuple_iterator", data := .fields #[.ref l, .int 0 0] }).objs.size = s.heap.objs.size + 1 := Heap.size_push ..
  show _ ∧ _
  rw [hz]
  have he : IsEnum ((s.heap.push { cls := .type "tuple_iterator", data := .fields #[.ref l, .int 0 0] }).push
      { cls := .type "enumerate", data := .fields #[.none, .bool false, .ref s.heap.objs.size, rawInt 0, .none, .none] }) (s.heap.objs.size + 1) s.heap.objs.size 0 .none := by
    have := Heap.get?_push_size (s.heap.push { cls := .type "tuple_iterator", data := .fields #[.ref l, .int 0 0] })
      (o := { cls := .type "enumerate", data := .fields #[.none, .bool false, .ref s.heap.objs.size, rawInt 0, .none, .none] }) rfl
    rw [hz] at this; exact this
  refine ⟨⟨_, he, rfl⟩, h _ he ⟨_, Heap.get?_push_of_some _ (Heap.get?_push_size _ rfl), rfl, rfl⟩ (by rw [Heap.size_push, hz]) fun b o x => Heap.get?_push_of_some _ (Heap.get?_push_of_some _ x)⟩
end
theorem draws_end {prog : Program} {w : World} {A : Around} (hh : A.handled = none) (it t : Addr) (items : Array Value) (i : Nat) (hx : items[i]? = none) :
    Draws prog w A it [it, t] 0 (fun _ _ => True) (fun _ h => h.IsTupleIter it t i ∧ h.IsTuple t items) where
  live := fun _ _ st => let ⟨o, ho, _⟩ := st.1; ⟨o, ho⟩
  frame := fun _ _ _ st hk => ⟨st.1.at fun o e => hk it (by simp) o e, st.2.at fun o e => hk t (by simp) o e⟩
  item := fun i s Q E hi st hQ => absurd hi (Nat.not_lt_zero i)
  done := fun s Q E st hE => wpAny_nextOf_tuple_end hh st.1 st.2 hx hE
end LawEnum
end PySem
namespace L2
open PySem PySem.Spec PyProof.Rows
/-- the tuple at a, item by item, each in a new pair with its number -/
def IteT (K : PySem.W.Frag) (a : Addr) : It :=
  ⟨fun i H => ∃ (xs : List V) (x : V), SqT K H a xs ∧ xs[i]? = some x, fun i H v H' => ∃ T x, v = .ref T ∧ H T = none ∧ H' = upd H T (.tup [.int (i : Nat), x]) ∧ ∀ xs, SqT K H a xs → xs[i]? = some x, fun i H => ∃ xs : List V, SqT K H a xs ∧ xs.length ≤ i⟩
theorem turn_enumT {P : Program} {w : World} {K : PySem.W.Frag} {elts : List Expr} {kk : Nat} {tpos : Pos} (a e it : Addr) :
    Turn P w K (.Tuple elts kk tpos) (IteT K a) [e, it] e (fun i h => (∃ old, IsEnum h e it ((i : Nat) : Int) old) ∧ h.IsTupleIter it a i ∧ e ≠ it ∧ a ≠ it ∧ e ≠ a) where
  mem := by simp
  obj := fun i h st b hb => by
    obtain ⟨⟨old, he⟩, ⟨o, ho, hc, hd⟩, _⟩ := st
    have e' : b = e ∨ b = it := by simpa using hb
    rcases e' with z | z
    · rw [z]; exact ⟨_, he, fun v q => nomatch q⟩
    · rw [z]; exact ⟨o, ho, fun v q => by rw [hd] at q; cases q⟩
  keep := fun i h h' st k => let ⟨⟨old, he⟩, hi, hne, h1, h2⟩ := st; ⟨⟨old, k e (by simp) _ he⟩, hi.at fun o q => k it (by simp) o q, hne, h1, h2⟩
  item := by
    intro X hP hw hK hc i pins s σ H E I hf st hg
    subst hP hw hK
    obtain ⟨⟨old, he⟩, hit, hne, hai, hea⟩ := st
    obtain ⟨xs, x, hq, hx⟩ := hg
    obtain ⟨its, rv, p, hz⟩ := I.tuple hq
    obtain ⟨u, hu, ru⟩ := rv.get hx
    have hel : e < s.heap.objs.size := Heap.lt_size he
    have hil : it < s.heap.objs.size := by obtain ⟨_, q, _⟩ := hit; exact Heap.lt_size q
    have hlt : i < its.toArray.size := by
      have z := (List.getElem?_eq_some_iff.mp hu).1
      simpa using z
    have D := Draws.tuple (prog := X.prog) (w := X.w) (A := X.A.in1) (I.ok.hd hc) it a hai its.toArray
    refine wpAny_pyNext_enum_itemD D he ⟨hit, p⟩ hlt hne (by simp [hne, hea]) fun x' h' tk hPx ho hit' hT hsz hk => ?_
    have ex : x' = u := by
      have z : its.toArray[i]? = some x' := hPx
      have z2 : its.toArray[i]? = some u := by simpa using hu
      rw [z2] at z
      exact (Option.some.inj z).symm
    subst ex
    refine ⟨_, rfl, wpAny_letOwnedTupleGo_enum (s := { s with heap := h', toks := tk + 1 }) ho fun h'' he' sb => ?_⟩
    have hT2 : h''.get? s.heap.objs.size = some { cls := .type "tuple", data := .seq #[.int i tk, x'] } := (sb.2 _ (Nat.ne_of_gt hel)).trans hT
    have new : ObjOk X.prog X.w (upd H s.heap.objs.size (.tup [.int (i : Nat), x])) h'' s.heap.objs.size (.tup [.int (i : Nat), x]) :=
      ⟨by show 2 ≤ sizeLine; decide, [.int i tk, x'], .cons ⟨_, rfl⟩ (.cons ru .nil), ⟨_, hT2, rfl, _, rfl⟩⟩
    have I1 : Inv X pins σ (upd H s.heap.objs.size (.tup [.int (i : Nat), x])) { s with heap := h'', toks := tk + 1 } :=
      I.turnedNew (ch := [e, it]) (fun b ob hb q => (sb.2 b (fun z => hb (by simp [z]))).trans (hk b ob (fun z => hb (by simp [z])) (fun z => hb (by simp [z])) q)) hf (Nat.le_refl _) new
    refine ⟨.ref s.heap.objs.size, _, I1, rfl, ⟨_, x, rfl, I.hok.fresh (Nat.le_refl _), rfl, fun ys hy => by rw [I.tuple_inj hy hq]; exact hx⟩, ⟨⟨x', ?_⟩, hit'.1.at fun o q => (sb.2 it (Ne.symm hne)).trans q, hne, hai, hea⟩, fun b hb => ?_⟩
    · have e1 : ((i + 1 : Nat) : Int) = (i : Int) + 1 := by omega
      rw [e1]; exact he'
    · have hb' : b < s.heap.objs.size := by
        have e' : b = e ∨ b = it := by simpa using hb
        rcases e' with z | z
        · rw [z]; exact hel
        · rw [z]; exact hil
      rw [upd_ne (Nat.ne_of_lt hb')]
      exact (hf b hb).1
  done := by
    intro X hP hw hK hc i pins s σ H E I hf st hg
    subst hP hw hK
    obtain ⟨⟨old, he⟩, hit, hne, hai, hea⟩ := st
    obtain ⟨xs, hq, hx⟩ := hg
    obtain ⟨its, rv, p, hz⟩ := I.tuple hq
    obtain ⟨f0, f1, f2, f3, f4, f5⟩ := hf it (by simp)
    have hl := rv.length
    have D := LawEnum.draws_end (prog := X.prog) (w := X.w) (A := X.A.in1) (I.ok.hd hc) it a its.toArray i (by simp; omega)
    exact wpAny_pyNext_enum_endD D he ⟨hit, p⟩ fun h' eb => ⟨rfl, I.turned (t' := s.toks) (fun b o hb q => eb b o hb q) f0 f1 f3 f4 f5⟩
  self := fun A i s Q E st h => let ⟨⟨_, he⟩, _⟩ := st; wpAny_pyIter_enum he h
def iEnumT (K : PySem.W.Frag) (ta : TA) : TI := fun σ H R => ta σ H fun vs H1 => ∃ a xs, vs = [.ref a] ∧ SqT K H1 a xs ∧ R (IteT K a) H1
theorem pi_enumT {X : Cx} {e : Expr} {ta : TA} {p pos tpos : Pos} {elts : List Expr} {kk : Nat} (hg : Gl X "enumerate") (hm : X.mg "enumerate" = none) (ha : PA X [e] ta) (hs : starEach [e] X.env = [(false, eval e X.env)] := by rfl) :
    PI X (.Tuple elts kk tpos) (.Call (.Name "enumerate" p) [e] [] pos) (iEnumT X.K ta) := by
  refine ⟨fun pins s σ H R I h => ?_⟩
  refine Call_ (ld_blt I hg hm boot_enumerate (PyProof.Rows.callWith_type1 (thn (ha.run pos pins s σ H _ I h) fun us s1 ⟨vs, H1, I1, r1, q1⟩ => ?_) hs rfl))
  obtain ⟨a, xs, ex, hq, q⟩ := q1
  subst ex
  cases r1 with
  | cons r rr =>
    cases rr
    cases r
    obtain ⟨its, rv, p', hz⟩ := I1.tuple hq
    have hal : a < s1.heap.objs.size := by obtain ⟨o, ho, _⟩ := p'; exact Heap.lt_size ho
    refine LawEnum.call_enumerate_tuple p' fun h' he hit hsz hk => wpAny_pyIter_enum he ?_
    have I2 : Inv X pins σ H1 { s1 with heap := h' } := I1.kept (t' := s1.toks) hk
    refine ⟨s1.heap.objs.size + 1, [s1.heap.objs.size + 1, s1.heap.objs.size], _, _, H1, rfl, I2, turn_enumT a (s1.heap.objs.size + 1) s1.heap.objs.size, ⟨⟨.none, he⟩, hit, Nat.succ_ne_self _, Nat.ne_of_lt hal, Nat.ne_of_gt (Nat.lt_succ_of_lt hal)⟩, fun b hb => ?_, q⟩
    have e' : b = s1.heap.objs.size + 1 ∨ b = s1.heap.objs.size := by simpa using hb
    have hle : s1.heap.objs.size ≤ b := by
      rcases e' with z | z
      · rw [z]; exact Nat.le_add_right _ _
      · rw [z]; exact Nat.le_refl _
    exact I1.fpOk hle (I1.hok.fresh hle)
theorem walk_enumT {K : PySem.W.Frag} {a : Addr} {xs : List V} : Walk (IteT K a) xs.length (fun H => SqT K H a xs) (fun i H v H' => ∃ T x, v = .ref T ∧ H T = none ∧ H' = upd H T (.tup [.int (i : Nat), x]) ∧ xs[i]? = some x) where
  goes := fun i H hi h => ⟨xs, xs[i], h, List.getElem?_eq_getElem hi⟩
  stops := fun H h => ⟨xs, h, Nat.le_refl _⟩
  yields := fun i H x H' hi h ⟨T, y, h1, h2, h3, h4⟩ => ⟨T, y, h1, h2, h3, h4 xs h⟩
end L2


namespace Law
open PySem L2
section
variable {P : Program} {w : World} {K : PySem.W.Frag} {mg : Str → Option Value} {base : Heap}
def eqM (a b : Mdl) : Bool := decide (a.many = b.many) && (decide (a.levels = b.levels) && (decide (a.ws = b.ws) && decide (a.ts = b.ts)))
def spMEq (K : PySem.W.Frag) (C : Addr) : Sp := fun vs H Q _ => ∃ (p q : Addr) (a b : Mdl), vs = [.ref p, .ref q] ∧ ModAt K C H p a ∧ ModAt K C H q b ∧ Q (.bl (eqM a b)) H
abbrev nModelEq : List Str := ["self", "other"]
theorem scModelEq : FnScope nModelEq ["self", "other"] (defScope s_Model_eq) := ⟨rfl, rfl, rfl, by decide +kernel, rfl, by decide +kernel, by decide +kernel⟩
theorem ok_meq {f : Addr} {fd : FuncData} {C : Addr} (F : Fun K "__eq__" "Model.__eq__" s_Model_eq f fd) (T : NmA mg) (S : ModT K mg C) : FnOk P w K mg base CX0 1 f fd ["self", "other"] (spMEq K C) := by
  refine F.ok scModelEq (fun vs H Q E h => ?_) (fun cdv A' outer s H vs Q E hr h => ?_)
  · obtain ⟨p, q, a, b, rfl, _⟩ := h
    rfl
  · obtain ⟨p, q, a, b, rfl, h1, h2, k⟩ := h
    have hu := hu_of hr
    refine ⟨_, pss_one (ps_ret (pe_and (pe_callB call_isi (by rfl) T.isi (by decide +kernel) (pa_cons (pv 1) (pa_cons (pe_glob (v := .ref C) (u := .ref C) rfl S.mgC rfl) pa_nil))) (pe_and (pe_cmpR op_eq (pe_fld (pv 0) rfl) (pe_fld (pv 1) rfl) (nomark _)) (pe_and (pe_cmpR op_eq (pe_fld (pv 0) rfl) (pe_fld (pv 1) rfl) (nomark _)) (pe_and (pe_cmpR (op_eqD hr.units) (pe_fld (pv 0) rfl) (pe_fld (pv 1) rfl) (nomark _)) (pe_one (pe_cmpR (op_eqD hr.units) (pe_fld (pv 0) rfl) (pe_fld (pv 1) rfl) (nomark _)))))))), ?_⟩
    obtain ⟨d1, w1, t1, a1, b1, c1⟩ := id h1
    obtain ⟨d2, w2, t2, a2, b2, c2⟩ := id h2
    have ei : ∀ x y : Int, decide (V.int x = V.int y) = decide (x = y) := fun x y => decide_eq_decide.mpr ⟨fun z => V.int.inj z, fun z => by rw [z]⟩
    unfold eqM at k
    refine ⟨_, rfl, _, _, _, _, _, rfl, .own C, h2.ty S, kit_selfM (by simp), _, rfl, iteT ?_⟩
    refine ⟨_, rfl, p, C, d1, _, _, rfl, a1, S.cl, S.nK, modF_many _ _ _ _, _, rfl, q, C, d2, _, _, rfl, a2, S.cl, S.nK, modF_many _ _ _ _, rfl, _, rfl, ?_⟩
    rw [ei]
    cases e1 : decide (a.many = b.many) with
    | false =>
      rw [e1, Bool.false_and] at k
      exact iteF k
    | true =>
    rw [e1, Bool.true_and] at k
    refine iteT ⟨_, rfl, p, C, d1, _, _, rfl, a1, S.cl, S.nL, modF_levels _ _ _ _, _, rfl, q, C, d2, _, _, rfl, a2, S.cl, S.nL, modF_levels _ _ _ _, rfl, _, rfl, ?_⟩
    rw [ei]
    cases e2 : decide (a.levels = b.levels) with
    | false =>
      rw [e2, Bool.false_and] at k
      exact iteF k
    | true =>
    rw [e2, Bool.true_and] at k
    refine iteT ⟨_, rfl, p, C, d1, _, _, rfl, a1, S.cl, S.nW, modF_weights _ _ _ _, _, rfl, q, C, d2, _, _, rfl, a2, S.cl, S.nW, modF_weights _ _ _ _, tabD a.ws, tabD b.ws, dp_rows b1, dp_rows b2, shaped_of (lay_tabD _) (by decide), shaped_of (lay_tabD _) (by decide), _, rfl, ?_⟩
    rw [eqv_tabD]
    cases e3 : decide (a.ws = b.ws) with
    | false =>
      rw [e3, Bool.false_and] at k
      exact iteF k
    | true =>
    rw [e3, Bool.true_and] at k
    refine iteT ⟨_, rfl, p, C, d1, _, _, rfl, a1, S.cl, S.nT, modF_ties _ _ _ _, _, rfl, q, C, d2, _, _, rfl, a2, S.cl, S.nT, modF_ties _ _ _ _, tiesD a.ts, tiesD b.ts, dp_ties c1, dp_ties c2, shaped_of (lay_tiesD _) (by decide), shaped_of (lay_tiesD _) (by decide), ?_⟩
    rw [eqv_tiesD]
    exact k
def spMInitN (K : PySem.W.Frag) (C : Addr) : Sp := fun vs H Q _ => ∃ (p dx w t : Addr) (m : Mdl), vs = [.ref p, .int m.many, .int m.levels, .ref w, .ref t] ∧ H p = some (.ins C dx []) ∧ RowsAt K H w m.ws ∧ TiesAt K H t m.ts ∧ TabOk m.ws ∧ (∀ t ∈ m.ts, TieOk t) ∧ wrongM m = none ∧
  (∀ H', (∀ b o, b ≠ p → H b = some o → H' b = some o) → H' p = some (.ins C dx (modF m.many m.levels w t)) → Q .non H')
abbrev nModelInitN : List Str := ["self", "many", "levels", "weights", "ties", "last", "number", "tie", "place"]
theorem scModelInitN : FnScope nModelInitN ["self", "many", "levels", "weights", "ties"] (defScope s_Model_init) := ⟨rfl, rfl, rfl, by decide +kernel, rfl, by decide +kernel, by decide +kernel⟩
theorem ok_minitN {f : Addr} {fd : FuncData} {fcWithin : Addr} {fdcWithin : FuncData} {fcTable : Addr} {fdcTable : FuncData} {fcTie : Addr} {fdcTie : FuncData} {fcTiesAt : Addr} {fdcTiesAt : FuncData} {C : Addr} (F : Fun K "__init__" "Model.__init__" s_Model_init f fd) (T : NmA mg) (cWithin : Cl P w K mg base CX0 2 "is_within" fcWithin fdcWithin ["low", "high", "thing"] (spWithin K)) (cTable : Cl P w K mg base CX0 4 "is_table" fcTable fdcTable ["rows", "columns", "thing"] (spTable K)) (cTie : Cl P w K mg base CX0 5 "is_tie" fcTie fdcTie ["many", "levels", "thing"] (spTie K)) (cTiesAt : Cl P w K mg base CX0 1 "ties_at" fcTiesAt fdcTiesAt ["ties", "place"] (spTiesAt K)) (S : ModT K mg C) : FnOk P w K mg base CX0 6 f fd ["self", "many", "levels", "weights", "ties"] (spMInitN K C) := by
  refine F.ok scModelInitN (fun vs H Q E h => ?_) (fun cdv A' outer s H vs Q E hr h => ?_)
  · obtain ⟨p, dx, wa, ta, m, rfl, _⟩ := h
    rfl
  · obtain ⟨p, dx, wa, ta, m, rfl, hp, hW, hT, tw, tt, hwr, kQ⟩ := h
    have hu := hu_of hr
    refine ⟨_, pss_cons (ps_if (pt_not (pt_val (cWithin.call (hr.mono (by decide)) (pa_cons pe_int (pa_cons pe_int (pa_cons (pv 1) pa_nil))))))
        pss_never pss_nil)
      (pss_cons (ps_if (pt_not (pt_val (cWithin.call (hr.mono (by decide)) (pa_cons pe_int (pa_cons pe_int (pa_cons (pv 2) pa_nil))))))
        pss_never pss_nil)
      (pss_cons (ps_if (pt_not (pt_val (cTable.call (hr.mono (by decide)) (pa_cons (pv 1) (pa_cons (pv 2) (pa_cons (pv 3) pa_nil))))))
        pss_never pss_nil)
      (pss_cons (ps_if (pt_not (pt_val (pe_callB call_isi (by rfl) T.isi (by decide +kernel) (pa_cons (pv 4) (pa_cons (pe_bltn (v := .ty "tuple") (u := .type "tuple") (by rfl) T.tuple (by decide +kernel) rfl) pa_nil)))))
        pss_never pss_nil)
      (pss_cons (ps_set (i := 5) scModelInitN.nd rfl (Or.inl rfl) (pe_tup (pa_cons pe_int (pa_cons pe_int pa_nil))))
      (pss_cons (ps_for PassesOwn.never rfl (pi_enumT (by rfl) T.enum (pa_cons (pv 4) pa_nil)) (pg_tup (by rfl) (pgs_cons (pg_name (i := 6) scModelInitN.nd rfl (Or.inl rfl)) (pgs_cons (pg_name (i := 7) scModelInitN.nd rfl (Or.inl rfl)) pgs_nil)))
        (pss_cons (ps_if (PW.pt (pw_or (pt_not (pt_val (cTie.call (hr.mono (by decide)) (pa_cons (pv 1) (pa_cons (pv 2) (pa_cons (pv 7) pa_nil)))))) (pw_or1 (pt_cmpR (op_leT (Nat.lt_of_le_of_lt (Nat.le_add_right _ 64) hr.units)) (pe_slice sl_tupA (pv 7) po_none (po_some pe_int)) (pv 5) (nomark _)))))
          pss_never pss_nil)
        (pss_one (ps_set (i := 5) scModelInitN.nd rfl (Or.inl rfl) (pe_slice sl_tupA (pv 7) po_none (po_some pe_int))))))
      (pss_cons (ps_if (pt_val (pe_callB (cr_any rfl) (by rfl) T.any (by decide +kernel) (pa_cons (pe_lc (own := [("place", 8)]) (g := (gName 8)) (tt := tYes) rfl scModelInitN.nd  (pi_range1 (by rfl) T.range (pa_cons (pv 1) pa_nil)) (blkOk_by (own := [("place", 8)]) (N := nModelInitN) (sc := defScope s_Model_init) (by decide +kernel)) (fun _ _ _ _ _ => (pg_name (i := 8) scModelInitN.nd rfl (Or.inl rfl))) (fun _ _ _ _ _ => pts_nil) (fun _ _ _ _ _ => (pe_cmpR op_gt (cTiesAt.call (hr.mono (by decide)) (pa_cons (pv 4) (pa_cons (pv 8) pa_nil))) pe_int (nomark _)))) pa_nil)))
        pss_never pss_nil)
      (pss_cons (ps_fld (pv 0) (pv 1) rfl)
      (pss_cons (ps_fld (pv 0) (pv 2) rfl)
      (pss_cons (ps_fld (pv 0) (pv 3) rfl)
      (pss_one (ps_fld (pv 0) (pv 4) rfl))))))))))), ?_⟩
    obtain ⟨ts, hTS, hTA⟩ := id hT
    have tl0 : ts.length = m.ts.length := hTA.1
    obtain ⟨c1, c2, c3, c4, c5⟩ := wrong_ok hwr
    have tlen : m.ts.length ≤ 16000000 := Nat.le_trans (ties_few c1.2 c4 fun t h => ⟨(tt t h).1, (tt t h).2.1⟩) (by decide)
    refine ⟨_, rfl, 1, 12, _, rfl, .inl ⟨m.many, rfl, _, rfl, ?_⟩⟩
    rw [decide_eq_true c1.1, decide_eq_true c1.2]
    refine iteF ⟨_, rfl, 1, 4, _, rfl, .inl ⟨m.levels, rfl, _, rfl, ?_⟩⟩
    rw [decide_eq_true c2.1, decide_eq_true c2.2]
    refine iteF ⟨_, rfl, _, rfl, _, rfl, m.many, m.levels, wa, m.ws, rfl, hW, tw, fun H1 s1 => ⟨_, rfl, ?_⟩⟩
    rw [c3]
    have hTS1 := s1.sqT hTS
    refine iteF ⟨_, rfl, _, _, _, _, _, rfl, .ty "tuple", tyx_tup hTS1, kit_tt, _, rfl, iteF ?_⟩
    refine ⟨by show 2 ≤ sizeLine; decide, fun la hla => ?_⟩
    refine new_step hla fun H2 s2 e2 => ?_
    have s12 := s1.trans s2
    refine ⟨_, rfl, ta, ts, rfl, s12.sqT hTS, for_it walk_enumT (fun i σ H' => Same H H' ∧ ∃ (la : Addr) (u v : Option V), SqT K H' la [.int (lastP m.ts i).1, .int (lastP m.ts i).2] ∧ σ = [some (.ref p), some (.int m.many), some (.int m.levels), some (.ref wa), some (.ref ta), some (.ref la), u, v, none]) ⟨s12, la, none, none, SqT.of e2, rfl⟩ (fun i σ H' _ h => h.1.sqT hTS) ?_ ?_⟩
    · rintro i x σ H3 H4 hi ⟨s3, la, u, v, hla, rfl⟩ ⟨t, y, rfl, ht, rfl, hy⟩
      obtain ⟨tie, hti, hA⟩ := hTA.2 i y hy
      have s4 : Same H3 (upd H3 t (.tup [.int (i : Nat), y])) := Same.new ht
      have il := (List.getElem?_eq_some_iff.mp hti).1
      have tok := tt tie (List.mem_of_getElem? hti)
      obtain ⟨g1, g2⟩ := gT_get (c4 i il) hti
      refine ⟨t, _, rfl, SqT.of upd_same, rfl, _, _, rfl, _, _, rfl, rfl, ?_⟩
      refine ⟨_, rfl, _, rfl, _, rfl, m.many, m.levels, y, tie, rfl, (hA.same s3).same s4, tok, fun H5 s5 => ⟨_, rfl, ?_⟩⟩
      have s35 := s4.trans s5
      rw [g1]
      obtain ⟨a, b, rfl, ha, hb⟩ := hA
      have ha5 := (s3.trans s35).sqT ha
      refine iteF ?_
      unfold tNoPart
      refine ⟨_, rfl, 2, rfl, a, _, rfl, ha5, fun z => absurd z.2 (by show ¬ HT.sIx 3 3 (some 2) = 3; decide), fun _ q hq => ?_⟩
      rw [cut2]
      refine new_step hq fun H6 s6 e6 => ?_
      refine ⟨_, rfl, q, la, [tie.1.1, tie.1.2], [(lastP m.ts i).1, (lastP m.ts i).2], rfl, rfl, SqT.of e6, (s35.trans s6).sqT hla, _, rfl, ?_⟩
      rw [lex2]
      have s36 := s35.trans s6
      rw [show leP (tie.1.1, tie.1.2) ((lastP m.ts i).1, (lastP m.ts i).2) = false from g2]
      have ha6 := s6.sqT ha5
      refine iteF ⟨_, rfl, 2, rfl, a, _, rfl, ha6, fun z => absurd z.2 (by show ¬ HT.sIx 3 3 (some 2) = 3; decide), fun _ q2 hq2 => ?_⟩
      rw [cut2]
      refine ⟨(s3.trans s36).trans (Same.new hq2), q2, _, _, ?_, rfl⟩
      have el : lastP m.ts (i + 1) = tie.1 := by
        unfold lastP
        rw [if_neg (Nat.succ_ne_zero i), Nat.add_sub_cancel, hti]
      rw [el]
      exact SqT.of upd_same
    · rintro σ H3 ⟨s3, la, u, v, hla, rfl⟩
      have m0 : 0 ≤ m.many := by omega
      refine ⟨_, rfl, _, rfl, by omega, by omega, fun D hD => ?_⟩
      refine lc_range (lo := 0) (n := m.many.toNat) (fun i H' => Same H3 H' ∧ H' D = some (.lst (((List.range i).map fun p => decide (4 < cntT m.ts (p : Nat))).map V.bl))) ⟨Same.new hD, upd_same⟩ (fun i H4 hi g => ?_) fun H4 g => ?_
      · obtain ⟨s4, h4⟩ := g
        refine ⟨rfl, _, rfl, _, rfl, ta, m.ts, _, rfl, hT.same (s3.trans s4), tlen, fun H5 s5 => ⟨_, _, rfl, rfl, _, s5 _ _ h4, ?_, (s4.trans s5).mut hD, ?_⟩⟩
        · rw [List.length_map, List.length_map, List.length_range]
          exact small1000 (by omega)
        · rw [upd_same, List.range_succ, List.map_append, List.map_append, Int.zero_add]
          have : decide ((4 : Int) < ((cntT m.ts ((i : Nat) : Int) : Nat) : Int)) = decide (4 < cntT m.ts ((i : Nat) : Int)) := decide_eq_decide.mpr (by omega)
          show some (HO.lst (_ ++ [V.bl (decide ((4 : Int) < _))])) = some (HO.lst (_ ++ [V.bl (decide (4 < _))]))
          rw [this]
      · obtain ⟨s4, h4⟩ := g
        refine ⟨D, _, rfl, SqL.of h4, _, rfl, ?_⟩
        rw [any_take]
        change (if crowdB m.many m.ts = true then _ else _)
        have s34 := s3.trans s4
        rw [c5]
        refine iteF ⟨_, rfl, _, rfl, p, C, dx, [], rfl, s34 _ _ hp, S.cl, S.nK, (by show 0 < 1000; decide), _, rfl, _, rfl, p, C, dx, _, rfl, upd_same, S.cl, S.nL, (by show 1 < 1000; decide), _, rfl, _, rfl, p, C, dx, _, rfl, upd_same, S.cl, S.nW, (by show 2 < 1000; decide), _, rfl, _, rfl, p, C, dx, _, rfl, upd_same, S.cl, S.nT, (by show 3 < 1000; decide), ?_⟩
        rw [upd_upd, upd_upd, upd_upd]
        exact kQ _ (fun b o n e => by rw [upd_ne n]; exact s34 b o e) upd_same
end
end Law

namespace L2
open PySem PySem.Spec PyProof.Rows
/-! ### weights, what fits -/
def gI (l : List Int) (i : Int) : Int := l.getD i.toNat 0
def gR (t : List (List Int)) (i : Int) : List Int := t.getD i.toNat []
def wv (m : Mdl) (j : Nat) (v : Int) : Int := gI (m.ws.getD j []) v
def tv (t : Tie) (a b : Int) : Int := gI (gR t.2 a) b
def valsM (m : Mdl) : List Int := (List.range m.levels.toNat).map fun i : Nat => (i : Int)
def goesT (b : List Int) (v : Int) (t : Tie) : Bool := !decide (t.1.2 = (b.length : Int)) || !decide (tv t (gI b t.1.1) v = 0)
def goesB (m : Mdl) (b : List Int) (v : Int) : Bool := decide (0 < wv m b.length v) && m.ts.all (goesT b v)
def ext (m : Mdl) : Nat → List Int → List (List Int)
  | 0, b => [b]
  | n + 1, b => (valsM m).flatMap fun v => if goesB m b v = true then ext m n (b ++ [v]) else []
def allX (L : List Int) : Nat → List Int → List (List Int)
  | 0, b => [b]
  | n + 1, b => L.flatMap fun v => allX L n (b ++ [v])
def picsL (L : List Int) : Nat → List (List Int)
  | 0 => [[]]
  | n + 1 => (picsL L n).flatMap fun f => L.map fun v => f ++ [v]
theorem fm_assoc {α β γ : Type} (f : α → List β) (g : β → List γ) : ∀ l : List α, (l.flatMap f).flatMap g = l.flatMap fun x => (f x).flatMap g
  | [] => rfl
  | x :: l => by rw [List.flatMap_cons, List.flatMap_append, fm_assoc f g l, List.flatMap_cons]
theorem allX_step (L : List Int) : ∀ (n : Nat) (b : List Int), allX L (n + 1) b = (allX L n b).flatMap fun f => L.map fun v => f ++ [v]
  | 0, b => by
    show (L.flatMap fun v => [b ++ [v]]) = [b].flatMap _
    rw [List.flatMap_cons, List.flatMap_nil, List.append_nil]
    induction L with
    | nil => rfl
    | cons x l ih => rw [List.flatMap_cons, List.map_cons, ih] <;> rfl
  | n + 1, b => by
    show (L.flatMap fun v => allX L (n + 1) (b ++ [v])) = (L.flatMap fun v => allX L n (b ++ [v])).flatMap _
    rw [fm_assoc]
    congr 1
    funext v
    exact allX_step L n (b ++ [v])
theorem pics_all (L : List Int) : ∀ n, picsL L n = allX L n []
  | 0 => rfl
  | n + 1 => by
    show (picsL L n).flatMap _ = _
    rw [pics_all L n, allX_step]
theorem allX_mem {L : List Int} : ∀ {n : Nat} {b p : List Int}, p ∈ allX L n b → ∃ s, p = b ++ s ∧ s.length = n ∧ ∀ x ∈ s, x ∈ L
  | 0, b, p, h => ⟨[], by rw [List.mem_singleton.mp h, List.append_nil], rfl, fun x hx => absurd hx List.not_mem_nil⟩
  | n + 1, b, p, h => by
    obtain ⟨v, hv, h⟩ := List.mem_flatMap.mp (show p ∈ L.flatMap fun v => allX L n (b ++ [v]) from h)
    obtain ⟨s, rfl, e, hs⟩ := allX_mem h
    refine ⟨v :: s, by rw [List.append_assoc] <;> rfl, by rw [List.length_cons, e], fun x hx => ?_⟩
    rcases List.mem_cons.mp hx with rfl | hx
    · exact hv
    · exact hs x hx
def stepB (m : Mdl) (p : List Int) (j : Nat) : Bool := goesB m (p.take j) (gI p j)
theorem gI_at {b s : List Int} {v : Int} : gI (b ++ v :: s) (b.length : Nat) = v := by
  unfold gI
  rw [Int.toNat_natCast, List.getD_eq_getElem?_getD, List.getElem?_append_right (Nat.le_refl _), Nat.sub_self] <;> rfl
theorem gI_left {b s : List Int} {i : Int} (h : i < b.length) (h0 : 0 ≤ i) : gI (b ++ s) i = gI b i := by
  unfold gI
  rw [List.getD_eq_getElem?_getD, List.getD_eq_getElem?_getD, List.getElem?_append_left (by omega)]
theorem all_range' (f : Nat → Bool) (a n : Nat) : (List.range' a (n + 1)).all f = (f a && (List.range' (a + 1) n).all f) := by
  rw [List.range'_succ, List.all_cons]
theorem ext_all (m : Mdl) : ∀ (n : Nat) (b : List Int), ext m n b = (allX (valsM m) n b).filter fun p => (List.range' b.length n).all (stepB m p)
  | 0, b => rfl
  | n + 1, b => by
    show ((valsM m).flatMap fun v => if goesB m b v = true then ext m n (b ++ [v]) else []) = ((valsM m).flatMap fun v => allX (valsM m) n (b ++ [v])).filter _
    rw [List.filter_flatMap]
    congr 1
    funext v
    have key : ∀ p ∈ allX (valsM m) n (b ++ [v]), (List.range' b.length (n + 1)).all (stepB m p) = (goesB m b v && (List.range' (b ++ [v]).length n).all (stepB m p)) := fun p hp => by
      obtain ⟨s, rfl, _⟩ := allX_mem hp
      rw [all_range', List.length_append]
      congr 1
      unfold stepB
      rw [List.append_assoc, List.take_left]
      exact congrArg (goesB m b) gI_at
    rw [List.filter_congr key]
    cases c : goesB m b v with
    | true =>
      rw [if_pos rfl, ext_all m n (b ++ [v])]
      refine List.filter_congr fun p _ => ?_
      rw [Bool.true_and]
    | false =>
      rw [if_neg Bool.false_ne_true]
      exact (List.filter_eq_nil_iff.mpr fun p _ => by rw [Bool.false_and]; exact Bool.false_ne_true).symm
/-- a right model's facts -/
structure MOk (m : Mdl) : Prop where
  m1 : 1 ≤ m.many
  m12 : m.many ≤ 12
  l1 : 1 ≤ m.levels
  l4 : m.levels ≤ 4
  wl : (m.ws.length : Int) = m.many
  wr : ∀ l ∈ m.ws, (l.length : Int) = m.levels ∧ ∀ x ∈ l, 0 ≤ x ∧ x ≤ 1000
  tn : m.ts.length ≤ 144
  tt : ∀ t ∈ m.ts, 0 ≤ t.1.1 ∧ t.1.1 < t.1.2 ∧ t.1.2 < m.many ∧ (t.2.length : Int) = m.levels ∧ ∀ l ∈ t.2, (l.length : Int) = m.levels ∧ ∀ x ∈ l, 0 ≤ x ∧ x ≤ 1000
theorem MOk.of {m : Mdl} (sm : MdlSm m) (wr : wrongM m = none) : MOk m := by
  obtain ⟨c1, c2, c3, c4, _⟩ := wrong_ok wr
  obtain ⟨w1, w2⟩ := tab_rows c3
  refine ⟨c1.1, c1.2, c2.1, c2.2, w1, fun l hl => ⟨(w2 l hl).1, (sm.wr l hl).2.2⟩, sm.tl, fun t ht => ?_⟩
  obtain ⟨i, hi⟩ := List.mem_iff_getElem?.mp ht
  obtain ⟨g1, _⟩ := gT_get (c4 i (List.getElem?_eq_some_iff.mp hi).1) hi
  unfold tieB at g1
  simp only [Bool.and_eq_true, decide_eq_true_eq] at g1
  obtain ⟨a, b, c, d, e⟩ := sm.tr t ht
  obtain ⟨r1, r2⟩ := tab_rows g1.2.2
  exact ⟨a.1, g1.2.1, g1.1, r1, fun l hl => ⟨(r2 l hl).1, (e l hl).2.2⟩⟩
theorem gI_nn {l : List Int} (h : ∀ x ∈ l, 0 ≤ x ∧ x ≤ 1000) (i : Int) : 0 ≤ gI l i ∧ gI l i ≤ 1000 := by
  unfold gI
  rw [List.getD_eq_getElem?_getD]
  cases e : l[i.toNat]? with
  | none => exact ⟨by decide, by decide⟩
  | some x => exact h x (List.mem_of_getElem? e)
theorem wv_nn {m : Mdl} (ok : MOk m) (j : Nat) (v : Int) : 0 ≤ wv m j v ∧ wv m j v ≤ 1000 := by
  unfold wv
  refine gI_nn (fun x hx => ?_) v
  rw [List.getD_eq_getElem?_getD] at hx
  cases e : m.ws[j]? with
  | none => rw [e] at hx; exact absurd hx List.not_mem_nil
  | some l => rw [e] at hx; exact (ok.wr l (List.mem_of_getElem? e)).2 x hx
theorem tv_nn {m : Mdl} (ok : MOk m) {t : Tie} (ht : t ∈ m.ts) (a b : Int) : 0 ≤ tv t a b ∧ tv t a b ≤ 1000 := by
  unfold tv gR
  refine gI_nn (fun x hx => ?_) b
  rw [List.getD_eq_getElem?_getD] at hx
  cases e : t.2[a.toNat]? with
  | none => rw [e] at hx; exact absurd hx List.not_mem_nil
  | some l => rw [e] at hx; exact ((ok.tt t ht).2.2.2.2 l (List.mem_of_getElem? e)).2 x hx
/-! ### the product -/
def wtW (m : Mdl) (p : List Int) : Nat → Int
  | 0 => 1
  | k + 1 => wtW m p k * wv m k (gI p k)
def wtT (p : List Int) (a : Int) (ts : List Tie) : Int := ts.foldl (fun a t => a * tv t (gI p t.1.1) (gI p t.1.2)) a
def wt (m : Mdl) (p : List Int) : Int := wtT p (wtW m p m.many.toNat) m.ts
theorem wtT_snoc {p : List Int} {a : Int} {ts : List Tie} {i : Nat} {t : Tie} (h : ts[i]? = some t) : wtT p a (ts.take (i + 1)) = wtT p a (ts.take i) * tv t (gI p t.1.1) (gI p t.1.2) := by
  unfold wtT
  rw [List.take_add_one, h, List.foldl_append] <;> rfl
theorem mul_pos' {a b : Int} (ha : 0 ≤ a) (hb : 0 ≤ b) : 0 < a * b ↔ 0 < a ∧ 0 < b := by
  constructor
  · intro h
    refine ⟨?_, ?_⟩
    · rcases Int.lt_or_eq_of_le ha with z | z
      · exact z
      · rw [← z, Int.zero_mul] at h; omega
    · rcases Int.lt_or_eq_of_le hb with z | z
      · exact z
      · rw [← z, Int.mul_zero] at h; omega
  · rintro ⟨h1, h2⟩
    exact Int.mul_pos h1 h2
theorem wtW_nn {m : Mdl} (ok : MOk m) (p : List Int) : ∀ k, 0 ≤ wtW m p k ∧ (0 < wtW m p k ↔ ∀ j, j < k → 0 < wv m j (gI p j))
  | 0 => ⟨by show (0 : Int) ≤ 1; decide, fun _ j hj => absurd hj (Nat.not_lt_zero _), fun _ => by show (0 : Int) < 1; decide⟩
  | k + 1 => by
    obtain ⟨h1, h2⟩ := wtW_nn ok p k
    obtain ⟨h3, _⟩ := wv_nn ok k (gI p k)
    refine ⟨Int.mul_nonneg h1 h3, ?_⟩
    show 0 < wtW m p k * wv m k (gI p k) ↔ _
    rw [mul_pos' h1 h3, h2]
    constructor
    · rintro ⟨a, b⟩ j hj
      by_cases c : j = k
      · rw [c]; exact b
      · exact a j (by omega)
    · exact fun a => ⟨fun j hj => a j (by omega), a k (by omega)⟩
theorem wtT_nn (p : List Int) : ∀ {ts : List Tie} {a : Int}, 0 ≤ a → (∀ t ∈ ts, 0 ≤ tv t (gI p t.1.1) (gI p t.1.2)) → 0 ≤ wtT p a ts ∧ (0 < wtT p a ts ↔ 0 < a ∧ ∀ t ∈ ts, 0 < tv t (gI p t.1.1) (gI p t.1.2))
  | [], a, h, _ => ⟨h, fun z => ⟨z, fun t ht => absurd ht List.not_mem_nil⟩, fun z => z.1⟩
  | t :: ts, a, h, g => by
    have h3 := g t List.mem_cons_self
    obtain ⟨h1, h2⟩ := wtT_nn p (ts := ts) (Int.mul_nonneg h h3) fun u hu => g u (List.mem_cons_of_mem _ hu)
    refine ⟨h1, ?_⟩
    show 0 < wtT p (a * tv t (gI p t.1.1) (gI p t.1.2)) ts ↔ _
    rw [h2, mul_pos' h h3]
    constructor
    · rintro ⟨⟨x, y⟩, z⟩
      refine ⟨x, fun u hu => ?_⟩
      rcases List.mem_cons.mp hu with rfl | hu
      · exact y
      · exact z u hu
    · rintro ⟨x, y⟩
      exact ⟨⟨x, y t List.mem_cons_self⟩, fun u hu => y u (List.mem_cons_of_mem _ hu)⟩
theorem wt_pos {m : Mdl} (ok : MOk m) (p : List Int) : 0 < wt m p ↔ (∀ j, j < m.many.toNat → 0 < wv m j (gI p j)) ∧ ∀ t ∈ m.ts, 0 < tv t (gI p t.1.1) (gI p t.1.2) := by
  unfold wt
  obtain ⟨h1, h2⟩ := wtW_nn ok p m.many.toNat
  rw [(wtT_nn p h1 fun t ht => (tv_nn ok ht _ _).1).2, h2]
theorem gI_take {p : List Int} {j : Nat} {i : Int} (h0 : 0 ≤ i) (h : i < j) : gI (p.take j) i = gI p i := by
  unfold gI
  rw [List.getD_eq_getElem?_getD, List.getD_eq_getElem?_getD, List.getElem?_take, if_pos (by omega)]
/-- what fits, as the list of those that weigh more than 0 -/
theorem step_iff {m : Mdl} (ok : MOk m) {p : List Int} (hp : p.length = m.many.toNat) : (List.range' 0 m.many.toNat).all (stepB m p) = decide (0 < wt m p) := by
  have len : ∀ j, j < m.many.toNat → (p.take j).length = j := fun j hj => by rw [List.length_take]; omega
  rw [Bool.eq_iff_iff, decide_eq_true_eq, List.all_eq_true, wt_pos ok]
  have tie : ∀ t ∈ m.ts, goesT (p.take t.1.2.toNat) (gI p t.1.2.toNat) t = true ↔ 0 < tv t (gI p t.1.1) (gI p t.1.2) := fun t ht => by
    obtain ⟨a, b, c, _⟩ := ok.tt t ht
    have lj := len t.1.2.toNat (by omega)
    unfold goesT
    rw [lj, decide_eq_true (by omega : t.1.2 = ((t.1.2.toNat : Nat) : Int)), Bool.not_true, Bool.false_or, gI_take a (by omega), show ((t.1.2.toNat : Nat) : Int) = t.1.2 by omega]
    have := (tv_nn ok ht (gI p t.1.1) (gI p t.1.2)).1
    rw [Bool.not_eq_true', decide_eq_false_iff_not]
    omega
  constructor
  · intro h
    have get : ∀ j, j < m.many.toNat → 0 < wv m j (gI p j) ∧ ∀ t ∈ m.ts, goesT (p.take j) (gI p j) t = true := fun j hj => by
      have z := h j (by rw [List.mem_range'_1]; omega)
      unfold stepB goesB at z
      rw [Bool.and_eq_true, decide_eq_true_eq, List.all_eq_true, len j hj] at z
      exact z
    refine ⟨fun j hj => (get j hj).1, fun t ht => ?_⟩
    obtain ⟨a, b, c, _⟩ := ok.tt t ht
    exact (tie t ht).mp ((get t.1.2.toNat (by omega)).2 t ht)
  · rintro ⟨h1, h2⟩ j hj
    rw [List.mem_range'_1] at hj
    have hj : j < m.many.toNat := by omega
    unfold stepB goesB
    rw [Bool.and_eq_true, decide_eq_true_eq, List.all_eq_true, len j hj]
    refine ⟨h1 j hj, fun t ht => ?_⟩
    by_cases c : t.1.2 = (j : Int)
    · have e : j = t.1.2.toNat := by omega
      rw [e]
      exact (tie t ht).mpr (h2 t ht)
    · unfold goesT
      rw [len j hj, decide_eq_false c] <;> rfl
theorem ext_fits {m : Mdl} (ok : MOk m) : ext m m.many.toNat [] = (picsL (valsM m) m.many.toNat).filter fun p => decide (0 < wt m p) := by
  rw [ext_all, pics_all]
  refine List.filter_congr fun p hp => ?_
  obtain ⟨s, rfl, e, _⟩ := allX_mem hp
  exact step_iff ok e
/-! ### what has no end -/
def keyL (m : Mdl) (b : List Int) : List Int := (m.ts.filter fun t => decide (t.1.1 < (b.length : Int)) && decide ((b.length : Int) ≤ t.1.2)).map fun t => gI b t.1.1
def Agree (m : Mdl) (b c : List Int) : Prop := b.length = c.length ∧ ∀ t ∈ m.ts, t.1.1 < (b.length : Int) → (b.length : Int) ≤ t.1.2 → gI b t.1.1 = gI c t.1.1
theorem agree_of {m : Mdl} {b c : List Int} (hl : b.length = c.length) (h : keyL m b = keyL m c) : Agree m b c := by
  refine ⟨hl, fun t ht h1 h2 => ?_⟩
  unfold keyL at h
  rw [← hl] at h
  exact List.map_inj_left.mp h t (List.mem_filter.mpr ⟨ht, by rw [decide_eq_true h1, decide_eq_true h2] <;> rfl⟩)
theorem agree_snoc {m : Mdl} (ok : MOk m) {b c : List Int} (h : Agree m b c) (v : Int) : Agree m (b ++ [v]) (c ++ [v]) := by
  obtain ⟨hl, h⟩ := h
  refine ⟨by rw [List.length_append, List.length_append, hl], fun t ht h1 h2 => ?_⟩
  rw [List.length_append] at h1 h2
  have h1 : t.1.1 < ((b.length + 1 : Nat) : Int) := h1
  have h2 : ((b.length + 1 : Nat) : Int) ≤ t.1.2 := h2
  have t0 := (ok.tt t ht).1
  by_cases e : t.1.1 = (b.length : Int)
  · have e2 : t.1.1 = (c.length : Int) := by rw [e, hl]
    have z1 : gI (b ++ [v]) t.1.1 = v := by rw [e]; exact gI_at
    have z2 : gI (c ++ [v]) t.1.1 = v := by rw [e2]; exact gI_at
    rw [z1, z2]
  · rw [gI_left (by omega) t0, gI_left (by omega) t0]
    exact h t ht (by omega) (by omega)
theorem agree_goes {m : Mdl} (ok : MOk m) {b c : List Int} (h : Agree m b c) (v : Int) : goesB m b v = goesB m c v := by
  obtain ⟨hl, h⟩ := h
  unfold goesB
  rw [hl]
  congr 1
  rw [Bool.eq_iff_iff, List.all_eq_true, List.all_eq_true]
  have one : ∀ t ∈ m.ts, goesT b v t = goesT c v t := fun t ht => by
    unfold goesT
    rw [hl]
    by_cases e : t.1.2 = (c.length : Int)
    · obtain ⟨_, t1, _⟩ := ok.tt t ht
      rw [h t ht (by omega) (by omega)]
    · rw [decide_eq_false e] <;> rfl
  exact ⟨fun z t ht => by rw [← one t ht]; exact z t ht, fun z t ht => by rw [one t ht]; exact z t ht⟩
theorem ext_nil {m : Mdl} (ok : MOk m) : ∀ (n : Nat) {b c : List Int}, Agree m b c → ext m n b = [] → ext m n c = []
  | 0, b, c, _, h => by cases h
  | n + 1, b, c, h, e => by
    have e : ((valsM m).flatMap fun v => if goesB m b v = true then ext m n (b ++ [v]) else []) = [] := e
    show ((valsM m).flatMap fun v => if goesB m c v = true then ext m n (c ++ [v]) else []) = []
    rw [List.flatMap_eq_nil_iff] at e ⊢
    intro v hv
    have z := e v hv
    rw [← agree_goes ok h v]
    by_cases g : goesB m b v = true
    · rw [if_pos g] at z ⊢
      exact ext_nil ok n (agree_snoc ok h v) z
    · rw [if_neg g]
def DeadOk (m : Mdl) (ks : List NKey) : Prop := ∀ k ∈ ks, ∀ b : List Int, (b.length : Int) = k.1 → keyL m b = k.2 → ext m (m.many.toNat - b.length) b = []
theorem DeadOk.put {m : Mdl} (ok : MOk m) {ks ks' : List NKey} (h : DeadOk m ks) {b : List Int} (hb : ext m (m.many.toNat - b.length) b = []) (hk : ∀ q, q ∈ ks' ↔ q ∈ ks ∨ q = ((b.length : Int), keyL m b)) : DeadOk m ks' := fun k hk' c h1 h2 => by
  rcases (hk k).mp hk' with z | rfl
  · exact h k z c h1 h2
  · have hl : b.length = c.length := by have : (c.length : Int) = (b.length : Int) := h1; omega
    rw [← hl]
    exact ext_nil ok _ (agree_of hl h2.symm) hb
/-- how many may be put in -/
def addN : Nat → Nat
  | 0 => 0
  | n + 1 => 1 + 4 * addN n
theorem ext_mem {m : Mdl} {n : Nat} {b p : List Int} (h : p ∈ ext m n b) : ∃ s, p = b ++ s ∧ s.length = n ∧ ∀ x ∈ s, 0 ≤ x ∧ x < m.levels := by
  rw [ext_all] at h
  obtain ⟨s, h1, h2, h3⟩ := allX_mem (List.mem_filter.mp h).1
  refine ⟨s, h1, h2, fun x hx => ?_⟩
  obtain ⟨i, hi, rfl⟩ := List.mem_map.mp (h3 x hx)
  have := List.mem_range.mp hi
  exact ⟨by omega, by omega⟩
theorem take_more {α : Type} {A B : List α} {n : Nat} (h : (A.take n).length < n) : (A ++ B).take n = A.take n ++ B.take (n - (A.take n).length) := by
  rw [List.length_take] at h ⊢
  rw [List.take_append]
  congr 2
  omega
theorem take_full {α : Type} {A B : List α} {n : Nat} (h : ¬ (A.take n).length < n) : (A ++ B).take n = A.take n := by
  rw [List.length_take] at h
  rw [List.take_append, show n - A.length = 0 by omega, List.take_zero, List.append_nil]
/-! ### one behind another -/
theorem lex_pre (b : List Int) {v u : Int} (h : v < u) (s r : List Int) : HT.lexLt (b ++ v :: s) (b ++ u :: r) = true := by
  induction b with
  | nil =>
    show HT.lexLt (v :: s) (u :: r) = true
    rw [HT.lexLt_cons, if_neg (by omega)]
    exact decide_eq_true h
  | cons x b ih =>
    show HT.lexLt (x :: (b ++ v :: s)) (x :: (b ++ u :: r)) = true
    rw [HT.lexLt_cons, if_pos rfl]
    exact ih
theorem allX_asc {L : List Int} (hL : L.Pairwise (· < ·)) : ∀ (n : Nat) (b : List Int), (allX L n b).Pairwise fun x y => HT.lexLt x y = true
  | 0, b => List.pairwise_singleton _ _
  | n + 1, b => by
    show (L.flatMap fun v => allX L n (b ++ [v])).Pairwise _
    rw [List.pairwise_flatMap]
    refine ⟨fun v _ => allX_asc hL n (b ++ [v]), hL.imp fun {v u} hvu x hx y hy => ?_⟩
    obtain ⟨s, rfl, _⟩ := allX_mem hx
    obtain ⟨r, rfl, _⟩ := allX_mem hy
    rw [List.append_assoc, List.append_assoc]
    exact lex_pre b hvu s r
theorem vals_asc (m : Mdl) : (valsM m).Pairwise (· < ·) := by
  unfold valsM
  rw [List.pairwise_map]
  exact List.pairwise_lt_range.imp fun {a b} h => by omega
theorem ext_asc (m : Mdl) (n : Nat) : (ext m n []).Pairwise fun x y => HT.lexLt x y = true := by
  rw [ext_all]
  exact (allX_asc (vals_asc m) n []).filter _
end L2
namespace Law
open PySem L2
theorem atI_gI {l : List Int} {i : Int} (h0 : 0 ≤ i) (h : i < (l.length : Int)) : atI (l.map V.int) i = some (.int (gI l i)) := by
  obtain ⟨n, rfl⟩ := Int.eq_ofNat_of_zero_le h0
  refine atI_nat ?_
  unfold gI
  have hn : n < l.length := by omega
  rw [List.getElem?_map, Int.toNat_natCast, List.getD_eq_getElem?_getD, List.getElem?_eq_getElem hn] <;> rfl
theorem gI_get {l : List Int} {i : Nat} {x : Int} (h : l[i]? = some x) : gI l (i : Nat) = x := by
  unfold gI
  rw [Int.toNat_natCast, List.getD_eq_getElem?_getD, h] <;> rfl
theorem gI_in {l : List Int} {i : Int} {lo hi : Int} (h0 : 0 ≤ i) (h : i < (l.length : Int)) (g : ∀ x ∈ l, lo ≤ x ∧ x < hi) : lo ≤ gI l i ∧ gI l i < hi := by
  obtain ⟨n, rfl⟩ := Int.eq_ofNat_of_zero_le h0
  have hn : n < l.length := by omega
  rw [gI_get (List.getElem?_eq_getElem hn)]
  exact g _ (List.getElem_mem hn)
/-- a row of a table -/
theorem row_at {K : PySem.W.Frag} {H : Hp} {vs : List V} {t : List (List Int)} (h : AllIn (RowAt K H) vs t) {i : Int} (h0 : 0 ≤ i) (hl : i < (t.length : Int)) : ∃ a, atI vs i = some (.ref a) ∧ SqT K H a ((gR t i).map V.int) ∧ gR t i ∈ t := by
  obtain ⟨n, rfl⟩ := Int.eq_ofNat_of_zero_le h0
  have hn : n < vs.length := by rw [h.1]; omega
  obtain ⟨l, hl1, a, e, hS⟩ := h.2 n _ (List.getElem?_eq_getElem hn)
  have eg : gR t ((n : Nat) : Int) = l := by
    unfold gR
    rw [Int.toNat_natCast, List.getD_eq_getElem?_getD, hl1] <;> rfl
  refine ⟨a, atI_nat (by rw [List.getElem?_eq_getElem hn, e]), by rw [eg]; exact hS, by rw [eg]; exact List.mem_of_getElem? hl1⟩
theorem wv_gR (m : Mdl) (i : Nat) (v : Int) : wv m i v = gI (gR m.ws (i : Nat)) v := by
  unfold wv gR
  rw [Int.toNat_natCast]
theorem ei (x y : Int) : decide (V.int x = V.int y) = decide (x = y) := decide_eq_decide.mpr ⟨fun z => V.int.inj z, fun z => by rw [z]⟩
/-- a picture of the model -/
abbrev PicOk (m : Mdl) (p : List Int) : Prop := (p.length : Int) = m.many ∧ ∀ x ∈ p, 0 ≤ x ∧ x < m.levels
theorem pic_row {m : Mdl} {p : List Int} (h : PicOk m p) : (rowI m.levels p && decide ((p.length : Int) = m.many)) = true := by
  rw [decide_eq_true h.1, Bool.and_true]
  unfold rowI
  rw [List.all_eq_true]
  intro x hx
  obtain ⟨a, b⟩ := h.2 x hx
  rw [decide_eq_true a, decide_eq_true (show x ≤ m.levels - 1 by omega)] <;> rfl
theorem mod_get {K : PySem.W.Frag} {C : Addr} {H : Hp} {q : Addr} {m : Mdl} (h : ModAt K C H q m) : ∃ dx wa ta wvs tvs, H q = some (.ins C dx (modF m.many m.levels wa ta)) ∧ SqT K H wa wvs ∧ AllIn (RowAt K H) wvs m.ws ∧ SqT K H ta tvs ∧ AllIn (TieAt K H) tvs m.ts := by
  obtain ⟨dx, wa, ta, h1, ⟨wvs, h2, h3⟩, tvs, h4, h5⟩ := h
  exact ⟨dx, wa, ta, wvs, tvs, h1, h2, h3, h4, h5⟩
theorem notin_goes {m : Mdl} (b : List Int) (v : Int) : ∀ ts : List Tie, (!inV (.int 0) ((ts.filter fun t => decide (t.1.2 = (b.length : Int))).map fun t => V.int (tv t (gI b t.1.1) v))) = ts.all (goesT b v)
  | [] => rfl
  | t :: ts => by
    have ih := notin_goes (m := m) b v ts
    rw [List.all_cons, ← ih, List.filter_cons]
    unfold goesT
    by_cases c : t.1.2 = (b.length : Int)
    · rw [decide_eq_true c, if_pos rfl, List.map_cons]
      unfold inV
      rw [List.any_cons, Bool.not_or]
      show (!decide (tv t (gI b t.1.1) v = 0) && _) = ((!true || _) && _)
      rw [Bool.not_true, Bool.false_or]
    · rw [decide_eq_false c, if_neg Bool.false_ne_true, Bool.not_false, Bool.true_or, Bool.true_and]
section
variable {P : Program} {w : World} {K : PySem.W.Frag} {mg : Str → Option Value} {base : Heap}
def spIsPic (K : PySem.W.Frag) (C : Addr) : Sp := fun vs H Q _ => ∃ (q b : Addr) (m : Mdl) (l : List Int), vs = [.ref q, .ref b] ∧ ModAt K C H q m ∧ SqT K H b (l.map V.int) ∧ l.length ≤ 16000000 ∧ ∀ H', Same H H' → Q (.bl (rowI m.levels l && decide ((l.length : Int) = m.many))) H'
abbrev nIsPicture : List Str := ["model", "thing"]
theorem scIsPicture : FnScope nIsPicture ["model", "thing"] (defScope s_is_picture) := ⟨rfl, rfl, rfl, by decide +kernel, rfl, by decide +kernel, by decide +kernel⟩
theorem ok_is_picture {f : Addr} {fd : FuncData} {fcRowI : Addr} {fdcRowI : FuncData} {C : Addr} (F : Fun K "is_picture" "is_picture" s_is_picture f fd) (T : NmA mg) (cRowI : Cl P w K mg base CX0 3 "is_row_below" fcRowI fdcRowI ["bound", "thing"] (spRowI K)) (S : ModT K mg C) : FnOk P w K mg base CX0 4 f fd ["model", "thing"] (spIsPic K C) := by
  refine F.ok scIsPicture (fun vs H Q E h => ?_) (fun cdv A' outer s H vs Q E hr h => ?_)
  · obtain ⟨q, b, m, l, rfl, _⟩ := h
    rfl
  · obtain ⟨q, b, m, l, rfl, hM, hS, ll, k⟩ := h
    refine ⟨_, pss_one (ps_ret (pe_and (cRowI.call (hr.mono (by decide)) (pa_cons (pe_fld (pv 0) rfl) (pa_cons (pv 1) pa_nil))) (pe_one (pe_cmpR op_eq (pe_callB call_len_seq (by rfl) T.len PySem.boot_len (pa_cons (pv 1) pa_nil)) (pe_fld (pv 0) rfl) (nomark _))))), ?_⟩
    obtain ⟨dx, wa, ta, hq, _⟩ := id hM
    refine ⟨_, rfl, q, C, dx, _, _, rfl, hq, S.cl, S.nL, modF_levels _ _ _ _, _, rfl, m.levels, b, l, rfl, hS, ll, fun H1 s1 => ⟨_, rfl, ?_⟩⟩
    cases c : rowI m.levels l with
    | false =>
      rw [c, Bool.false_and] at k
      exact iteF (k H1 s1)
    | true =>
      rw [c, Bool.true_and] at k
      refine iteT ⟨_, rfl, b, _, rfl, .inr (s1.sqT hS), _, rfl, q, C, dx, _, _, rfl, s1 _ _ hq, S.cl, S.nK, modF_many _ _ _ _, rfl, ?_⟩
      rw [ei, List.length_map]
      exact k H1 s1
def spWeight (K : PySem.W.Frag) (C : Addr) : Sp := fun vs H Q _ => ∃ (q b : Addr) (m : Mdl) (p : List Int), vs = [.ref q, .ref b] ∧ ModAt K C H q m ∧ MOk m ∧ SqT K H b (p.map V.int) ∧ PicOk m p ∧ ∀ H', Same H H' → Q (.int (wt m p)) H'
abbrev nWeight : List Str := ["model", "picture", "found", "value", "row", "one", "other", "table"]
theorem scWeight : FnScope nWeight ["model", "picture"] (defScope s_weight) := ⟨rfl, rfl, rfl, by decide +kernel, rfl, by decide +kernel, by decide +kernel⟩
theorem ok_weight {f : Addr} {fd : FuncData} {fcIsPic : Addr} {fdcIsPic : FuncData} {C : Addr} (F : Fun K "weight" "weight" s_weight f fd) (T : NmA mg) (cIsPic : Cl P w K mg base CX0 4 "is_picture" fcIsPic fdcIsPic ["model", "thing"] (spIsPic K C)) (S : ModT K mg C) : FnOk P w K mg base CX0 5 f fd ["model", "picture"] (spWeight K C) := by
  refine F.ok scWeight (fun vs H Q E h => ?_) (fun cdv A' outer s H vs Q E hr h => ?_)
  · obtain ⟨q, b, m, p, rfl, _⟩ := h
    rfl
  · obtain ⟨q, b, m, p, rfl, hM, ok, hS, hp, k⟩ := h
    refine ⟨_, pss_cons (ps_if (pt_not (pt_val (cIsPic.call (hr.mono (by decide)) (pa_cons (pv 0) (pa_cons (pv 1) pa_nil)))))
        pss_never pss_nil)
      (pss_cons (ps_set (i := 2) scWeight.nd rfl (Or.inl rfl) pe_int)
      (pss_cons (ps_for PassesOwn.never rfl (RZ.pi_zipA (by rfl) T.zip (pa_cons (pv 1) (pa_cons (pe_fld (pv 0) rfl) pa_nil))) (pg_tup (by rfl) (pgs_cons (pg_name (i := 3) scWeight.nd rfl (Or.inl rfl)) (pgs_cons (pg_name (i := 4) scWeight.nd rfl (Or.inl rfl)) pgs_nil)))
        (pss_one (ps_set (i := 2) scWeight.nd rfl (Or.inl rfl) (pe_op op_mul (pv 2) (pe_ix ix_tup (pv 4) (pv 3) (fun _ _ => rfl))))))
      (pss_cons (ps_for PassesOwn.never rfl (pi_tup (pe_fld (pv 0) rfl)) (pg_tup (by rfl) (pgs_cons (pg_name (i := 5) scWeight.nd rfl (Or.inl rfl)) (pgs_cons (pg_name (i := 6) scWeight.nd rfl (Or.inl rfl)) (pgs_cons (pg_name (i := 7) scWeight.nd rfl (Or.inl rfl)) pgs_nil))))
        (pss_one (ps_set (i := 2) scWeight.nd rfl (Or.inl rfl) (pe_op op_mul (pv 2) (pe_ix ix_tup (pe_ix ix_tup (pv 7) (pe_ix ix_tup (pv 1) (pv 5) (fun _ _ => rfl)) (fun _ _ => rfl)) (pe_ix ix_tup (pv 1) (pv 6) (fun _ _ => rfl)) (fun _ _ => rfl))))))
      (pss_one (ps_ret (pv 2)))))), ?_⟩
    have pl : p.length ≤ 16000000 := by have := hp.1; have := ok.m12; omega
    refine ⟨_, rfl, _, rfl, q, b, m, p, rfl, hM, hS, pl, fun H1 s1 => ⟨_, rfl, ?_⟩⟩
    rw [pic_row hp]
    refine iteF ?_
    have hM1 := hM.same s1
    have hS1 := s1.sqT hS
    obtain ⟨dx, wa, ta, wvs, tvs, hq, hW, aW, hT, aT⟩ := mod_get hM1
    have wl : (p.map V.int).length = wvs.length := by rw [List.length_map, aW.1]; have := hp.1; have := ok.wl; omega
    refine ⟨_, rfl, _, rfl, q, C, dx, _, _, rfl, hq, S.cl, S.nW, modF_weights _ _ _ _, b, wa, _, _, rfl, .inr ⟨hS1, hW, RZ.for_zipT wl (fun i σ H' => Same H1 H' ∧ ∃ u1 u2 : Option V, σ = [some (.ref q), some (.ref b), some (.int (wtW m p i)), u1, u2, none, none, none]) ⟨Same.refl _, none, none, rfl⟩ (fun i σ H' h => ⟨h.1.sqT hS1, h.1.sqT hW⟩) ?_ ?_⟩⟩
    · rintro i x y T σ H2 hx hy ⟨s2, u1, u2, rfl⟩ hT2
      rw [List.getElem?_map] at hx
      obtain ⟨z, hz, rfl⟩ := Option.map_eq_some_iff.mp hx
      obtain ⟨l, hl, a, rfl, ha⟩ := aW.2 i y hy
      have z01 := hp.2 z (List.mem_of_getElem? hz)
      have ll := (ok.wr l (List.mem_of_getElem? hl)).1
      have s3 : Same H2 (upd H2 T (.tup [.int z, .ref a])) := Same.new hT2
      have ha3 := (s2.trans s3).sqT ha
      have ew : wv m i (gI p (i : Nat)) = gI l z := by
        rw [wv_gR, gI_get hz]
        unfold gR
        rw [Int.toNat_natCast, List.getD_eq_getElem?_getD, hl] <;> rfl
      have b1 := wv_nn ok i (gI p (i : Nat))
      rw [ew] at b1
      refine ⟨T, _, rfl, SqT.of upd_same, rfl, _, _, rfl, _, _, rfl, rfl, ?_⟩
      refine ⟨_, rfl, _, rfl, _, rfl, a, _, _, _, rfl, rfl, ha3, atI_gI z01.1 (by omega), _, _, rfl, rfl, .inr ⟨by omega, by omega⟩, s2.trans s3, some (.int z), some (.ref a), ?_⟩
      rw [show wtW m p (i + 1) = wtW m p i * gI l z by rw [← ew] <;> rfl]
      rfl
    · rintro σ H2 ⟨s2, u1, u2, rfl⟩
      have hT2 := s2.sqT hT
      have en : (p.map V.int).length = m.many.toNat := by rw [List.length_map]; have := hp.1; omega
      rw [en]
      refine ⟨_, rfl, q, C, dx, _, _, rfl, s2 _ _ hq, S.cl, S.nT, modF_ties _ _ _ _, ta, rfl, ⟨_, hT2⟩, for_tup (fun i σ H' => Same H2 H' ∧ ∃ u1 u2 u3 u4 u5 : Option V, σ = [some (.ref q), some (.ref b), some (.int (wtT p (wtW m p m.many.toNat) (m.ts.take i))), u1, u2, u3, u4, u5]) ⟨Same.refl _, _, _, _, _, _, rfl⟩ (fun i σ H' _ h => h.1.sqT hT2) ?_ ?_⟩
      · rintro i x σ H3 hi ⟨s3, u1, u2, u3, u4, u5, rfl⟩
        obtain ⟨t, ht, c, d, rfl, hc, vs, hd, aR⟩ := aT.2 i x hi
        obtain ⟨t0, t1, t2, t3, t4⟩ := ok.tt t (List.mem_of_getElem? ht)
        have s13 := s2.trans s3
        have hS3 := s13.sqT hS1
        have p1 := gI_in (lo := 0) (hi := m.levels) t0 (by have := hp.1; omega) hp.2
        have p2 := gI_in (lo := 0) (hi := m.levels) (i := t.1.2) (by omega) (by have := hp.1; omega) hp.2
        obtain ⟨r, r1, r2, r3⟩ := row_at aR (i := gI p t.1.1) p1.1 (by omega)
        have rl := (t4 _ r3).1
        have b1 : 0 ≤ gI (gR t.2 (gI p t.1.1)) (gI p t.1.2) ∧ _ := tv_nn ok (List.mem_of_getElem? ht) (gI p t.1.1) (gI p t.1.2)
        have hl : ∀ {i : Int}, 0 ≤ i → i < m.many → atI (p.map V.int) i = some (.int (gI p i)) := fun h0 h1 => atI_gI h0 (by have := hp.1; omega)
        refine ⟨c, _, rfl, s13.sqT hc, rfl, _, _, rfl, _, _, rfl, _, _, rfl, rfl, ?_⟩
        refine ⟨_, rfl, _, rfl, _, rfl, _, rfl, b, _, _, _, rfl, rfl, hS3, hl t0 (by omega), d, _, _, _, rfl, rfl, s13.sqT hd, r1, _, rfl, _, rfl, b, _, _, _, rfl, rfl, hS3, hl (by omega) t2, r, _, _, _, rfl, rfl, s13.sqT r2, atI_gI p2.1 (by omega), _, _, rfl, rfl, .inr ⟨by omega, by have := b1.2; show gI (gR t.2 (gI p t.1.1)) (gI p t.1.2) < _; have : gI (gR t.2 (gI p t.1.1)) (gI p t.1.2) ≤ 1000 := b1.2; omega⟩, s3, u1, u2, some (.int t.1.1), some (.int t.1.2), some (.ref d), ?_⟩
        rw [wtT_snoc ht]
        rfl
      · rintro σ H3 ⟨s3, u1, u2, u3, u4, u5, rfl⟩
        rw [aT.1, List.take_length]
        exact ⟨_, rfl, k H3 ((s1.trans s2).trans s3)⟩
def spGoes (K : PySem.W.Frag) (C : Addr) : Sp := fun vs H Q _ => ∃ (q b : Addr) (m : Mdl) (g : List Int) (v : Int), vs = [.ref q, .ref b, .int v] ∧ ModAt K C H q m ∧ MOk m ∧ SqT K H b (g.map V.int) ∧ (g.length : Int) < m.many ∧ (∀ x ∈ g, 0 ≤ x ∧ x < m.levels) ∧ 0 ≤ v ∧ v < m.levels ∧ ∀ H', Same H H' → Q (.bl (goesB m g v)) H'
abbrev nGoesOn : List Str := ["model", "begun", "value", "place", "numbers", "one", "other", "table"]
theorem scGoesOn : FnScope nGoesOn ["model", "begun", "value"] (defScope s_goes_on) := ⟨rfl, rfl, rfl, by decide +kernel, rfl, by decide +kernel, by decide +kernel⟩
theorem ok_goes_on {f : Addr} {fd : FuncData} {C : Addr} (F : Fun K "goes_on" "goes_on" s_goes_on f fd) (T : NmA mg) (S : ModT K mg C) : FnOk P w K mg base CX0 1 f fd ["model", "begun", "value"] (spGoes K C) := by
  refine F.ok scGoesOn (fun vs H Q E h => ?_) (fun cdv A' outer s H vs Q E hr h => ?_)
  · obtain ⟨q, b, m, g, v, rfl, _⟩ := h
    rfl
  · obtain ⟨q, b, m, g, v, rfl, hM, ok, hS, gl, gv, v0, v1, k⟩ := h
    have hu := hu_of hr
    refine ⟨_, pss_cons (ps_set (i := 3) scGoesOn.nd rfl (Or.inr rfl) (pe_callB call_len_seq (by rfl) T.len PySem.boot_len (pa_cons (pv 1) pa_nil)))
      (pss_cons (ps_setLc (i := 4) (own := [("one", 5), ("other", 6), ("table", 7)]) (g := (gTup K 3 (gCons (gName 5) (gCons (gName 6) (gCons (gName 7) gNil))))) (tt := _) (by rfl) scGoesOn.nd rfl rfl (sw_true rfl rfl rfl (by decide +kernel)) (pi_tup (pe_fld (pv 0) rfl)) (blkOk_by (own := [("one", 5), ("other", 6), ("table", 7)]) (N := nGoesOn) (sc := defScope s_goes_on) (by decide +kernel)) (fun _ _ _ _ _ => (pg_tup (by rfl) (pgs_cons (pg_name (i := 5) scGoesOn.nd rfl (Or.inl rfl)) (pgs_cons (pg_name (i := 6) scGoesOn.nd rfl (Or.inl rfl)) (pgs_cons (pg_name (i := 7) scGoesOn.nd rfl (Or.inl rfl)) pgs_nil))))) (fun _ _ _ _ _ => (pts_one (pt_cmpR op_eq (pv 6) (pv 3) (nomark _)))) (fun _ _ _ _ _ => (pe_ix (r := rIxT K) (show IxR _ (rIxT K) from ix_tup) (pe_ix (r := rIxT K) (show IxR _ (rIxT K) from ix_tup) (pv 7) (pe_ix (r := rIxT K) (show IxR _ (rIxT K) from ix_tup) (pv 1) (pv 5) (fun _ _ => rfl)) (fun _ _ => rfl)) (pv 2) (fun _ _ => rfl))))
      (pss_one (ps_ret (pe_and (pe_cmpR op_gt (pe_ix ix_tup (pe_ix ix_tup (pe_fld (pv 0) rfl) (pv 3) (fun _ _ => rfl)) (pv 2) (fun _ _ => rfl)) pe_int (nomark _)) (pe_one (pe_cmpR op_notIn_seq pe_int (pv 4) (by rfl))))))), ?_⟩
    obtain ⟨dx, wa, ta, wvs, tvs, hq, hW, aW, hT, aT⟩ := mod_get hM
    have m12 := ok.m12
    refine ⟨_, rfl, b, _, rfl, .inr hS, ?_⟩
    rw [List.length_map]
    refine ⟨_, rfl, q, C, dx, _, _, rfl, hq, S.cl, S.nT, modF_ties _ _ _ _, ta, rfl, ⟨_, hT⟩, fun D hD => ?_⟩
    refine lc_tup (K := K) (a := ta) (xs := tvs) (fun i H' => Same H H' ∧ H' D = some (.lst (((m.ts.take i).filter fun t => decide (t.1.2 = (g.length : Int))).map fun t => V.int (tv t (gI g t.1.1) v)))) ⟨Same.new hD, upd_same⟩ (fun i H' _ h => h.1.sqT hT) ?_ ?_
    · rintro i x H' hi ⟨s1, h1⟩
      obtain ⟨t, ht, c, d, rfl, hc, vs, hd, aR⟩ := aT.2 i x hi
      obtain ⟨t0, t1, t2, t3, t4⟩ := ok.tt t (List.mem_of_getElem? ht)
      have il := (List.getElem?_eq_some_iff.mp ht).1
      have fs := filter_snoc (f := fun t : Tie => decide (t.1.2 = (g.length : Int))) ht
      refine ⟨c, _, rfl, s1.sqT hc, rfl, _, _, rfl, _, _, rfl, _, _, rfl, rfl, ?_⟩
      refine ⟨rfl, _, rfl, _, rfl, rfl, _, rfl, ?_⟩
      rw [ei]
      refine ite2 (fun c1 => ?_) (fun c1 => ?_)
      · rw [if_pos c1] at fs
        have c1 := of_decide_eq_true c1
        have p1 := gI_in (lo := 0) (hi := m.levels) (l := g) (i := t.1.1) t0 (by omega) gv
        obtain ⟨r, r1, r2, r3⟩ := row_at aR (i := gI g t.1.1) p1.1 (by omega)
        have rl := (t4 _ r3).1
        refine ⟨_, rfl, _, rfl, _, rfl, b, _, _, _, rfl, rfl, s1.sqT hS, atI_gI t0 (by omega), d, _, _, _, rfl, rfl, s1.sqT hd, r1, _, rfl, r, _, _, _, rfl, rfl, s1.sqT r2, atI_gI v0 (by omega), _, h1, ?_, s1.mut hD, ?_⟩
        · have z := List.length_filter_le (fun t : Tie => decide (t.1.2 = (g.length : Int))) (m.ts.take i)
          have := ok.tn
          rw [List.length_take] at z
          rw [List.length_map]
          exact small1000 (by omega)
        · rw [upd_same, fs, List.map_append] <;> rfl
      · rw [if_neg c1, List.append_nil] at fs
        exact ⟨s1, by rw [fs]; exact h1⟩
    · rintro H' ⟨s1, h1⟩
      rw [aT.1, List.take_length] at h1
      obtain ⟨r, r1, r2, r3⟩ := row_at aW (i := (g.length : Int)) (by omega) (by have := ok.wl; omega)
      have rl := (ok.wr _ r3).1
      refine ⟨_, rfl, q, C, dx, _, _, rfl, s1 _ _ hq, S.cl, S.nW, modF_weights _ _ _ _, _, rfl, wa, _, _, _, rfl, rfl, s1.sqT hW, r1, _, rfl, r, _, _, _, rfl, rfl, s1.sqT r2, atI_gI v0 (by omega), _, _, rfl, rfl, _, rfl, ?_⟩
      rw [← wv_gR]
      unfold goesB at k
      rw [← notin_goes (m := m)] at k
      change (if decide (0 < wv m g.length v) = true then _ else _)
      cases c : decide (0 < wv m g.length v) with
      | false =>
        rw [c, Bool.false_and] at k
        exact iteF (k H' s1)
      | true =>
        rw [c, Bool.true_and] at k
        refine iteT ⟨_, rfl, D, _, rfl, .inl (SqL.of h1), rfl, ?_, ?_⟩
        · rw [List.all_map, List.all_eq_true]
          exact fun _ _ => rfl
        · rw [if_pos rfl]
          exact k H' s1
end
end Law

namespace L2
open PySem
def IsX (H : Hp) (d : Addr) : Prop := ∃ φ, H d = some (.ext φ)
section
variable {H H' : Hp} {d : Addr}
theorem NDic.ext {P : Program} {w : World} {ks : List NKey} (h : NDic P w H d ks) : IsX H d := by
  obtain ⟨xs, _, e, _⟩ := h
  exact ⟨_, e⟩
theorem NDic.same {P : Program} {w : World} {ks : List NKey} (h : NDic P w H d ks) (s : Same H H') : NDic P w H' d ks := by
  obtain ⟨xs, h1, h2, h3⟩ := h
  refine ⟨xs, h1, s _ _ h2, fun x hx => ?_⟩
  obtain ⟨c, z1, z2⟩ := h3 x hx
  exact ⟨c, s _ _ z1, s _ _ z2⟩
theorem NDic.updL {P : Program} {w : World} {ks : List NKey} {F : Addr} {acc : List V} {o : HO} (h : NDic P w H d ks) (hF : H F = some (.lst acc)) : NDic P w (upd H F o) d ks := by
  obtain ⟨xs, h1, h2, h3⟩ := h
  refine ⟨xs, h1, by rw [upd_ne (ne_of h2 hF (by intro z; cases z))]; exact h2, fun x hx => ?_⟩
  obtain ⟨c, z1, z2⟩ := h3 x hx
  exact ⟨c, by rw [upd_ne (ne_of z1 hF (by intro z; cases z))]; exact z1, by rw [upd_ne (ne_of z2 hF (by intro z; cases z))]; exact z2⟩
end
end L2
namespace Law
open PySem L2
/-! ### all stands but the dict at d -/
def Exc (d : Addr) (H H' : Hp) : Prop := ∀ c o, c ≠ d → H c = some o → H' c = some o
section
variable {K : PySem.W.Frag} {H H' H1 H2 : Hp} {d : Addr}
theorem Exc.trans (a : Exc d H H1) (b : Exc d H1 H2) : Exc d H H2 := fun c o n e => b c o n (a c o n e)
theorem Exc.of (s : Same H H') : Exc d H H' := fun c o _ e => s c o e
theorem Exc.get (e : Exc d H H') (x : IsX H d) {c : Addr} {o : HO} (h : H c = some o) (ne : ∀ φ, o ≠ .ext φ) : H' c = some o := by
  obtain ⟨φ, x⟩ := x
  exact e c o (ne_of h x (ne φ)) h
theorem Exc.mut {F : Addr} {o : HO} (e : Exc d H H') (h : H F = none) : Exc d H (upd H' F o) := fun c u n z => by
  rw [upd_ne (ne_of_none z h)]
  exact e c u n z
theorem Exc.sqT (e : Exc d H H') (x : IsX H d) {a : Addr} {xs : List V} (h : SqT K H a xs) : SqT K H' a xs := by
  rcases h with (h | ⟨o, h⟩) | h
  · exact .inl (.inl (e.get x h (by intro φ z; cases z)))
  · exact .inl (.inr ⟨o, e.get x h (by intro φ z; cases z)⟩)
  · exact .inr h
theorem Exc.row (e : Exc d H H') (x : IsX H d) {v : V} {l : List Int} (h : RowAt K H v l) : RowAt K H' v l := by
  obtain ⟨a, h1, h2⟩ := h
  exact ⟨a, h1, e.sqT x h2⟩
theorem Exc.rows (e : Exc d H H') (x : IsX H d) {a : Addr} {t : List (List Int)} (h : RowsAt K H a t) : RowsAt K H' a t := by
  obtain ⟨vs, h1, h2⟩ := h
  exact ⟨vs, e.sqT x h1, h2.mono fun _ _ => e.row x⟩
theorem Exc.tie (e : Exc d H H') (x : IsX H d) {v : V} {t : Tie} (h : TieAt K H v t) : TieAt K H' v t := by
  obtain ⟨a, b, h1, h2, h3⟩ := h
  exact ⟨a, b, h1, e.sqT x h2, e.rows x h3⟩
theorem Exc.mod {C : Addr} (e : Exc d H H') (x : IsX H d) {q : Addr} {m : Mdl} (h : ModAt K C H q m) : ModAt K C H' q m := by
  obtain ⟨dx, w, t, h1, h2, vs, h3, h4⟩ := h
  exact ⟨dx, w, t, e.get x h1 (by intro φ z; cases z), e.rows x h2, vs, e.sqT x h3, h4.mono fun _ _ => e.tie x⟩
end
theorem AllIn.app {α : Type} {R : V → α → Prop} {vs ws : List V} {l r : List α} (h : AllIn R vs l) (g : AllIn R ws r) : AllIn R (vs ++ ws) (l ++ r) := by
  refine ⟨by rw [List.length_append, List.length_append, h.1, g.1], fun i v hv => ?_⟩
  by_cases c : i < vs.length
  · rw [List.getElem?_append_left c] at hv
    obtain ⟨x, h1, h2⟩ := h.2 i v hv
    exact ⟨x, by rw [List.getElem?_append_left (by rw [← h.1]; exact c)]; exact h1, h2⟩
  · rw [List.getElem?_append_right (by omega)] at hv
    obtain ⟨x, h1, h2⟩ := g.2 _ v hv
    exact ⟨x, by rw [List.getElem?_append_right (by rw [← h.1]; omega), ← h.1]; exact h1, h2⟩
def upto (m : Mdl) (n : Nat) (g : List Int) (i : Nat) : List (List Int) := ((valsM m).take i).flatMap fun v => if goesB m g v = true then ext m n (g ++ [v]) else []
theorem upto_succ {m : Mdl} {n : Nat} {g : List Int} {i : Nat} (h : i < m.levels.toNat) : upto m n g (i + 1) = upto m n g i ++ if goesB m g i = true then ext m n (g ++ [(i : Int)]) else [] := by
  unfold upto
  have e : (valsM m)[i]? = some (i : Int) := by
    unfold valsM
    rw [List.getElem?_map, List.getElem?_range h] <;> rfl
  rw [List.take_add_one, e, List.flatMap_append]
  congr 1
  show List.flatMap _ [(i : Int)] = _
  rw [List.flatMap_cons, List.flatMap_nil, List.append_nil]
theorem upto_all (m : Mdl) (n : Nat) (g : List Int) : upto m n g m.levels.toNat = ext m (n + 1) g := by
  unfold upto
  rw [List.take_of_length_le (by unfold valsM; rw [List.length_map, List.length_range]; exact Nat.le_refl _)] <;> rfl
theorem take_nil {α : Type} {A : List α} {n : Nat} (hn : 0 < n) : (A.take n).isEmpty = true ↔ A = [] := by
  cases A with
  | nil => simp
  | cons x A =>
    cases n with
    | zero => omega
    | succ n => simp
end Law
namespace L2
open PySem PySem.Spec PyProof.Rows
/-- a list == [] -/
def rEqL0 (K : PySem.W.Frag) : R2 := fun x y H Q => ∃ p q xs, x = .ref p ∧ y = .ref q ∧ SqL K H p xs ∧ SqL K H q [] ∧ Q (.bl xs.isEmpty) H
theorem op_eqL0 {X : Cx} (hu : X.A.units + 64 < cLine) : OpR X (compareOp .Eq) (rEqL0 X.K) := by
  intro pins s σ H x y v u Q I rx ry h
  obtain ⟨p, q, xs, rfl, rfl, hp, hq, k⟩ := h
  cases (show v = Value.ref p from rx)
  cases (show u = Value.ref q from ry)
  obtain ⟨us, r1, p1, _⟩ := I.list hp
  obtain ⟨ws, r2, p2, _⟩ := I.list hq
  cases r2
  cases xs with
  | nil =>
    cases r1
    exact SeqAt.eq_listAt (e := fun _ => true) p1.isList p2.isList rfl (by omega) (fun j h1 h2 => absurd h1 (Nat.not_lt_zero j)) ⟨.bl true, H, I, rfl, k⟩
  | cons x xs =>
    cases r1
    exact SeqAt.eq_list_lengthsAt p1.isList p2.isList rfl (by omega) ⟨.bl false, H, I, rfl, k⟩
end L2
namespace Law
open PySem L2
theorem catA_ok {K : PySem.W.Frag} {H : Hp} {a b : Addr} {xs ys : List V} {Q : VK} (ha : SqT K H a xs) (hb : SqT K H b ys) (ny : ys ≠ []) (hl : xs.length + ys.length ≤ sizeLine) (k : ∀ p H', Same H H' → SqT K H' p (xs ++ ys) → Q (.ref p) H') : rCatA K (.ref a) (.ref b) H Q :=
  ⟨a, b, xs, ys, rfl, rfl, ha, hb, hl, fun z => k b H (Same.refl H) (by rw [z]; exact hb), fun _ z => absurd z ny, fun _ _ p hp => k p _ (Same.new hp) (SqT.of upd_same)⟩
section
variable {P : Program} {w : World} {K : PySem.W.Frag} {mg : Str → Option Value} {base : Heap}
def spFF (P : Program) (w : World) (K : PySem.W.Frag) (C : Addr) (n : Nat) : Sp := fun vs H Q _ => ∃ (q b d : Addr) (m : Mdl) (g : List Int) (most : Int) (ks : List NKey), vs = [.ref q, .ref b, .int most, .ref d] ∧ ModAt K C H q m ∧ MOk m ∧ SqT K H b (g.map V.int) ∧ ((g.length + n : Nat) : Int) = m.many ∧ (∀ x ∈ g, 0 ≤ x ∧ x < m.levels) ∧ 1 ≤ most ∧ most ≤ 1001 ∧ NDic P w H d ks ∧ DeadOk m ks ∧ ks.length + addN n ≤ 6000000 ∧
  ∀ (p : Addr) (vs' : List V) (ks' : List NKey) (H' : Hp), H p = none → Exc d H H' → H' p = some (.lst vs') → AllIn (RowAt K H') vs' ((ext m n g).take most.toNat) → NDic P w H' d ks' → DeadOk m ks' → ks'.length ≤ ks.length + addN n → Q (.ref p) H'
abbrev nFittingFrom : List Str := ["model", "begun", "most", "dead", "place", "key", "found", "value", "one", "other", "_"]
theorem scFittingFrom : FnScope nFittingFrom ["model", "begun", "most", "dead"] (defScope s_fitting_from) := ⟨rfl, rfl, rfl, by decide +kernel, rfl, by decide +kernel, by decide +kernel⟩
theorem ok_ffs {f : Addr} {fd : FuncData} {fcRec : Addr} {fdcRec : FuncData} {fcGoes : Addr} {fdcGoes : FuncData} {C : Addr} {n : Nat} (F : Fun K "fitting_from" "fitting_from" s_fitting_from f fd) (T : NmA mg) (cRec : Cl P w K mg base CX0 (n + 2) "fitting_from" fcRec fdcRec ["model", "begun", "most", "dead"] (spFF P w K C n)) (cGoes : Cl P w K mg base CX0 1 "goes_on" fcGoes fdcGoes ["model", "begun", "value"] (spGoes K C)) (S : ModT K mg C) : FnOk P w K mg base CX0 (n + 3) f fd ["model", "begun", "most", "dead"] (spFF P w K C (n + 1)) := by
  refine F.ok scFittingFrom (fun vs H Q E h => ?_) (fun cdv A' outer s H vs Q E hr h => ?_)
  · obtain ⟨q, b, d, m, g, most, ks, rfl, _⟩ := h
    rfl
  · obtain ⟨q, b, d, m, g, most, ks, rfl, hM, ok, hS, gl, gv, m1, m2, hD, dk, kl, k⟩ := h
    have hu := hu_of hr
    have hu9 := Nat.lt_of_le_of_lt (Nat.add_le_add_left (show 9 ≤ 64 by decide) _) hr.units
    refine ⟨_, pss_cons (ps_set (i := 4) scFittingFrom.nd rfl (Or.inr rfl) (pe_callB call_len_seq (by rfl) T.len PySem.boot_len (pa_cons (pv 1) pa_nil)))
      (pss_cons (ps_if (pt_cmpR op_eq (pv 4) (pe_fld (pv 0) rfl) (nomark _))
        (pss_one (ps_ret (pe_lst (pa_cons (pv 1) pa_nil)))) pss_nil)
      (pss_cons (ps_set (i := 5) scFittingFrom.nd rfl (Or.inl rfl) (pe_tup (pa_cons (pv 4) (pa_cons (pe_callTy call_tuple_of (by rfl) T.tuple (by decide +kernel) (pa_cons (pe_lc (own := [("one", 8), ("other", 9), ("_", 10)]) (g := (gTup K 3 (gCons (gName 8) (gCons (gName 9) (gCons (gName 10) gNil))))) (tt := _) rfl scFittingFrom.nd  (pi_tup (pe_fld (pv 0) rfl)) (blkOk_by (own := [("one", 8), ("other", 9), ("_", 10)]) (N := nFittingFrom) (sc := defScope s_fitting_from) (by decide +kernel)) (fun _ _ _ _ _ => (pg_tup (by rfl) (pgs_cons (pg_name (i := 8) scFittingFrom.nd rfl (Or.inl rfl)) (pgs_cons (pg_name (i := 9) scFittingFrom.nd rfl (Or.inl rfl)) (pgs_cons (pg_name (i := 10) scFittingFrom.nd rfl (Or.inl rfl)) pgs_nil))))) (fun _ _ _ _ _ => (pts_one (pt_chain op_lt op_le (pv 8) (pv 4) (pv 9)))) (fun _ _ _ _ _ => (pe_ix (r := rIxT K) (show IxR _ (rIxT K) from ix_tup) (pv 1) (pv 8) (fun _ _ => rfl)))) pa_nil)) pa_nil))))
      (pss_cons (ps_set (i := 6) scFittingFrom.nd rfl (Or.inl rfl) (pe_lst pa_nil))
      (pss_cons (ps_if (pt_cmp (pc_ndin hu9 (pv 5) (pv 3)))
        (pss_one (ps_ret (pv 6))) pss_nil)
      (pss_cons (ps_for PassesOwn.never rfl (pi_range1 (by rfl) T.range (pa_cons (pe_fld (pv 0) rfl) pa_nil)) (pg_name (i := 7) scFittingFrom.nd rfl (Or.inl rfl))
        (pss_one (ps_if (PW.pt (pw_and (pt_cmpR op_lt (pe_callB call_len_seq (by rfl) T.len PySem.boot_len (pa_cons (pv 6) pa_nil)) (pv 2) (nomark _)) (pw_and1 (pt_val (cGoes.call (hr.mono (by omega)) (pa_cons (pv 0) (pa_cons (pv 1) (pa_cons (pv 7) pa_nil))))))))
          (pss_one (ps_expr (pe_bm PySem.F.plainAttrs_list PySem.F.slot_list_extend PySem.F.type_list_extend mt_extend (pv 6) (pa_cons (cRec.call hr (pa_cons (pv 0) (pa_cons (pe_op op_catA (pv 1) (pe_tup (pa_cons (pv 7) pa_nil))) (pa_cons (pe_op op_sub (pv 2) (pe_callB call_len_seq (by rfl) T.len PySem.boot_len (pa_cons (pv 6) pa_nil))) (pa_cons (pv 3) pa_nil))))) pa_nil)))) pss_nil)))
      (pss_cons (ps_if (pt_cmpR (op_eqL0 hr.units) (pv 6) (pe_lst pa_nil) (nomark _))
        (pss_one (ps_ndput hu9 (pv 3) (pv 5) pe_bl rfl)) pss_nil)
      (pss_one (ps_ret (pv 6))))))))), ?_⟩
    obtain ⟨dx, wa, ta, wvs, tvs, hq, hW, aW, hT, aT⟩ := mod_get hM
    have m12 := ok.m12
    refine ⟨_, rfl, b, _, rfl, .inr hS, ?_⟩
    rw [List.length_map]
    refine ⟨_, rfl, _, rfl, q, C, dx, _, _, rfl, hq, S.cl, S.nK, modF_many _ _ _ _, rfl, _, rfl, ?_⟩
    rw [ei, decide_eq_false (by omega)]
    refine iteF ?_
    refine ⟨_, rfl, _, rfl, q, C, dx, _, _, rfl, hq, S.cl, S.nT, modF_ties _ _ _ _, ta, rfl, ⟨_, hT⟩, fun D hDn => ?_⟩
    refine lc_tup (K := K) (a := ta) (xs := tvs) (fun i H' => Same H H' ∧ H' D = some (.lst (((m.ts.take i).filter fun t => decide (t.1.1 < (g.length : Int)) && decide ((g.length : Int) ≤ t.1.2)).map fun t => V.int (gI g t.1.1)))) ⟨Same.new hDn, upd_same⟩ (fun i H' _ h => h.1.sqT hT) ?_ ?_
    · rintro i x H' hi ⟨s1, h1⟩
      obtain ⟨t, ht, c, e, rfl, hc, _⟩ := aT.2 i x hi
      obtain ⟨t0, t1, t2, _⟩ := ok.tt t (List.mem_of_getElem? ht)
      have fs := filter_snoc (f := fun t : Tie => decide (t.1.1 < (g.length : Int)) && decide ((g.length : Int) ≤ t.1.2)) ht
      have out : (decide (t.1.1 < (g.length : Int)) && decide ((g.length : Int) ≤ t.1.2)) = false → Same H H' ∧ H' D = some (.lst (((m.ts.take (i + 1)).filter fun t => decide (t.1.1 < (g.length : Int)) && decide ((g.length : Int) ≤ t.1.2)).map fun t => V.int (gI g t.1.1))) := fun e2 => by
        rw [e2, if_neg Bool.false_ne_true, List.append_nil] at fs
        exact ⟨s1, by rw [fs]; exact h1⟩
      refine ⟨c, _, rfl, s1.sqT hc, rfl, _, _, rfl, _, _, rfl, _, _, rfl, rfl, ?_⟩
      refine ⟨rfl, _, rfl, _, rfl, _, _, rfl, rfl, _, rfl, ?_⟩
      cases c1 : decide (t.1.1 < (g.length : Int)) with
      | false => exact iteF ⟨_, rfl, iteF (out (by rw [c1] <;> rfl))⟩
      | true =>
        refine iteT ⟨_, rfl, _, _, rfl, rfl, _, rfl, ?_⟩
        cases c2 : decide ((g.length : Int) ≤ t.1.2) with
        | false => exact iteF (out (by rw [c1, c2] <;> rfl))
        | true =>
          rw [c1, c2] at fs
          have c1 := of_decide_eq_true c1
          refine iteT ⟨_, rfl, _, rfl, b, _, _, _, rfl, rfl, s1.sqT hS, atI_gI t0 c1, _, h1, ?_, s1.mut hDn, ?_⟩
          · have z := List.length_filter_le (fun t : Tie => decide (t.1.1 < (g.length : Int)) && decide ((g.length : Int) ≤ t.1.2)) (m.ts.take i)
            have := ok.tn
            rw [List.length_take] at z
            rw [List.length_map]
            exact small1000 (by omega)
          · rw [upd_same, fs, List.map_append] <;> rfl
    rintro H1 ⟨s1, h1⟩
    rw [aT.1, List.take_length] at h1
    have eK : ((m.ts.filter fun t => decide (t.1.1 < (g.length : Int)) && decide ((g.length : Int) ≤ t.1.2)).map fun t => V.int (gI g t.1.1)) = (keyL m g).map V.int := by
      unfold keyL
      rw [List.map_map] <;> rfl
    rw [eK] at h1
    refine ⟨D, _, rfl, .inl ⟨SqL.of h1, fun T hTn => ?_⟩⟩
    refine new_step hTn fun H2 s2 e2 => ?_
    refine ⟨by show 2 ≤ sizeLine; decide, fun kp hkp => ?_⟩
    refine new_step hkp fun H3 s3 e3 => ?_
    refine ⟨by show 0 ≤ sizeLine; decide, fun F hF => ?_⟩
    have s03 := (s1.trans s2).trans s3
    have F0 : H F = none := s03.free hF
    refine new_step hF fun H4 s4 e4 => ?_
    have s04 := s03.trans s4
    have nk3 : NKAt H3 kp ((g.length : Int), keyL m g) := ⟨T, e3, s3 _ _ e2⟩
    have nk : NKAt H4 kp ((g.length : Int), keyL m g) := ⟨T, s4 _ _ e3, (s3.trans s4) _ _ e2⟩
    have hD3 := hD.same s03
    have hD4 := hD.same s04
    have xd3 := hD3.ext
    refine ⟨_, rfl, _, rfl, d, kp, _, ks, rfl, rfl, nk, hD4, _, rfl, ite2 (fun c => ?_) (fun _ => ?_)⟩
    · have c := of_decide_eq_true c
      have z := dk _ c g rfl rfl
      have en : m.many.toNat - g.length = n + 1 := by omega
      rw [en] at z
      refine ⟨_, rfl, k F [] ks H4 F0 (Exc.of s04) e4 ?_ hD4 dk (by omega)⟩
      rw [z, List.take_nil]
      exact AllIn.nil
    have hM3 := hM.same s03
    have hS3 := s03.sqT hS
    have l1 := ok.l1
    have l4 := ok.l4
    have addE : addN (n + 1) = 1 + 4 * addN n := rfl
    refine ⟨_, rfl, q, C, dx, _, _, rfl, s04 _ _ hq, S.cl, S.nL, modF_levels _ _ _ _, _, rfl, by omega, by omega, ?_⟩
    refine for_range (lo := 0) (n := m.levels.toNat) (fun i σ H' => (Exc d H3 H' ∧ ∃ (vs' : List V) (ks' : List NKey), H' F = some (.lst vs') ∧ AllIn (RowAt K H') vs' ((upto m n g i).take most.toNat) ∧ NDic P w H' d ks' ∧ DeadOk m ks' ∧ ks'.length ≤ ks.length + i * addN n) ∧ ∃ u : Option V, σ = [some (.ref q), some (.ref b), some (.int most), some (.ref d), some (.int (g.length : Nat)), some (.ref kp), some (.ref F), u, none, none, none]) ⟨⟨Exc.of s4, [], ks, e4, by rw [show upto m n g 0 = [] from rfl, List.take_nil]; exact AllIn.nil, hD4, dk, by omega⟩, none, rfl⟩ ?_ ?_
    · rintro i σ H5 hi ⟨⟨x5, vs', ks', h5, a5, d5, k5, l5⟩, u, rfl⟩
      rw [Int.zero_add]
      have hM5 := x5.mod xd3 hM3
      have hS5 := x5.sqT xd3 hS3
      have us := upto_succ (m := m) (n := n) (g := g) hi
      have lt : vs'.length = ((upto m n g i).take most.toNat).length := a5.1
      have hi4 : (i + 1) * addN n ≤ 4 * addN n := Nat.mul_le_mul_right _ (by omega)
      have iE : (i + 1) * addN n = i * addN n + addN n := Nat.succ_mul _ _
      have stay : ∀ H', Exc d H5 H' → NDic P w H' d ks' → ((upto m n g (i + 1)).take most.toNat = (upto m n g i).take most.toNat) → (Exc d H3 H' ∧ ∃ (vs' : List V) (ks' : List NKey), H' F = some (.lst vs') ∧ AllIn (RowAt K H') vs' ((upto m n g (i + 1)).take most.toNat) ∧ NDic P w H' d ks' ∧ DeadOk m ks' ∧ ks'.length ≤ ks.length + (i + 1) * addN n) := fun H' x dd e => ⟨x5.trans x, vs', ks', x.get d5.ext h5 (by intro φ z; cases z), by rw [e]; exact a5.mono fun _ _ => x.row d5.ext, dd, k5, by omega⟩
      refine ⟨_, rfl, F, _, rfl, .inl (SqL.of h5), _, rfl, _, _, rfl, rfl, _, rfl, ?_⟩
      cases c1 : decide ((vs'.length : Int) < most) with
      | false =>
        have c1 := of_decide_eq_false c1
        refine iteF ⟨stay H5 (fun _ _ _ e => e) d5 ?_, _, rfl⟩
        rw [us]
        exact take_full (by rw [← lt]; omega)
      | true =>
        have c1 := of_decide_eq_true c1
        refine iteT ⟨_, rfl, _, rfl, _, rfl, q, b, m, g, (i : Int), rfl, hM5, ok, hS5, by omega, gv, by omega, by omega, fun H6 s6 => ⟨_, rfl, ?_⟩⟩
        have x56 : Exc d H5 H6 := Exc.of s6
        have d6 := d5.same s6
        cases c2 : goesB m g (i : Int) with
        | false =>
          refine iteF ⟨stay H6 x56 d6 ?_, _, rfl⟩
          rw [us, c2, if_neg Bool.false_ne_true, List.append_nil]
        | true =>
          rw [c2, if_pos rfl] at us
          have h6 := s6 _ _ h5
          refine iteT ⟨_, rfl, .inl ⟨rfl, _, SqL.of h6⟩, _, rfl, _, rfl, _, rfl, by show 1 ≤ sizeLine; decide, fun o ho => ?_⟩
          refine new_step ho fun H7 s7 e7 => ?_
          have s57 := s6.trans s7
          refine catA_ok (s57.sqT hS5) (SqT.of e7) (by simp) (by rw [List.length_map, sizeLine_eq]; show _ + 1 ≤ _; omega) fun o2 H8 s8 hS8 => ?_
          have s58 := s57.trans s8
          have h8 := s58 _ _ h5
          have hM8 := hM5.same s58
          have d8 := d5.same s58
          have hS8 : SqT K H8 o2 ((g ++ [(i : Int)]).map V.int) := by rw [List.map_append]; exact hS8
          refine ⟨_, rfl, _, rfl, F, _, rfl, .inl (SqL.of h8), _, _, rfl, rfl, _, rfl, q, o2, d, m, g ++ [(i : Int)], most - vs'.length, ks', rfl, hM8, ok, hS8, by rw [List.length_append]; show ((g.length + 1 + n : Nat) : Int) = _; omega, fun x hx => ?_, by omega, by omega, d8, k5, by omega, fun p ws ks2 H9 hp x9 h9 a9 d9 k9 l9 => ?_⟩
          · rcases List.mem_append.mp hx with hx | hx
            · exact gv x hx
            · rw [List.mem_singleton.mp hx]
              exact ⟨by omega, by omega⟩
          have h9F := x9.get d8.ext h8 (by intro φ z; cases z)
          have x59 : Exc d H5 H9 := (Exc.of s58).trans x9
          have et : (upto m n g (i + 1)).take most.toNat = (upto m n g i).take most.toNat ++ (ext m n (g ++ [(i : Int)])).take (most - vs'.length).toNat := by
            rw [us, take_more (by rw [← lt]; omega), ← lt, show (most - (vs'.length : Int)).toNat = most.toNat - vs'.length by omega]
          refine ⟨F, p, _, _, rfl, rfl, h9F, h9, ?_, ⟨(x5.trans x59).mut hF, vs' ++ ws, ks2, upd_same, ?_, d9.updL h9F, k9, by omega⟩, _, rfl⟩
          · have z1 : ws.length = _ := a9.1
            rw [List.length_take] at z1 lt
            rw [sizeLine_eq]
            omega
          · rw [et]
            exact (AllIn.app (a5.mono fun _ _ => x59.row d5.ext) a9).mono fun _ _ h => h.upd h9F
    · rintro σ H5 ⟨⟨x5, vs', ks', h5, a5, d5, k5, l5⟩, u, rfl⟩
      rw [upto_all] at a5
      have lt : vs'.length = ((ext m (n + 1) g).take most.toNat).length := a5.1
      have l4' : m.levels.toNat * addN n ≤ 4 * addN n := Nat.mul_le_mul_right _ (by omega)
      have x05 : Exc d H H5 := (Exc.of s03).trans x5
      refine ⟨_, rfl, by show 0 ≤ sizeLine; decide, fun e he => ?_⟩
      refine new_step he fun H6 s6 e6 => ?_
      have h6 := s6 _ _ h5
      have d6 := d5.same s6
      have x06 : Exc d H H6 := x05.trans (Exc.of s6)
      have a6 := a5.mono fun _ _ h => RowAt.same s6 h
      refine ⟨F, e, _, rfl, rfl, SqL.of h6, SqL.of e6, _, rfl, ite2 (fun c => ?_) (fun _ => ?_)⟩
      · have z : ext m (n + 1) g = [] := by
          have v0 : vs'.length = 0 := by rw [List.length_eq_zero_iff]; exact List.isEmpty_iff.mp c
          rw [v0, List.length_take] at lt
          exact List.length_eq_zero_iff.mp (by omega)
        have nk6 : NKAt H6 kp ((g.length : Int), keyL m g) := by
          obtain ⟨t, z1, z2⟩ := nk3
          exact ⟨t, s6 _ _ (x5.get xd3 z1 (by intro φ z; cases z)), s6 _ _ (x5.get xd3 z2 (by intro φ z; cases z))⟩
        refine ⟨_, rfl, _, rfl, d, kp, _, ks', rfl, rfl, rfl, nk6, d6, by rw [sizeLine_eq]; omega, fun ks2 H7 hm hl hx hd => ?_⟩
        have x67 : Exc d H6 H7 := hx
        exact ⟨_, rfl, k F vs' ks2 H7 F0 (x06.trans x67) (x67.get d6.ext h6 (by intro φ z; cases z)) (a6.mono fun _ _ => x67.row d6.ext) hd (k5.put ok (by rw [show m.many.toNat - g.length = n + 1 by omega]; exact z) hm) (by omega)⟩
      · exact ⟨_, rfl, k F vs' ks' H6 F0 x06 h6 a6 d6 k5 (by omega)⟩
theorem ok_ff0 {f : Addr} {fd : FuncData} {C : Addr} (F : Fun K "fitting_from" "fitting_from" s_fitting_from f fd) (T : NmA mg) (S : ModT K mg C) : FnOk P w K mg base CX0 2 f fd ["model", "begun", "most", "dead"] (spFF P w K C 0) := by
  refine F.ok scFittingFrom (fun vs H Q E h => ?_) (fun cdv A' outer s H vs Q E hr h => ?_)
  · obtain ⟨q, b, d, m, g, most, ks, rfl, _⟩ := h
    rfl
  · obtain ⟨q, b, d, m, g, most, ks, rfl, hM, ok, hS, gl, gv, m1, m2, hD, dk, kl, k⟩ := h
    refine ⟨_, pss_cons (ps_set (i := 4) scFittingFrom.nd rfl (Or.inr rfl) (pe_callB call_len_seq (by rfl) T.len PySem.boot_len (pa_cons (pv 1) pa_nil)))
      (pss_cons (ps_if (pt_cmpR op_eq (pv 4) (pe_fld (pv 0) rfl) (nomark _)) (pss_one (ps_ret (pe_lst (pa_cons (pv 1) pa_nil)))) pss_nil) pss_never), ?_⟩
    obtain ⟨dx, wa, ta, hq, _⟩ := id hM
    refine ⟨_, rfl, b, _, rfl, .inr hS, ?_⟩
    rw [List.length_map]
    refine ⟨_, rfl, _, rfl, q, C, dx, _, _, rfl, hq, S.cl, S.nK, modF_many _ _ _ _, rfl, _, rfl, ?_⟩
    rw [ei, decide_eq_true (by omega)]
    refine iteT ⟨_, rfl, by show 1 ≤ sizeLine; decide, fun F hF => ?_⟩
    refine k F _ ks _ hF (Exc.of (Same.new hF)) upd_same ?_ (hD.same (Same.new hF)) dk (Nat.le_add_right _ _)
    have e : (ext m 0 g).take most.toNat = [g] := by
      show [g].take most.toNat = [g]
      exact List.take_of_length_le (by show 1 ≤ _; omega)
    rw [e]
    exact AllIn.snoc (R := RowAt K _) AllIn.nil (show RowAt K _ (.ref b) g from ⟨b, rfl, (Same.new hF).sqT hS⟩)
theorem ok_ffn {f fcGoes : Addr} {fd fdcGoes : FuncData} {C : Addr} (F : Fun K "fitting_from" "fitting_from" s_fitting_from f fd) (T : NmA mg) (cGoes : Cl P w K mg base CX0 1 "goes_on" fcGoes fdcGoes ["model", "begun", "value"] (spGoes K C)) (S : ModT K mg C) (bF : Binds K fd ["model", "begun", "most", "dead"] []) (mF : mg "fitting_from" = some (.ref f)) (kF : PySem.W.keepIn K (.ref f) = true) : ∀ n, FnOk P w K mg base CX0 (n + 2) f fd ["model", "begun", "most", "dead"] (spFF P w K C n)
  | 0 => ok_ff0 F T S
  | n + 1 => ok_ffs F T ⟨ok_ffn F T cGoes S bF mF kF n, bF, mF, kF⟩ cGoes S
def spFF12 (P : Program) (w : World) (K : PySem.W.Frag) (C : Addr) : Sp := fun vs H Q E => ∃ n, n ≤ 12 ∧ spFF P w K C n vs H Q E
theorem ok_ff12 {f fcGoes : Addr} {fd fdcGoes : FuncData} {C : Addr} (F : Fun K "fitting_from" "fitting_from" s_fitting_from f fd) (T : NmA mg) (cGoes : Cl P w K mg base CX0 1 "goes_on" fcGoes fdcGoes ["model", "begun", "value"] (spGoes K C)) (S : ModT K mg C) (bF : Binds K fd ["model", "begun", "most", "dead"] []) (mF : mg "fitting_from" = some (.ref f)) (kF : PySem.W.keepIn K (.ref f) = true) : FnOk P w K mg base CX0 14 f fd ["model", "begun", "most", "dead"] (spFF12 P w K C) := by
  refine ⟨fun vs H Q E h => ?_, fun A outer s H args us vs Q E hr he hb hv hs => ?_⟩
  · obtain ⟨n, _, h⟩ := h
    exact (ok_ffn F T cGoes S bF mF kF n).len vs H Q E h
  · obtain ⟨n, hn, h⟩ := hs
    exact (ok_ffn F T cGoes S bF mF kF n).run A outer s H args us vs Q E (hr.mono (by omega)) he hb hv h
end
end Law

namespace L2
theorem lk_hit {k : PySem.Str} {v : V} {es : List (PySem.Str × V)} : ((k, v) :: es).lookup k = some v := by simp [List.lookup]
end L2
namespace Law
open PySem L2
section
variable {P : Program} {w : World} {K : PySem.W.Frag} {mg : Str → Option Value} {base : Heap}
def spFirst (K : PySem.W.Frag) (C : Addr) : Sp := fun vs H Q _ => ∃ (q : Addr) (m : Mdl) (most : Int), vs = [.ref q, .int most] ∧ ModAt K C H q m ∧ MOk m ∧ 1 ≤ most ∧ most ≤ 1001 ∧
  ∀ (p : Addr) (ws : List V) (H' : Hp), H p = none → Same H H' → H' p = some (.lst ws) → AllIn (RowAt K H') ws ((ext m m.many.toNat []).take most.toNat) → Q (.ref p) H'
abbrev nFirstFitting : List Str := ["model", "most"]
theorem scFirstFitting : FnScope nFirstFitting ["model", "most"] (defScope s_first_fitting) := ⟨rfl, rfl, rfl, by decide +kernel, rfl, by decide +kernel, by decide +kernel⟩
theorem ok_first_fitting {f : Addr} {fd : FuncData} {fcFF : Addr} {fdcFF : FuncData} {C : Addr} (F : Fun K "first_fitting" "first_fitting" s_first_fitting f fd) (T : NmA mg) (cFF : Cl P w K mg base CX0 14 "fitting_from" fcFF fdcFF ["model", "begun", "most", "dead"] (spFF12 P w K C)) : FnOk P w K mg base CX0 15 f fd ["model", "most"] (spFirst K C) := by
  refine F.ok scFirstFitting (fun vs H Q E h => ?_) (fun cdv A' outer s H vs Q E hr h => ?_)
  · obtain ⟨q, m, most, rfl, _⟩ := h
    rfl
  · obtain ⟨q, m, most, rfl, hM, ok, m1, m2, k⟩ := h
    refine ⟨_, pss_one (ps_ret (cFF.call (hr.mono (by decide)) (pa_cons (pv 0) (pa_cons (pe_tup pa_nil) (pa_cons (pv 1) (pa_cons pe_dnewN pa_nil)))))), ?_⟩
    have mm := ok.m1
    have m12 := ok.m12
    refine ⟨_, rfl, by show 0 ≤ sizeLine; decide, fun t ht => ?_⟩
    refine new_step ht fun H1 s1 e1 => ?_
    refine ⟨_, rfl, fun d H2 hd s2 nd => ?_⟩
    have s12 := s1.trans s2
    have ad : addN m.many.toNat ≤ 6000000 := by
      have : ∀ n, n ≤ 12 → addN n ≤ 6000000 := by decide +kernel
      exact this _ (by omega)
    refine ⟨m.many.toNat, by omega, q, t, d, m, [], most, [], rfl, hM.same s12, ok, SqT.of (s2 _ _ e1), by show ((0 + m.many.toNat : Nat) : Int) = _; omega, fun x hx => absurd hx List.not_mem_nil, m1, m2, nd, fun x hx => absurd hx List.not_mem_nil, by show 0 + addN m.many.toNat ≤ _; omega, fun p ws ks H3 hp x3 h3 a3 _ _ _ => ?_⟩
    have d0 : H d = none := s1.free hd
    exact k p ws H3 (s12.free hp) (fun c o e => x3 c o (ne_of_none e d0) (s12 _ _ e)) h3 a3
def spFit0 (K : PySem.W.Frag) (C : Addr) : Sp := fun vs H Q _ => ∃ (q : Addr) (m : Mdl), vs = [.ref q] ∧ ModAt K C H q m ∧ MOk m ∧ (ext m m.many.toNat []).length ≤ 1000 ∧
  ∀ (p : Addr) (ws : List V) (H' : Hp), H p = none → Same H H' → H' p = some (.lst ws) → AllIn (RowAt K H') ws (ext m m.many.toNat []) → Q (.ref p) H'
abbrev nFittingZ : List Str := ["model", "found"]
theorem scFittingZ : FnScope nFittingZ ["model"] (defScope s_fitting) := ⟨rfl, rfl, rfl, by decide +kernel, rfl, by decide +kernel, by decide +kernel⟩
theorem ok_fit0 {f : Addr} {fd : FuncData} {fcFirst : Addr} {fdcFirst : FuncData} {C : Addr} (F : Fun K "fitting" "fitting" s_fitting f fd) (T : NmA mg) (cFirst : Cl P w K mg base CX0 15 "first_fitting" fcFirst fdcFirst ["model", "most"] (spFirst K C)) : FnOk P w K mg base CX0 16 f fd ["model"] (spFit0 K C) := by
  refine F.ok scFittingZ (fun vs H Q E h => ?_) (fun cdv A' outer s H vs Q E hr h => ?_)
  · obtain ⟨q, m, rfl, _⟩ := h
    rfl
  · obtain ⟨q, m, rfl, hM, ok, hl, k⟩ := h
    refine ⟨_, pss_cons (ps_set (i := 1) scFittingZ.nd rfl (Or.inl rfl) (cFirst.call (hr.mono (by decide)) (pa_cons (pv 0) (pa_cons pe_int pa_nil))))
      (pss_cons (ps_if (pt_cmpR op_gt (pe_callB call_len_seq (by rfl) T.len PySem.boot_len (pa_cons (pv 1) pa_nil)) pe_int (nomark _))
        pss_never pss_nil)
      (pss_one (ps_ret (pv 1)))), ?_⟩
    refine ⟨_, rfl, q, m, 1001, rfl, hM, ok, by decide, by decide, fun p ws H1 hp s1 h1 a1 => ?_⟩
    rw [List.take_of_length_le (by show _ ≤ 1001; omega)] at a1
    refine ⟨_, rfl, p, _, rfl, .inl (SqL.of h1), _, _, rfl, rfl, _, rfl, ?_⟩
    rw [a1.1, decide_eq_false (by omega)]
    exact iteF ⟨_, rfl, k p ws H1 hp s1 h1 a1⟩
end
end Law
namespace L2
open PySem PySem.Spec PyProof.Rows
def upI (n : Int) : List Int := (List.range n.toNat).map fun i : Nat => (i : Int)
theorem vals_up (m : Mdl) : valsM m = upI m.levels := rfl
theorem up_len (n : Int) : (upI n).length = n.toNat := by unfold upI; rw [List.length_map, List.length_range]
theorem pics_len (L : List Int) : ∀ n, (picsL L n).length = L.length ^ n
  | 0 => rfl
  | n + 1 => by
    show ((picsL L n).flatMap fun f => L.map fun v => f ++ [v]).length = _
    rw [Nat.pow_succ, ← pics_len L n, List.length_flatMap]
    have : (picsL L n).map (fun f => (L.map fun v => f ++ [v]).length) = (picsL L n).map fun _ => L.length := List.map_congr_left fun f _ => List.length_map ..
    rw [this]
    generalize picsL L n = P
    induction P with
    | nil => simp
    | cons x P ih => rw [List.map_cons, List.sum_cons, ih, List.length_cons, Nat.add_mul, Nat.one_mul, Nat.add_comm]
end L2
namespace Law
open PySem L2
theorem mod_dic {K : PySem.W.Frag} {H : Hp} {d : Addr} {m : Mdl} (h : DicAt K H d m) : ∃ wa ta wvs tvs, H d = some (.dK (mdK m.many m.levels wa ta)) ∧ SqT K H wa wvs ∧ AllIn (RowAt K H) wvs m.ws ∧ SqT K H ta tvs ∧ AllIn (TieAt K H) tvs m.ts := by
  obtain ⟨wa, ta, h1, ⟨wvs, h2, h3⟩, tvs, h4, h5⟩ := h
  exact ⟨wa, ta, wvs, tvs, h1, h2, h3, h4, h5⟩
theorem num_pick {d c : Int} (d0 : 0 ≤ d ∧ d ≤ 1000) (c0 : 0 ≤ c ∧ c ≤ 1000) {i : Nat} {x : V} (h : ([.int 0, .int 1, .int 1, .int 1, .int 2, .int 3, .int d, .int c] : List V)[i]? = some x) : ∃ n : Int, x = .int n ∧ 0 ≤ n ∧ n ≤ 1000 := by
  have m := List.mem_of_getElem? h
  simp only [List.mem_cons, List.not_mem_nil, or_false] at m
  rcases m with rfl | rfl | rfl | rfl | rfl | rfl | rfl | rfl
  all_goals first | exact ⟨_, rfl, by decide, by decide⟩ | exact ⟨_, rfl, d0⟩ | exact ⟨_, rfl, c0⟩
section
variable {P : Program} {w : World} {K : PySem.W.Frag} {mg : Str → Option Value} {base : Heap}
def spNum : Sp := fun vs H Q _ => ∃ p : Addr, vs = [.ref p] ∧ HandAt H p ∧ ∀ (n : Int) (H' : Hp), 0 ≤ n → n ≤ 1000 → Stp p H H' → Q (.int n) H'
abbrev nLawNumber : List Str := ["_law_hand_here"]
theorem scLawNumber : FnScope nLawNumber ["_law_hand_here"] (defScope s_law_number) := ⟨rfl, rfl, rfl, by decide +kernel, rfl, by decide +kernel, by decide +kernel⟩
theorem ok_number {f : Addr} {fd : FuncData} {fA : Addr} {fdA : FuncData} {fD : Addr} {fdD : FuncData} (F : Fun K "_law_number" "_law_number" s_law_number f fd) (T : NmA mg) (A : Cl P w K mg base CX0 2 "_law_any" fA fdA ["_law_hand_here", "_law_things"] (spAny K)) (D : Cl P w K mg base CX0 1 "_law_draw" fD fdD ["_law_hand_here", "_law_many"] spDraw) : FnOk P w K mg base CX0 3 f fd ["_law_hand_here"] spNum := by
  refine F.ok scLawNumber (fun vs H Q E h => ?_) (fun cdv A' outer s H vs Q E hr h => ?_)
  · obtain ⟨p, rfl, _⟩ := h
    rfl
  · obtain ⟨p, rfl, hH, k⟩ := h
    refine ⟨_, pss_one (ps_ret (A.call (hr.mono (by decide)) (pa_cons (pv 0) (pa_cons (pe_lst (pa_cons pe_int (pa_cons pe_int (pa_cons pe_int (pa_cons pe_int (pa_cons pe_int (pa_cons pe_int (pa_cons (D.call (hr.mono (by decide)) (pa_cons (pv 0) (pa_cons pe_int pa_nil))) (pa_cons (pe_ifExp (pt_cmpR op_eq (D.call (hr.mono (by decide)) (pa_cons (pv 0) (pa_cons pe_int pa_nil))) pe_int (nomark _)) pe_int pe_int) pa_nil))))))))) pa_nil)))), ?_⟩
    refine ⟨_, rfl, _, rfl, p, 12, rfl, by decide, by decide, hH, fun d H1 d0 d1 S1 => ?_⟩
    refine mrgIf (fun v H' => ∃ c : Int, v = .int c ∧ (0 ≤ c ∧ c ≤ 1000) ∧ Stp p H H') (fun Q' key => ?_) ?_
    · refine ⟨_, rfl, p, 20, rfl, by decide, by decide, S1.hand, fun e H2 _ _ S2 => ⟨rfl, _, rfl, ite2 (fun _ => ?_) (fun _ => ?_)⟩⟩
      · exact key _ _ ⟨1000, rfl, ⟨by decide, by decide⟩, S1.trans S2⟩
      · exact key _ _ ⟨1, rfl, ⟨by decide, by decide⟩, S1.trans S2⟩
    rintro v H2 ⟨c, rfl, c0, S2⟩
    refine ⟨by show 8 ≤ sizeLine; decide, fun L hL => ?_⟩
    refine new_step hL fun H3 s3 e3 => ?_
    refine ⟨p, L, _, rfl, .inl (SqL.of e3), by show 0 < 8; decide, by show 8 < 1073741824; decide, S2.hand.same s3, fun i x H4 hx S4 => ?_⟩
    obtain ⟨n, rfl, n0, n1⟩ := num_pick ⟨d0, by omega⟩ c0 hx
    exact k n H4 n0 n1 ((S2.post s3).trans S4)
def spPics (K : PySem.W.Frag) : Sp := fun vs H Q _ => ∃ many levels : Int, vs = [.int many, .int levels] ∧ 0 ≤ many ∧ many ≤ 12 ∧ 1 ≤ levels ∧ levels ≤ 4 ∧ levels.toNat ^ many.toNat ≤ 1000 ∧
  ∀ (p : Addr) (ws : List V) (H' : Hp), H p = none → Same H H' → H' p = some (.lst ws) → AllIn (RowAt K H') ws (picsL (upI levels) many.toNat) → Q (.ref p) H'
abbrev nLawPictures : List Str := ["_law_many", "_law_levels", "_law_found", "_law_place", "_law_longer", "_law_front", "_law_level"]
theorem scLawPictures : FnScope nLawPictures ["_law_many", "_law_levels"] (defScope s_law_pictures) := ⟨rfl, rfl, rfl, by decide +kernel, rfl, by decide +kernel, by decide +kernel⟩
theorem ok_pictures {f : Addr} {fd : FuncData} (F : Fun K "_law_pictures" "_law_pictures" s_law_pictures f fd) (T : NmA mg) : FnOk P w K mg base CX0 1 f fd ["_law_many", "_law_levels"] (spPics K) := by
  refine F.ok scLawPictures (fun vs H Q E h => ?_) (fun cdv A' outer s H vs Q E hr h => ?_)
  · obtain ⟨many, levels, rfl, _⟩ := h
    rfl
  · obtain ⟨many, levels, rfl, m0, m1, l0, l1, pw, k⟩ := h
    have hu := hu_of hr
    refine ⟨_, pss_cons (ps_set (i := 2) scLawPictures.nd rfl (Or.inl rfl) (pe_lst (pa_cons (pe_tup pa_nil) pa_nil)))
      (pss_cons (ps_for PassesOwn.never rfl (pi_range1 (by rfl) T.range (pa_cons (pv 0) pa_nil)) (pg_name (i := 3) scLawPictures.nd rfl (Or.inl rfl))
        (pss_cons (ps_set (i := 4) scLawPictures.nd rfl (Or.inl rfl) (pe_lst pa_nil))
        (pss_cons (ps_for PassesOwn.never rfl (pi_list (pv 2)) (pg_name (i := 5) scLawPictures.nd rfl (Or.inr rfl))
          (pss_one (ps_expr (pe_bm PySem.F.plainAttrs_list PySem.F.slot_list_extend PySem.F.type_list_extend mt_extend (pv 4) (pa_cons (pe_lc (own := [("_law_level", 6)]) (g := (gName 6)) (tt := tYes) rfl scLawPictures.nd  (pi_range1 (by rfl) T.range (pa_cons (pv 1) pa_nil)) (blkOk_by (own := [("_law_level", 6)]) (N := nLawPictures) (sc := defScope s_law_pictures) (by decide +kernel)) (fun _ _ _ _ _ => (pg_name (i := 6) scLawPictures.nd rfl (Or.inl rfl))) (fun _ _ _ _ _ => pts_nil) (fun _ _ _ _ _ => (pe_op (r := rCatA K) (show OpR _ (binaryOp .Add) (rCatA K) from op_catA) (pv 5) (pe_tup (pa_cons (pv 6) pa_nil))))) pa_nil)))))
        (pss_one (ps_set (i := 2) scLawPictures.nd rfl (Or.inl rfl) (pv 4))))))
      (pss_one (ps_ret (pv 2)))), ?_⟩
    refine ⟨by show 0 ≤ sizeLine; decide, fun t ht => ?_⟩
    refine new_step ht fun H1 s1 e1 => ?_
    refine ⟨by show 1 ≤ sizeLine; decide, fun F hF => ?_⟩
    have F0 : H F = none := s1.free hF
    refine new_step hF fun H2 s2 e2 => ?_
    have s02 := s1.trans s2
    refine ⟨_, rfl, _, rfl, by omega, by omega, ?_⟩
    have small : ∀ i, i ≤ many.toNat → (picsL (upI levels) i).length ≤ 1000 := fun i hi => by
      rw [pics_len, up_len]
      exact Nat.le_trans (Nat.pow_le_pow_right (by omega) hi) pw
    refine for_range (lo := 0) (n := many.toNat) (fun i σ H' => (Same H H' ∧ ∃ (F : Addr) (ws : List V), H F = none ∧ H' F = some (.lst ws) ∧ AllIn (RowAt K H') ws (picsL (upI levels) i) ∧ ∃ u1 u2 u3 : Option V, σ = [some (.int many), some (.int levels), some (.ref F), u1, u2, u3, none])) ⟨s02, F, _, F0, e2, ⟨rfl, fun i v hv => ?_⟩, none, none, none, rfl⟩ ?_ ?_
    · cases i with
      | zero =>
        cases hv
        exact ⟨[], rfl, t, rfl, SqT.of (s2 _ _ e1)⟩
      | succ i => cases hv
    · rintro i σ H3 hi ⟨s3, F, ws, F0, h3, a3, u1, u2, u3, rfl⟩
      have sm := small (i + 1) hi
      have smi := small i (by omega)
      refine ⟨by show 0 ≤ sizeLine; decide, fun G hG => ?_⟩
      have G0 : H G = none := s3.free hG
      refine new_step hG fun H4 s4 e4 => ?_
      have h4 := s4 _ _ h3
      refine ⟨_, rfl, F, rfl, ⟨_, SqL.of h4⟩, for_list (xs := ws) (fun j σ H' => (Same H3 H' ∧ ∃ gs : List V, H' G = some (.lst gs) ∧ AllIn (RowAt K H') gs (((picsL (upI levels) i).take j).flatMap fun f => (upI levels).map fun v => f ++ [v]) ∧ ∃ u1 u2 : Option V, σ = [some (.int many), some (.int levels), some (.ref F), u1, some (.ref G), u2, none])) ⟨s4, [], e4, AllIn.nil, _, _, rfl⟩ (fun j σ H' _ h => SqL.of (h.1 _ _ h3)) ?_ ?_⟩
      · rintro j x σ H5 hj ⟨s5, gs, g5, b5, u1, u2, rfl⟩
        obtain ⟨f, hf, fa, rfl, hS⟩ := a3.2 j x hj
        have fl : f.length ≤ 12 := by
          have := List.mem_of_getElem? hf
          rw [pics_all] at this
          obtain ⟨sf, ef, el, _⟩ := allX_mem this
          rw [ef, List.nil_append]
          omega
        have sz : gs.length + (upI levels).length ≤ 1000 := by
          have e1 : ((picsL (upI levels) i).take (j + 1)).flatMap (fun f => (upI levels).map fun v => f ++ [v]) = ((picsL (upI levels) i).take j).flatMap (fun f => (upI levels).map fun v => f ++ [v]) ++ (upI levels).map fun v => f ++ [v] := by
            rw [List.take_add_one, hf, List.flatMap_append]
            congr 1
            show List.flatMap _ [f] = _
            rw [List.flatMap_cons, List.flatMap_nil, List.append_nil]
          have e2 : (((picsL (upI levels) i).take (j + 1)).flatMap (fun f => (upI levels).map fun v => f ++ [v])).length ≤ (picsL (upI levels) (i + 1)).length := by
            show _ ≤ ((picsL (upI levels) i).flatMap _).length
            conv => rhs; rw [← List.take_append_drop (j + 1) (picsL (upI levels) i), List.flatMap_append, List.length_append]
            exact Nat.le_add_right _ _
          rw [e1, List.length_append, List.length_map, ← b5.1] at e2
          omega
        refine ⟨_, rfl, .inl ⟨rfl, _, SqL.of g5⟩, _, rfl, _, rfl, by omega, by omega, fun D hD => ?_⟩
        have s35 := s5
        refine lc_range (lo := 0) (n := levels.toNat) (fun l H' => Same H5 H' ∧ ∃ ds : List V, H' D = some (.lst ds) ∧ AllIn (RowAt K H') ds ((upI levels).take l |>.map fun v => f ++ [v])) ⟨Same.new hD, [], upd_same, AllIn.nil⟩ (fun l H6 hl g => ?_) fun H6 g => ?_
        · obtain ⟨s6, ds, d6, c6⟩ := g
          refine ⟨rfl, _, rfl, _, rfl, by show 1 ≤ sizeLine; decide, fun o ho => ?_⟩
          refine new_step ho fun H7 s7 e7 => ?_
          rw [Int.zero_add] at e7
          refine catA_ok (((s35.trans s6).trans s7).sqT hS) (SqT.of e7) (by simp) (by rw [List.length_map, sizeLine_eq]; show _ + 1 ≤ _; omega) fun o2 H8 s8 hS8 => ?_
          have s68 := s7.trans s8
          have d8 := s68 _ _ d6
          have tk : (upI levels).take (l + 1) = (upI levels).take l ++ [(l : Int)] := by
            have e : (upI levels)[l]? = some (l : Int) := by unfold upI; rw [List.getElem?_map, List.getElem?_range hl] <;> rfl
            rw [List.take_add_one, e] <;> rfl
          refine ⟨ds, d8, ?_, (s6.trans s68).mut hD, ds ++ [.ref o2], upd_same, ?_⟩
          · rw [c6.1, List.length_map, List.length_take, up_len]
            exact small1000 (by omega)
          · rw [tk, List.map_append]
            refine AllIn.snoc (c6.mono fun _ _ h => (h.same s68).upd d8) (RowAt.upd d8 ⟨o2, rfl, ?_⟩)
            rw [List.map_append]
            exact hS8
        · obtain ⟨s6, ds, d6, c6⟩ := g
          rw [List.take_of_length_le (by rw [up_len]; exact Nat.le_refl _)] at c6
          have g6 := s6 _ _ g5
          have s36 := s5.trans s6
          refine ⟨G, D, _, _, rfl, rfl, g6, d6, ?_, s36.mut hG, gs ++ ds, upd_same, ?_, _, _, rfl⟩
          · rw [c6.1, List.length_map, sizeLine_eq]
            omega
          · have e1 : ((picsL (upI levels) i).take (j + 1)).flatMap (fun f => (upI levels).map fun v => f ++ [v]) = ((picsL (upI levels) i).take j).flatMap (fun f => (upI levels).map fun v => f ++ [v]) ++ (upI levels).map fun v => f ++ [v] := by
              rw [List.take_add_one, hf, List.flatMap_append]
              congr 1
              show List.flatMap _ [f] = _
              rw [List.flatMap_cons, List.flatMap_nil, List.append_nil]
            rw [e1]
            exact (AllIn.app (b5.mono fun _ _ h => h.same s6) c6).mono fun _ _ h => h.upd g6
      · rintro σ H5 ⟨s5, gs, g5, b5, u1, u2, rfl⟩
        rw [a3.1, List.take_length] at b5
        exact ⟨_, rfl, s3.trans s5, G, gs, G0, g5, b5, _, _, _, rfl⟩
    · rintro σ H3 ⟨s3, F, ws, F0, h3, a3, u1, u2, u3, rfl⟩
      exact ⟨_, rfl, k F ws H3 F0 s3 h3 a3⟩
def spLWt (K : PySem.W.Frag) : Sp := fun vs H Q _ => ∃ (d b : Addr) (m : Mdl) (p : List Int), vs = [.ref d, .ref b] ∧ DicAt K H d m ∧ MOk m ∧ SqT K H b (p.map V.int) ∧ PicOk m p ∧ ∀ H', Same H H' → Q (.int (wt m p)) H'
abbrev nLawWeight : List Str := ["_law_model", "_law_picture", "_law_found", "_law_place", "_law_one", "_law_other", "_law_table"]
theorem scLawWeight : FnScope nLawWeight ["_law_model", "_law_picture"] (defScope s_law_weight) := ⟨rfl, rfl, rfl, by decide +kernel, rfl, by decide +kernel, by decide +kernel⟩
theorem ok_lweight {f : Addr} {fd : FuncData} (F : Fun K "_law_weight" "_law_weight" s_law_weight f fd) (T : NmA mg) : FnOk P w K mg base CX0 1 f fd ["_law_model", "_law_picture"] (spLWt K) := by
  refine F.ok scLawWeight (fun vs H Q E h => ?_) (fun cdv A' outer s H vs Q E hr h => ?_)
  · obtain ⟨d, b, m, p, rfl, _⟩ := h
    rfl
  · obtain ⟨d, b, m, p, rfl, hM, ok, hS, hp, k⟩ := h
    have hu := hu_of hr
    refine ⟨_, pss_cons (ps_set (i := 2) scLawWeight.nd rfl (Or.inl rfl) pe_int)
      (pss_cons (ps_for PassesOwn.never rfl (pi_range1 (by rfl) T.range (pa_cons (pe_dget hu (pv 0) pe_str (fun _ _ => rfl)) pa_nil)) (pg_name (i := 3) scLawWeight.nd rfl (Or.inl rfl))
        (pss_one (ps_set (i := 2) scLawWeight.nd rfl (Or.inl rfl) (pe_op op_mul (pv 2) (pe_ix ix_tup (pe_ix ix_tup (pe_dget hu (pv 0) pe_str (fun _ _ => rfl)) (pv 3) (fun _ _ => rfl)) (pe_ix ix_tup (pv 1) (pv 3) (fun _ _ => rfl)) (fun _ _ => rfl))))))
      (pss_cons (ps_for PassesOwn.never rfl (pi_tup (pe_dget hu (pv 0) pe_str (fun _ _ => rfl))) (pg_tup (by rfl) (pgs_cons (pg_name (i := 4) scLawWeight.nd rfl (Or.inl rfl)) (pgs_cons (pg_name (i := 5) scLawWeight.nd rfl (Or.inl rfl)) (pgs_cons (pg_name (i := 6) scLawWeight.nd rfl (Or.inl rfl)) pgs_nil))))
        (pss_one (ps_set (i := 2) scLawWeight.nd rfl (Or.inl rfl) (pe_op op_mul (pv 2) (pe_ix ix_tup (pe_ix ix_tup (pv 6) (pe_ix ix_tup (pv 1) (pv 4) (fun _ _ => rfl)) (fun _ _ => rfl)) (pe_ix ix_tup (pv 1) (pv 5) (fun _ _ => rfl)) (fun _ _ => rfl))))))
      (pss_one (ps_ret (pv 2))))), ?_⟩
    obtain ⟨wa, ta, wvs, tvs, hd, hW, aW, hT, aT⟩ := mod_dic hM
    have m1 := ok.m1
    have m12 := ok.m12
    have pl := hp.1
    refine ⟨_, rfl, d, _, rfl, gd_m hd, _, rfl, by omega, by omega, ?_⟩
    refine for_range (lo := 0) (n := m.many.toNat) (fun i σ H' => Same H H' ∧ ∃ u : Option V, σ = [some (.ref d), some (.ref b), some (.int (wtW m p i)), u, none, none, none]) ⟨Same.refl H, none, rfl⟩ ?_ ?_
    · rintro i σ H2 hi ⟨s2, u, rfl⟩
      rw [Int.zero_add]
      obtain ⟨r, r1, r2, r3⟩ := row_at aW (i := (i : Int)) (by omega) (by have := ok.wl; omega)
      have rl := (ok.wr _ r3).1
      have p1 := gI_in (lo := 0) (hi := m.levels) (l := p) (i := (i : Int)) (by omega) (by omega) hp.2
      have b1 := wv_nn ok i (gI p (i : Nat))
      rw [wv_gR] at b1
      refine ⟨_, rfl, _, rfl, d, _, rfl, gd_w (s2 _ _ hd), _, rfl, wa, _, _, _, rfl, rfl, s2.sqT hW, r1, _, rfl, _, rfl, b, _, _, _, rfl, rfl, s2.sqT hS, atI_gI (by omega) (by omega), r, _, _, _, rfl, rfl, s2.sqT r2, atI_gI p1.1 (by omega), _, _, rfl, rfl, .inr ⟨by omega, by omega⟩, s2, some (.int (i : Nat)), ?_⟩
      rw [show wtW m p (i + 1) = wtW m p i * gI (gR m.ws (i : Nat)) (gI p (i : Nat)) by rw [← wv_gR] <;> rfl]
      rfl
    · rintro σ H2 ⟨s2, u, rfl⟩
      have hT2 := s2.sqT hT
      refine ⟨_, rfl, d, _, rfl, gd_t (s2 _ _ hd), ta, rfl, ⟨_, hT2⟩, for_tup (fun i σ H' => Same H2 H' ∧ ∃ u1 u3 u4 u5 : Option V, σ = [some (.ref d), some (.ref b), some (.int (wtT p (wtW m p m.many.toNat) (m.ts.take i))), u1, u3, u4, u5]) ⟨Same.refl _, _, _, _, _, rfl⟩ (fun i σ H' _ h => h.1.sqT hT2) ?_ ?_⟩
      · rintro i x σ H3 hi ⟨s3, u1, u3, u4, u5, rfl⟩
        obtain ⟨t, ht, c, e, rfl, hc, vs, hd', aR⟩ := aT.2 i x hi
        obtain ⟨t0, t1, t2, t3, t4⟩ := ok.tt t (List.mem_of_getElem? ht)
        have s13 := s2.trans s3
        have hS3 := s13.sqT hS
        have p1 := gI_in (lo := 0) (hi := m.levels) t0 (by omega) hp.2
        have p2 := gI_in (lo := 0) (hi := m.levels) (i := t.1.2) (by omega) (by omega) hp.2
        obtain ⟨r, r1, r2, r3⟩ := row_at aR (i := gI p t.1.1) p1.1 (by omega)
        have rl := (t4 _ r3).1
        have b1 : 0 ≤ gI (gR t.2 (gI p t.1.1)) (gI p t.1.2) ∧ gI (gR t.2 (gI p t.1.1)) (gI p t.1.2) ≤ 1000 := tv_nn ok (List.mem_of_getElem? ht) (gI p t.1.1) (gI p t.1.2)
        have hl : ∀ {i : Int}, 0 ≤ i → i < m.many → atI (p.map V.int) i = some (.int (gI p i)) := fun h0 h1 => atI_gI h0 (by omega)
        refine ⟨c, _, rfl, s13.sqT hc, rfl, _, _, rfl, _, _, rfl, _, _, rfl, rfl, ?_⟩
        refine ⟨_, rfl, _, rfl, _, rfl, _, rfl, b, _, _, _, rfl, rfl, hS3, hl t0 (by omega), e, _, _, _, rfl, rfl, s13.sqT hd', r1, _, rfl, _, rfl, b, _, _, _, rfl, rfl, hS3, hl (by omega) t2, r, _, _, _, rfl, rfl, s13.sqT r2, atI_gI p2.1 (by omega), _, _, rfl, rfl, .inr ⟨by omega, by omega⟩, s3, u1, some (.int t.1.1), some (.int t.1.2), some (.ref e), ?_⟩
        rw [wtT_snoc ht]
        rfl
      · rintro σ H3 ⟨s3, u1, u3, u4, u5, rfl⟩
        rw [aT.1, List.take_length]
        exact ⟨_, rfl, k H3 (s2.trans s3)⟩
end
end Law

namespace L2
open PySem PySem.Spec PyProof.Rows
abbrev Pr := Int × Int
def PrAt (K : PySem.W.Frag) (H : Hp) (v : V) (a : Pr) : Prop := ∃ s, v = .ref s ∧ SqT K H s [.int a.1, .int a.2]
theorem PrAt.same {K : PySem.W.Frag} {H H' : Hp} {v : V} {a : Pr} (e : Same H H') (h : PrAt K H v a) : PrAt K H' v a := by
  obtain ⟨s, h1, h2⟩ := h
  exact ⟨s, h1, e.sqT h2⟩
theorem PrAt.upd {K : PySem.W.Frag} {H : Hp} {D : Addr} {acc : List V} {o : HO} {v : V} {a : Pr} (hD : H D = some (.lst acc)) (h : PrAt K H v a) : PrAt K (upd H D o) v a := by
  obtain ⟨s, h1, h2⟩ := h
  exact ⟨s, h1, sqT_updL hD h2⟩
def cntP (ps : List Pr) (q : Int) : Nat := (ps.filter fun t => decide (q = t.1) || decide (q = t.2)).length
abbrev ltQ (x y : Pr) : Prop := x.1 < y.1 ∨ (x.1 = y.1 ∧ x.2 < y.2)
structure PsOk (many : Int) (ps : List Pr) : Prop where
  b : ∀ t ∈ ps, 0 ≤ t.1 ∧ t.1 < t.2 ∧ t.2 < many
  a : ps.Pairwise ltQ
  c : ∀ q, cntP ps q ≤ 4
theorem PsOk.nil (many : Int) : PsOk many [] := ⟨fun t ht => absurd ht List.not_mem_nil, List.Pairwise.nil, fun _ => Nat.zero_le _⟩
theorem cntP_app (ps : List Pr) (t : Pr) (q : Int) : cntP (ps ++ [t]) q = cntP ps q + if q = t.1 ∨ q = t.2 then 1 else 0 := by
  unfold cntP
  rw [List.filter_append, List.length_append]
  congr 1
  rw [List.filter_cons, List.filter_nil]
  by_cases c : q = t.1 ∨ q = t.2
  · rw [if_pos c, if_pos (by rcases c with c | c <;> simp [c])] <;> rfl
  · rw [if_neg c, if_neg (fun z => c (by simpa using z))] <;> rfl
theorem PsOk.snoc {many : Int} {ps : List Pr} {t : Pr} (h : PsOk many ps) (hb : 0 ≤ t.1 ∧ t.1 < t.2 ∧ t.2 < many) (hl : ∀ u ∈ ps, ltQ u t) (h1 : cntP ps t.1 < 4) (h2 : cntP ps t.2 < 4) : PsOk many (ps ++ [t]) := by
  refine ⟨fun u hu => ?_, ?_, fun q => ?_⟩
  · rcases List.mem_append.mp hu with hu | hu
    · exact h.b u hu
    · rw [List.mem_singleton.mp hu]
      exact hb
  · rw [List.pairwise_append]
    refine ⟨h.a, List.pairwise_singleton _ _, fun u hu v hv => ?_⟩
    rw [List.mem_singleton.mp hv]
    exact hl u hu
  · rw [cntP_app]
    by_cases c : q = t.1 ∨ q = t.2
    · rw [if_pos c]
      rcases c with c | c
      · rw [c]; omega
      · rw [c]; omega
    · rw [if_neg c]
      exact h.c q
theorem cnt_tp (ts : List Tie) (q : Int) : cntT ts q = cntP (ts.map (·.1)) q := by
  unfold cntT cntP
  rw [List.filter_map, List.length_map] <;> rfl
end L2
namespace Law
open PySem L2
theorem prAt_stp {K : PySem.W.Frag} {p : Addr} {H H' : Hp} {v : V} {a : Pr} (S : Stp p H H') (hh : HandAt H p) (h : PrAt K H v a) : PrAt K H' v a := by
  obtain ⟨s, h1, h2⟩ := h
  exact ⟨s, h1, S.sqT hh h2⟩
theorem in_pr (q : Int) (t : Pr) : inV (.int q) [.int t.1, .int t.2] = (decide (q = t.1) || decide (q = t.2)) := in_two q t.1 t.2
section
variable {P : Program} {w : World} {K : PySem.W.Frag} {mg : Str → Option Value} {base : Heap}
def spPairs (K : PySem.W.Frag) : Sp := fun vs H Q _ => ∃ (p : Addr) (many rare : Int), vs = [.ref p, .int many, .int rare] ∧ HandAt H p ∧ 0 ≤ many ∧ many ≤ 12 ∧ 0 < rare ∧ rare < 1000 ∧
  ∀ (L : Addr) (ws : List V) (ps : List Pr) (H' : Hp), H L = none → Stp p H H' → H' L = some (.lst ws) → AllIn (PrAt K H') ws ps → PsOk many ps → ps.length ≤ 144 → Q (.ref L) H'
abbrev nLawPairs : List Str := ["_law_hand_here", "_law_many", "_law_rare", "_law_found", "_law_one", "_law_other", "_law_crowd", "_law_place", "_law_pair"]
theorem scLawPairs : FnScope nLawPairs ["_law_hand_here", "_law_many", "_law_rare"] (defScope s_law_pairs) := ⟨rfl, rfl, rfl, by decide +kernel, rfl, by decide +kernel, by decide +kernel⟩
theorem ok_pairs {f : Addr} {fd : FuncData} {fD : Addr} {fdD : FuncData} (F : Fun K "_law_pairs" "_law_pairs" s_law_pairs f fd) (T : NmA mg) (D : Cl P w K mg base CX0 1 "_law_draw" fD fdD ["_law_hand_here", "_law_many"] spDraw) : FnOk P w K mg base CX0 2 f fd ["_law_hand_here", "_law_many", "_law_rare"] (spPairs K) := by
  refine F.ok scLawPairs (fun vs H Q E h => ?_) (fun cdv A' outer s H vs Q E hr h => ?_)
  · obtain ⟨p, many, rare, rfl, _⟩ := h
    rfl
  · obtain ⟨p, many, rare, rfl, hH, m0, m12, r0, r1, k⟩ := h
    have hu := hu_of hr
    refine ⟨_, pss_cons (ps_set (i := 3) scLawPairs.nd rfl (Or.inr rfl) (pe_lst pa_nil))
      (pss_cons (ps_for PassesOwn.never rfl (pi_range1 (by rfl) T.range (pa_cons (pv 1) pa_nil)) (pg_name (i := 4) scLawPairs.nd rfl (Or.inl rfl))
        (pss_one (ps_for PassesOwn.never rfl (pi_range2 (by rfl) T.range (pa_cons (pe_op op_add (pv 4) pe_int) (pa_cons (pv 1) pa_nil))) (pg_name (i := 5) scLawPairs.nd rfl (Or.inl rfl))
          (pss_cons (ps_setLc (i := 6) (own := [("_law_place", 7)]) (g := (gName 7)) (tt := tYes) (by rfl) scLawPairs.nd rfl rfl (sw_true rfl rfl rfl (by decide +kernel)) (pi_list (pe_lst (pa_cons (pv 4) (pa_cons (pv 5) pa_nil)))) (blkOk_by (own := [("_law_place", 7)]) (N := nLawPairs) (sc := defScope s_law_pairs) (by decide +kernel)) (fun _ _ _ _ _ => (pg_name (i := 7) scLawPairs.nd rfl (Or.inr rfl))) (fun _ _ _ _ _ => pts_nil) (fun _ _ _ _ _ => (pe_callB (r := rLenK K) (show CallR _ (.builtin "len") (rLenK K) from call_len_seq) (by rfl) T.len PySem.boot_len (pa_cons (pe_lc (own := [("_law_pair", 8)]) (g := (gName 8)) (tt := _) rfl scLawPairs.nd  (show PI _ _ _ (iList K _) from pi_list (pv 3)) (blkOk_by (own := [("_law_pair", 8)]) (N := nLawPairs) (sc := ({ kind := .function, names := [(".0", .local), ("_law_place", .cell), ("len", .globalImplicit), ("_law_found", .cell)], isGenerator := false, isCoroutine := false } : Scope)) (by decide +kernel)) (fun _ _ _ _ _ => (pg_name (i := 8) scLawPairs.nd rfl (Or.inl rfl))) (fun _ _ _ _ _ => (pts_one (pt_cmpR (r := rIn K false) (show OpR _ (compareOp .In) (rIn K false) from op_in_seq) (pv 7) (pv 8) (by rfl)))) (fun _ _ _ _ _ => (pv 8))) pa_nil))))
          (pss_one (ps_if (PW.pt (pw_and (pt_cmpR op_lt (pe_callB (cr_max rfl) (by rfl) T.max (by decide +kernel) (pa_cons (pv 6) pa_nil)) pe_int (nomark _)) (pw_and1 (pt_cmpR op_eq (D.call (hr.mono (by decide)) (pa_cons (pv 0) (pa_cons (pv 2) pa_nil))) pe_int (nomark _)))))
            (pss_one (ps_expr (pe_bm PySem.F.plainAttrs_list PySem.F.slot_list_append PySem.F.type_list_append mt_append (pv 3) (pa_cons (pe_tup (pa_cons (pv 4) (pa_cons (pv 5) pa_nil))) pa_nil)))) pss_nil))))))
      (pss_one (ps_ret (pv 3)))), ?_⟩
    refine ⟨by show 0 ≤ sizeLine; decide, fun F hF => ?_⟩
    refine new_step hF fun H1 s1 e1 => ?_
    have Fp : F ≠ p := ne_hand hH hF
    obtain ⟨M, rfl⟩ : ∃ M : Nat, many = (M : Int) := ⟨many.toNat, by omega⟩
    refine ⟨_, rfl, _, rfl, by omega, by omega, ?_⟩
    rw [Int.toNat_natCast]
    refine for_range (lo := 0) (n := M) (fun i σ H' => (Stp p H H' ∧ ∃ (ws : List V) (ps : List Pr), H' F = some (.lst ws) ∧ AllIn (PrAt K H') ws ps ∧ PsOk (M : Int) ps ∧ ps.length ≤ 12 * i ∧ ∀ t ∈ ps, t.1 < (i : Int)) ∧ ∃ u1 u2 u3 : Option V, σ = [some (.ref p), some (.int (M : Int)), some (.int rare), some (.ref F), u1, u2, u3, none, none]) ⟨⟨Stp.of hH s1, [], [], e1, AllIn.nil, PsOk.nil _, Nat.le_refl _, fun t ht => absurd ht List.not_mem_nil⟩, none, none, none, rfl⟩ ?_ ?_
    · rintro i σ H2 hi ⟨⟨S2, ws, ps, f1, f2, f3, f4, f5⟩, u1, u2, u3, rfl⟩
      rw [Int.zero_add]
      refine ⟨_, rfl, _, _, rfl, rfl, _, rfl, _, _, rfl, ⟨by omega, by omega, by omega, by omega⟩, ?_⟩
      have en : ((M : Int) - ((i : Int) + 1)).toNat = M - (i + 1) := by omega
      rw [en]
      refine for_range (lo := (i : Int) + 1) (n := M - (i + 1)) (fun j σ H' => (Stp p H H' ∧ ∃ (ws : List V) (ps : List Pr), H' F = some (.lst ws) ∧ AllIn (PrAt K H') ws ps ∧ PsOk (M : Int) ps ∧ ps.length ≤ 12 * i + j ∧ ∀ t ∈ ps, t.1 < (i : Int) ∨ (t.1 = (i : Int) ∧ t.2 < (i : Int) + 1 + (j : Int))) ∧ ∃ u2 u3 : Option V, σ = [some (.ref p), some (.int (M : Int)), some (.int rare), some (.ref F), some (.int (i : Nat)), u2, u3, none, none]) ⟨⟨S2, ws, ps, f1, f2, f3, by omega, fun t ht => .inl (f5 t ht)⟩, _, _, rfl⟩ ?_ ?_
      · rintro j σ H3 hj ⟨⟨S3, ws, ps, f1, f2, f3, f4, f5⟩, u2, u3, rfl⟩
        generalize hsec : (i : Int) + 1 + (j : Int) = sec at f5 ⊢
        refine ⟨_, rfl, _, rfl, by show 2 ≤ sizeLine; decide, fun L hL => ?_⟩
        refine new_step hL fun H4 s4 e4 => ?_
        refine ⟨L, rfl, ⟨_, SqL.of e4⟩, fun D hD => ?_⟩
        have g4 := s4 _ _ f1
        have a4 : AllIn (PrAt K H4) ws ps := f2.mono fun _ _ => PrAt.same s4
        refine lc_list (K := K) (a := L) (xs := ([(i : Int), sec].map V.int)) (fun c H' => Same H4 H' ∧ H' D = some (.lst ((([(i : Int), sec].take c).map fun q => ((cntP ps q : Nat) : Int)).map V.int))) ⟨Same.new hD, upd_same⟩ (fun c H' _ h => SqL.of (h.1 _ _ e4)) (fun c x H5 hc g => ?_) fun H5 g => ?_
        · obtain ⟨s5, d5⟩ := g
          rw [List.getElem?_map] at hc
          obtain ⟨q, hq, rfl⟩ := Option.map_eq_some_iff.mp hc
          have g5 := s5 _ _ g4
          refine ⟨rfl, _, rfl, F, rfl, ⟨_, SqL.of g5⟩, fun D2 hD2 => ?_⟩
          refine lc_list (K := K) (a := F) (xs := ws) (fun b H' => Same H5 H' ∧ ∃ vs : List V, H' D2 = some (.lst vs) ∧ vs.length = cntP (ps.take b) q) ⟨Same.new hD2, [], upd_same, rfl⟩ (fun b H' _ h => SqL.of (h.1 _ _ g5)) (fun b x H6 hb g => ?_) fun H6 g => ?_
          · obtain ⟨s6, vs, d6, l6⟩ := g
            obtain ⟨t, ht, s, rfl, hs⟩ := a4.2 b x hb
            have bl := (List.getElem?_eq_some_iff.mp ht).1
            have ct : cntP (ps.take (b + 1)) q = cntP (ps.take b) q + if q = t.1 ∨ q = t.2 then 1 else 0 := by
              rw [List.take_add_one, ht]
              exact cntP_app _ _ _
            refine ⟨rfl, _, rfl, _, rfl, s, _, rfl, .inr ((s5.trans s6).sqT hs), rfl, rfl, _, rfl, ?_⟩
            rw [in_pr, if_neg Bool.false_ne_true]
            refine ite2 (fun c => ?_) (fun c => ?_)
            · rw [if_pos (by simpa using c)] at ct
              refine ⟨_, rfl, vs, d6, ?_, s6.mut hD2, vs ++ [.ref s], upd_same, by rw [List.length_append, l6, ct] <;> rfl⟩
              have z : cntP (ps.take b) q ≤ ps.length := Nat.le_trans (List.length_filter_le _ _) (by rw [List.length_take]; omega)
              rw [l6]
              exact small1000 (by omega)
            · rw [if_neg (fun z => c (by simpa using z)), Nat.add_zero] at ct
              exact ⟨s6, vs, d6, by rw [ct]; exact l6⟩
          · obtain ⟨s6, vs, d6, l6⟩ := g
            rw [f2.1, List.take_length] at l6
            have d56 := s6 _ _ d5
            refine ⟨D2, _, rfl, .inl (SqL.of d6), _, d56, ?_, (s5.trans s6).mut hD, ?_⟩
            · rw [List.length_map, List.length_map, List.length_take]
              exact small1000 (Nat.le_trans (Nat.min_le_right _ _) (by show 2 ≤ 1000; decide))
            · rw [upd_same, l6, List.take_add_one, hq, List.map_append, List.map_append] <;> rfl
        · obtain ⟨s5, d5⟩ := g
          rw [List.take_of_length_le (by rw [List.length_map]; exact Nat.le_refl _)] at d5
          have S5 := S3.post (s4.trans s5)
          refine ⟨_, rfl, D, _, rfl, SqL.of d5, by show 0 < 2; decide, fun mx hmx hle => ⟨_, _, rfl, rfl, _, rfl, ?_⟩⟩
          have g5 := s5 _ _ g4
          have stay : ∀ H', Stp p H5 H' → (Stp p H H' ∧ ∃ (ws : List V) (ps : List Pr), H' F = some (.lst ws) ∧ AllIn (PrAt K H') ws ps ∧ PsOk (M : Int) ps ∧ ps.length ≤ 12 * i + (j + 1) ∧ ∀ t ∈ ps, t.1 < (i : Int) ∨ (t.1 = (i : Int) ∧ t.2 < (i : Int) + 1 + ((j + 1 : Nat) : Int))) := fun H' S' =>
            ⟨S5.trans S', ws, ps, S'.keep _ _ Fp g5, a4.mono fun _ _ h => prAt_stp S' S5.hand (h.same s5), f3, by omega, fun t ht => by rcases f5 t ht with h | ⟨h, h2⟩ <;> omega⟩
          refine ite2 (fun c1 => ?_) (fun _ => ⟨stay H5 (Stp.refl S5.hand), _, _, rfl⟩)
          have c1 := of_decide_eq_true c1
          have k1 := hle ((cntP ps (i : Int) : Nat) : Int) List.mem_cons_self
          have k2 := hle ((cntP ps sec : Nat) : Int) (List.mem_cons_of_mem _ List.mem_cons_self)
          refine ⟨_, rfl, _, rfl, p, rare, rfl, r0, by omega, S5.hand, fun d H6 _ _ S6 => ⟨rfl, _, rfl, ite2 (fun _ => ?_) (fun _ => ⟨stay H6 S6, _, _, rfl⟩)⟩⟩
          have g6 := S6.keep _ _ Fp g5
          have a6 : AllIn (PrAt K H6) ws ps := a4.mono fun _ _ h => prAt_stp S6 S5.hand (h.same s5)
          have S06 := S5.trans S6
          refine ⟨_, rfl, .inl ⟨rfl, _, SqL.of g6⟩, _, rfl, _, rfl, by show 2 ≤ sizeLine; decide, fun q hq => ?_⟩
          refine new_step hq fun H7 s7 e7 => ?_
          have g7 := s7 _ _ g6
          refine ⟨F, ws, _, rfl, rfl, g7, by rw [f2.1]; exact small1000 (by omega), ⟨(S06.post s7).mut hH hF, ws ++ [.ref q], ps ++ [((i : Int), sec)], upd_same, ?_, ?_, by rw [List.length_append]; show _ + 1 ≤ _; omega, fun t ht => ?_⟩, _, _, rfl⟩
          · exact AllIn.snoc (a6.mono fun _ _ h => (h.same s7).upd g7) (PrAt.upd g7 ⟨q, rfl, SqT.of e7⟩)
          · refine f3.snoc ⟨by show (0 : Int) ≤ (i : Int); omega, by show (i : Int) < sec; omega, by show sec < (M : Int); omega⟩ (fun u hu => ?_) (by show cntP ps (i : Int) < 4; omega) (by show cntP ps sec < 4; omega)
            rcases f5 u hu with h | ⟨h, h2⟩
            · exact .inl h
            · exact .inr ⟨h, h2⟩
          · rcases List.mem_append.mp ht with h | h
            · rcases f5 t h with h | ⟨h, h2⟩ <;> omega
            · rw [List.mem_singleton.mp h]
              refine .inr ⟨rfl, ?_⟩
              show sec < _
              omega
      · rintro σ H3 ⟨⟨S3, ws, ps, f1, f2, f3, f4, f5⟩, u2, u3, rfl⟩
        exact ⟨⟨S3, ws, ps, f1, f2, f3, by omega, fun t ht => by rcases f5 t ht with h | ⟨h, _⟩ <;> omega⟩, _, _, _, rfl⟩
    · rintro σ H2 ⟨⟨S2, ws, ps, f1, f2, f3, f4, f5⟩, u1, u2, u3, rfl⟩
      exact ⟨_, rfl, k F ws ps H2 hF S2 f1 f2 f3 (by omega)⟩
end
end Law

namespace Law
open PySem L2
theorem rare_pick {i : Nat} {x : V} (h : ([.int 1, .int 2, .int 2, .int 3] : List V)[i]? = some x) : ∃ n : Int, x = .int n ∧ 0 < n ∧ n < 1000 := by
  have m := List.mem_of_getElem? h
  simp only [List.mem_cons, List.not_mem_nil, or_false] at m
  rcases m with rfl | rfl | rfl | rfl <;> exact ⟨_, rfl, by decide, by decide⟩
abbrev RowsIn (lv : Int) (t : List (List Int)) : Prop := ∀ l ∈ t, (l.length : Int) = lv ∧ ∀ x ∈ l, 0 ≤ x ∧ x ≤ 1000
theorem rowsIn_snoc {lv : Int} {t : List (List Int)} {l : List Int} (h : RowsIn lv t) (hl : (l.length : Int) = lv) (hx : ∀ x ∈ l, 0 ≤ x ∧ x ≤ 1000) : RowsIn lv (t ++ [l]) := fun r hr => by
  rcases List.mem_append.mp hr with h' | h'
  · exact h r h'
  · rw [List.mem_singleton.mp h']
    exact ⟨hl, hx⟩
theorem nums_snoc {l : List Int} {n : Int} (h : ∀ x ∈ l, 0 ≤ x ∧ x ≤ 1000) (h0 : 0 ≤ n) (h1 : n ≤ 1000) : ∀ x ∈ l ++ [n], 0 ≤ x ∧ x ≤ 1000 := fun x hx => by
  rcases List.mem_append.mp hx with h' | h'
  · exact h x h'
  · rw [List.mem_singleton.mp h']
    exact ⟨h0, h1⟩
/-- a model made of rows and ties that are right -/
theorem model_ok {many levels : Int} {ws : List (List Int)} {ts : List Tie} {ps : List Pr} (m1 : 1 ≤ many ∧ many ≤ 12) (l1 : 1 ≤ levels ∧ levels ≤ 4) (wl : (ws.length : Int) = many) (wr : RowsIn levels ws) (t1 : ts.map (·.1) = ps) (ok : PsOk many ps) (t2 : TsOk many levels ts) : MdlSm ⟨many, levels, ws, ts⟩ ∧ wrongM ⟨many, levels, ws, ts⟩ = none := by
  have w : wrongM ⟨many, levels, ws, ts⟩ = none := made_ok m1 l1 (rowOk_tab wl wr) t2 fun q _ => by
    show cntT ts (q : Int) ≤ 4
    rw [cnt_tp, t1]
    exact ok.c q
  refine ⟨ok_sm w (fun l hl => ?_) fun t ht => t2.n t ht, w⟩
  obtain ⟨a, b⟩ := wr l hl
  refine ⟨fun z => ?_, fun x hx => (b x hx).1⟩
  rw [z] at a
  have : ((0 : Nat) : Int) = levels := a
  omega
section
variable {P : Program} {w : World} {K : PySem.W.Frag} {mg : Str → Option Value} {base : Heap}
def spMade (K : PySem.W.Frag) (C : Addr) : Sp := fun vs H Q _ => ∃ (d : Addr) (m : Mdl), vs = [.ref d] ∧ DicAt K H d m ∧ MdlSm m ∧ wrongM m = none ∧ ∀ (y : Addr) (H' : Hp), H y = none → Same H H' → ModAt K C H' y m → Q (.ref y) H'
abbrev nLawMade : List Str := ["_law_model"]
theorem scLawMade : FnScope nLawMade ["_law_model"] (defScope s_law_made) := ⟨rfl, rfl, rfl, by decide +kernel, rfl, by decide +kernel, by decide +kernel⟩
theorem ok_made {f : Addr} {fd : FuncData} {fgMN : Addr} {fdgMN : FuncData} {C : Addr} (F : Fun K "_law_made" "_law_made" s_law_made f fd) (T : NmA mg) (MgMN : Mk K C fgMN) (GgMN : FnOk P w K mg base CX0 6 fgMN fdgMN ["self", "many", "levels", "weights", "ties"] (spMInitN K C)) (BgMN : Binds K fdgMN ["self", "many", "levels", "weights", "ties"] []) (YgMN : ModT K mg C) : FnOk P w K mg base CX0 8 f fd ["_law_model"] (spMade K C) := by
  refine F.ok scLawMade (fun vs H Q E h => ?_) (fun cdv A' outer s H vs Q E hr h => ?_)
  · obtain ⟨d, m, rfl, _⟩ := h
    rfl
  · obtain ⟨d, m, rfl, hM, sm, wr, k⟩ := h
    have hu := hu_of hr
    refine ⟨_, pss_one (ps_ret (pe_make MgMN GgMN (hr.mono (by decide)) (by rfl) YgMN.mgC BgMN .nil pass0 (pa_cons (pe_dget hu (pv 0) pe_str (fun _ _ => rfl)) (pa_cons (pe_dget hu (pv 0) pe_str (fun _ _ => rfl)) (pa_cons (pe_dget hu (pv 0) pe_str (fun _ _ => rfl)) (pa_cons (pe_dget hu (pv 0) pe_str (fun _ _ => rfl)) pa_nil)))))), ?_⟩
    obtain ⟨w1, t1, hd1, hd2, hd3⟩ := hM
    refine ⟨_, rfl, d, _, rfl, gd_m hd1, _, rfl, d, _, rfl, gd_l hd1, _, rfl, d, _, rfl, gd_w hd1, _, rfl, d, _, rfl, gd_t hd1, ?_⟩
    intro y dy hy hdy ney
    obtain ⟨ok1, ok2⟩ := sm_ok sm
    have sx : Same H (upd (upd H dy (.own y)) y (.ins C dy [])) := mk_same0 hy hdy
    refine ⟨y, dy, w1, t1, m, rfl, upd_same, hd2.same sx, hd3.same sx, ok1, ok2, wr, fun H3 k3 h3 => ⟨rfl, ?_⟩⟩
    have s3 : Same H H3 := mk_same hy hdy k3
    exact k y H3 hy s3 ⟨dy, w1, t1, h3, hd2.same s3, hd3.same s3⟩
end
end Law
namespace L2
open PySem PySem.Spec PyProof.Rows
section
variable {P : Program} {w : World} {A : Around} {E : Value → Shared → Prop} {s : Shared} {K : PySem.W.Frag} {x C f : Addr} {ox : Obj} {od : Option Obj} {y : Value}
/-- a built-in special method of an own class's instance -/
theorem spec_bound {M : Model} {id T : String} {name : Str} {args : List Value} {Q : Option Value → Shared → Prop} (X : K.In s.heap) (I : PySem.W.InstAt s.heap x ox C od) (S : Slot T name id) (hs : PySem.W.findIn K (.ref C) name = some (some (.builtin id)))
    (h : wpAny M A (call (.builtin id) (.ref x :: args)) (fun v => Q (some v)) E s) : wpAny M A (callSpecialIfBound? (.ref x) name args) Q E s := by
  have fin : wpAny M A (call (.builtin id) ([.ref x] ++ args) >>= fun v => pure (some v)) Q E s := wpAny_bind (wpAny_mono h (fun v s' q => wpAny_pure q) fun _ _ q => q)
  simp only [callSpecialIfBound?, bindSpecialIfBound?]
  refine wpAny_holding (wpAny_bind (wpAny_bind (wpAny_bind (I.type.here ((PySem.W.looks_findIn X hs).here ?_)))))
  simp only [S.bind]
  refine wpAny_bind (wpAny_askSetting (wpAny_ite ?_))
  split
  · exact wpAny_bind (wpAny_pure (wpAny_pure fin))
  · exact wpAny_tryCatch (wpAny_bind (wpAny_pure (wpAny_pure fin)))
/-- its call is let: the instance is one of the owner's -/
theorem spec_check {M : Model} {id owner n : String} {us : List Value} {Q : Unit → Shared → Prop} (X : K.In s.heap) (I : PySem.W.InstAt s.heap x ox C od) (hk : builtinKind id = some .slot) (hs : splitId id = some (owner, n)) (ha : argsOk id ⟨.ref x :: us, []⟩)
    (hm : PySem.W.mroIn K C (.type owner) = some true) (q : Q () s) : wpAny M A (checkBuiltinCall id ⟨.ref x :: us, []⟩) Q E s := by
  simp only [checkBuiltinCall, hk, hs]
  refine wpAny_bind (wpAny_bind ?_)
  refine I.type.here ((PySem.W.looks_mroIn X hm).here ?_)
  simp only [Bool.not_true, Bool.false_eq_true, if_false]
  cases hsig : Manifest.signature? id with
  | none => exact wpAny_pure q
  | some sig =>
    simp only [argsOk, hsig] at ha
    have hc : Bind.checkArgs id sig ⟨.ref x :: us, []⟩ = pure () := ha
    show wpAny M A (Bind.checkArgs id sig ⟨.ref x :: us, []⟩) Q E _
    rw [hc]
    exact wpAny_pure q
/-- x != y by the own __eq__ -/
theorem ne_run (hu : A.units < cLine) (X : K.In s.heap) (I : PySem.W.InstAt s.heap x ox C od) (he : PySem.W.findIn K (.ref C) "__eq__" = some (some (.ref f))) (hf : PySem.W.isFn K (.ref f) = true) {Q : Fin → Shared → Prop}
    (h : wpAny (model P w) A (call (.ref f) [.ref x, y]) (fun v s' => ∃ b, v = .bool b ∧ Q (.done (.ret (.bool (!b)))) s') E s) : wpAny (model P w) A (Builtin.«object.__ne__» ⟨[.ref x, y], []⟩) Q E s := by
  unfold Builtin.«object.__ne__»
  repeat (first
    | with_reducible refine wpAny_cRoomFor hu ?_
    | (refine wpAny_bind (m := callSpecialIfBound? (.ref x) (Str.ofString "__eq__") [y])
        (PySem.W.ifBound_K X I he hf (wpAny_mono h (fun r s' hr => by
          obtain ⟨b, rfl, q⟩ := hr
          repeat (first | exact q | exact wpAny_pure q | exact wpAny_truthy_bool q | (refine wpAny_bind (m := truthy (.bool _)) (wpAny_truthy_bool ?_)) | wp_step)) fun _ _ e => e)))
    | wp_step)
theorem ne_call (hu : A.units + 1 < cLine) (X : K.In s.heap) (I : PySem.W.InstAt s.heap x ox C od) (he : PySem.W.findIn K (.ref C) "__eq__" = some (some (.ref f))) (hf : PySem.W.isFn K (.ref f) = true) (hm : PySem.W.mroIn K C (.type "object") = some true) {Q : Value → Shared → Prop}
    (h : wpAny (model P w) A.in1 (call (.ref f) [.ref x, y]) (fun v s' => ∃ b, v = .bool b ∧ Q (.bool (!b)) s') E s) : wpAny (model P w) A (call (.builtin "object.__ne__") [.ref x, y]) Q E s := by
  refine wpAny_call (codeAny_call_builtin F.cmp_object.ne.plain F.cmpEntry_ne (spec_check X I F.cmpKind_ne F.cmpSplit_ne (F.cmpArgs_ne _ _) hm (ne_run (A := A.in1) hu X I he hf (wpAny_mono h (fun v s' hv => ?_) fun _ _ e => e))))
  obtain ⟨b, rfl, q⟩ := hv
  first | exact ⟨b, rfl, wpAny_pure q⟩ | exact ⟨b, rfl, wpAny_pure (wpAny_pure q)⟩ | exact ⟨b, rfl, q⟩
end
end L2
namespace Law
open PySem L2
/-! ### a model's own ==, !=, with another one, with a dict or a tuple -/
def NoIns (K : PySem.W.Frag) (H : Hp) (b : Addr) : Value → Prop
  | .type "tuple" => ∃ ys, SqT K H b ys
  | .type "dict" => ∃ ks, H b = some (.dK ks)
  | _ => False
def rOwN (C : Addr) (sp : Sp) : R2 := fun x y H Q => ∃ a b dx fs dy gs, x = .ref a ∧ y = .ref b ∧ H a = some (.ins C dx fs) ∧ H b = some (.ins C dy gs) ∧ sp [x, y] H (fun z H' => ∃ k, z = .bl k ∧ Q (.bl (!k)) H') E0
def rOwX (K : PySem.W.Frag) (C : Addr) (sp : Sp) : R2 := fun x y H Q => ∃ a b dx fs, x = .ref a ∧ y = .ref b ∧ H a = some (.ins C dx fs) ∧ ((∃ dy gs, H b = some (.ins C dy gs)) ∨ NoIns K H b (.type "tuple") ∨ NoIns K H b (.type "dict")) ∧ sp [x, y] H Q E0
section
variable {X : Cx}
theorem own_go {f : Addr} {n : Nat} {fd : FuncData} {ps : List Str} {sp : Sp} (F : FnOk X.prog X.w X.K X.mg X.base CX0 n f fd ps sp) (hb : Binds X.K fd ps []) {A : Around} (hr : Room n A) (env : ∀ s H, Env0 X.prog X.w X.K X.mg X.base X.A X.stack s H → Env0 X.prog X.w X.K X.mg X.base A X.stack s H) {pins : List (Addr × Obj)} {s : Shared} {σ : L2.St} {H : Hp} {a b : Addr} {Q : VK} (I : Inv X pins σ H s)
    (q' : sp [.ref a, .ref b] H (fun z H' => (∃ k, z = .bl k) ∧ Q z H') E0) : wpAny (model X.prog X.w) A (call (.ref f) [.ref a, .ref b]) (fun w s' => ∃ k H', Inv X pins σ H' s' ∧ w = .bool k ∧ Q (.bl k) H') X.xe s := by
  have hl := F.len _ _ _ _ q'
  have r2 : Vals [V.ref a, V.ref b] [Value.ref a, Value.ref b] := .cons rfl (.cons rfl .nil)
  refine wpAny_call (codeAny_mono (F.run A X.stack s H ⟨[.ref a, .ref b], []⟩ [.ref a, .ref b] [.ref a, .ref b] _ E0 hr (env _ _ I.env0) (by
    have := hb s [.ref a, .ref b] I.kIn (by simpa using hl)
    simpa using this) r2 q') fun r s' hq => ?_)
  cases r with
  | error e => exact pass0 pins σ H s e s' I hq
  | ok fl =>
    cases fl with
    | ret w =>
      obtain ⟨z, H', I', rz, ⟨k, ez⟩, qz⟩ := I.after hq
      subst ez
      exact ⟨k, H', I', rz, qz⟩
    | _ => exact hq.elim
theorem op_ownX {C f : Addr} {n : Nat} {fd : FuncData} {ps : List Str} {sp : Sp} (F : FnOk X.prog X.w X.K X.mg X.base CX0 n f fd ps sp) (hs : PySem.W.findIn X.K (.ref C) "__eq__" = some (some (.ref f))) (hf : PySem.W.isFn X.K (.ref f) = true) (hb : Binds X.K fd ps [])
    (n1 : PySem.W.notFirst X.K C (.type "tuple") = true) (n2 : PySem.W.notFirst X.K C (.type "dict") = true) (hr : Room n X.A) (hbl : ∀ vs H Q, sp vs H Q E0 → sp vs H (fun z H' => (∃ b, z = .bl b) ∧ Q z H') E0) : OpR X (compareOp .Eq) (rOwX X.K C sp) := by
  intro pins s σ H x y v u Q I rx ry h
  obtain ⟨a, b, dx, fs, rfl, rfl, ha, hy, q⟩ := h
  cases rx
  cases ry
  obtain ⟨mA, J, _⟩ := ins_get I.hok ha
  obtain ⟨od, J, _⟩ := J.look
  obtain ⟨m, hF⟩ := I.fr
  have go := own_go F hb hr (fun _ _ e => e) I (hbl _ _ _ q)
  have back : ∀ w s', (∃ k H', Inv X pins σ H' s' ∧ w = .bool k ∧ Q (.bl k) H') → PySem.W.CmpBack (EP X pins σ Q) w s' := fun w s' ⟨k, H', I', e, qz⟩ => by
    subst e
    exact ⟨.bl k, H', I', rfl, qz⟩
  show wpAny (model X.prog X.w) X.A (richCompare .Eq (.ref a) (.ref b)) (EP X pins σ Q) X.xe s
  rcases hy with ⟨dy, gs, hb'⟩ | ⟨ys, hT⟩ | ⟨ks, hD⟩
  · obtain ⟨mB, J', _⟩ := ins_get I.hok hb'
    obtain ⟨od', J', _⟩ := J'.look
    exact PySem.W.cmp_K (op := .Eq) (tb := .ref C) hr.units0 hF I.ok.mod.kin J J'.type (by simp [PySem.W.notFirst]) hs hf (wpAny_mono go back fun _ _ x => x)
  · obtain ⟨its, rv, ⟨o, ho, hc, _⟩, _⟩ := I.tuple hT
    exact PySem.W.cmp_K (op := .Eq) (tb := .type "tuple") hr.units0 hF I.ok.mod.kin J (fun A Q E s k q => wpAny_typeOf ⟨o, k _ _ ho, hc⟩ q) n1 hs hf (wpAny_mono go back fun _ _ x => x)
  · obtain ⟨_, _, vs, _, dd⟩ := dk_of I.hok hD
    obtain ⟨o, ho, hc⟩ := dd.typeIs
    exact PySem.W.cmp_K (op := .Eq) (tb := .type "dict") hr.units0 hF I.ok.mod.kin J (fun A Q E s k q => wpAny_typeOf ⟨o, k _ _ ho, hc⟩ q) n2 hs hf (wpAny_mono go back fun _ _ x => x)
theorem op_ownN {C f : Addr} {n : Nat} {fd : FuncData} {ps : List Str} {sp : Sp} (F : FnOk X.prog X.w X.K X.mg X.base CX0 n f fd ps sp) (hs : PySem.W.findIn X.K (.ref C) "__eq__" = some (some (.ref f))) (hf : PySem.W.isFn X.K (.ref f) = true) (hb : Binds X.K fd ps [])
    (hn : PySem.W.findIn X.K (.ref C) "__ne__" = some (some (.builtin "object.__ne__"))) (hm : PySem.W.mroIn X.K C (.type "object") = some true) (hr : Room (n + 1) X.A) (hbl : ∀ vs H Q, sp vs H Q E0 → sp vs H (fun z H' => (∃ b, z = .bl b) ∧ Q z H') E0) : OpR X (compareOp .NotEq) (rOwN C sp) := by
  intro pins s σ H x y v u Q I rx ry h
  obtain ⟨a, b, dx, fs, dy, gs, rfl, rfl, ha, hb', q⟩ := h
  cases rx
  cases ry
  obtain ⟨mA, J, _⟩ := ins_get I.hok ha
  obtain ⟨od, J, _⟩ := J.look
  obtain ⟨mB, J', _⟩ := ins_get I.hok hb'
  obtain ⟨od', J', _⟩ := J'.look
  have go := own_go F hb hr.in1 (fun _ _ e => e.in1) I (hbl _ _ _ q)
  show wpAny (model X.prog X.w) X.A (richCompare .NotEq (.ref a) (.ref b)) (EP X pins σ Q) X.xe s
  unfold richCompare
  simp only [oneThing_ref]
  refine wpAny_holding (wpAny_bind (wpAny_cRoomFor hr.units0 ?_))
  refine wpAny_bind (J.type.here (wpAny_bind (J'.type.here ?_)))
  rw [show (Value.ref C != Value.ref C) = false from by simp]
  simp only [Bool.false_eq_true, if_false]
  refine wpAny_bind (wpAny_pure ?_)
  simp only [Bool.false_eq_true, if_false]
  have one : wpAny (model X.prog X.w) X.A (tryCompare (.ref a) (cmpInfo .NotEq).2.1 (.ref b)) (fun r s' => ∃ v, r = some v ∧ EP X pins σ Q v s') X.xe s := by
    unfold tryCompare
    refine wpAny_bind (spec_bound I.kIn J PySem.F.cmp_object.ne hn (ne_call (Nat.lt_of_le_of_lt (Nat.add_le_add_left (show 1 ≤ 64 by decide) _) hr.units) I.kIn J hs hf hm (wpAny_mono go (fun v s' hv => ?_) fun _ _ e => e)))
    obtain ⟨k, H', I', rfl, k', ek, qz⟩ := hv
    cases ek
    exact ⟨k, rfl, wpAny_pure ⟨_, rfl, .bl (!k), H', I', rfl, qz⟩⟩
  refine wpAny_bind (wpAny_mono one (fun r s' z => ?_) fun _ _ e => e)
  obtain ⟨v, rfl, qv⟩ := z
  exact wpAny_pure qv
end
section
variable {P : Program} {w : World} {K : PySem.W.Frag} {mg : Str → Option Value} {base : Heap}
/-- the own ==, of a Model and a Model, a dict or a tuple -/
def spMEqX (K : PySem.W.Frag) (C : Addr) : Sp := fun vs H Q _ => ∃ (p q : Addr) (a : Mdl), vs = [.ref p, .ref q] ∧ ModAt K C H p a ∧ ((∃ b, ModAt K C H q b ∧ Q (.bl (eqM a b)) H) ∨ ((NoIns K H q (.type "tuple") ∨ NoIns K H q (.type "dict")) ∧ Q (.bl false) H))
theorem bl_MEX {C : Addr} : ∀ vs H Q, spMEqX K C vs H Q E0 → spMEqX K C vs H (fun z H' => (∃ b, z = .bl b) ∧ Q z H') E0 := by
  rintro vs H Q ⟨p, q, a, e, h1, h⟩
  refine ⟨p, q, a, e, h1, ?_⟩
  rcases h with ⟨b, h2, k⟩ | ⟨h2, k⟩
  · exact .inl ⟨b, h2, ⟨_, rfl⟩, k⟩
  · exact .inr ⟨h2, ⟨_, rfl⟩, k⟩
abbrev nModelEqX : List Str := ["self", "other"]
theorem scModelEqX : FnScope nModelEqX ["self", "other"] (defScope s_Model_eq) := ⟨rfl, rfl, rfl, by decide +kernel, rfl, by decide +kernel, by decide +kernel⟩
theorem ok_meqx {f : Addr} {fd : FuncData} {C : Addr} (F : Fun K "__eq__" "Model.__eq__" s_Model_eq f fd) (T : NmA mg) (S : ModT K mg C) (kt : PySem.W.kitOne K (.type "tuple") (.ref C) = some false) (kd : PySem.W.kitOne K (.type "dict") (.ref C) = some false) : FnOk P w K mg base CX0 1 f fd ["self", "other"] (spMEqX K C) := by
  refine F.ok scModelEqX (fun vs H Q E h => ?_) (fun cdv A' outer s H vs Q E hr h => ?_)
  · obtain ⟨p, q, a, rfl, _⟩ := h
    rfl
  · obtain ⟨p, q, a, rfl, h1, h⟩ := h
    have hu := hu_of hr
    refine ⟨_, pss_one (ps_ret (pe_and (pe_callB call_isi (by rfl) T.isi (by decide +kernel) (pa_cons (pv 1) (pa_cons (pe_glob (v := .ref C) (u := .ref C) rfl S.mgC rfl) pa_nil))) (pe_and (pe_cmpR op_eq (pe_fld (pv 0) rfl) (pe_fld (pv 1) rfl) (nomark _)) (pe_and (pe_cmpR op_eq (pe_fld (pv 0) rfl) (pe_fld (pv 1) rfl) (nomark _)) (pe_and (pe_cmpR (op_eqD hr.units) (pe_fld (pv 0) rfl) (pe_fld (pv 1) rfl) (nomark _)) (pe_one (pe_cmpR (op_eqD hr.units) (pe_fld (pv 0) rfl) (pe_fld (pv 1) rfl) (nomark _)))))))), ?_⟩
    rcases h with ⟨b, h2, k⟩ | ⟨h2, k⟩
    · obtain ⟨d1, w1, t1, a1, b1, c1⟩ := id h1
      obtain ⟨d2, w2, t2, a2, b2, c2⟩ := id h2
      unfold eqM at k
      refine ⟨_, rfl, _, _, _, _, _, rfl, .own C, h2.ty S, kit_selfM (by simp), _, rfl, iteT ?_⟩
      refine ⟨_, rfl, p, C, d1, _, _, rfl, a1, S.cl, S.nK, modF_many _ _ _ _, _, rfl, q, C, d2, _, _, rfl, a2, S.cl, S.nK, modF_many _ _ _ _, rfl, _, rfl, ?_⟩
      rw [ei]
      cases e1 : decide (a.many = b.many) with
      | false =>
        rw [e1, Bool.false_and] at k
        exact iteF k
      | true =>
      rw [e1, Bool.true_and] at k
      refine iteT ⟨_, rfl, p, C, d1, _, _, rfl, a1, S.cl, S.nL, modF_levels _ _ _ _, _, rfl, q, C, d2, _, _, rfl, a2, S.cl, S.nL, modF_levels _ _ _ _, rfl, _, rfl, ?_⟩
      rw [ei]
      cases e2 : decide (a.levels = b.levels) with
      | false =>
        rw [e2, Bool.false_and] at k
        exact iteF k
      | true =>
      rw [e2, Bool.true_and] at k
      refine iteT ⟨_, rfl, p, C, d1, _, _, rfl, a1, S.cl, S.nW, modF_weights _ _ _ _, _, rfl, q, C, d2, _, _, rfl, a2, S.cl, S.nW, modF_weights _ _ _ _, tabD a.ws, tabD b.ws, dp_rows b1, dp_rows b2, shaped_of (lay_tabD _) (by decide), shaped_of (lay_tabD _) (by decide), _, rfl, ?_⟩
      rw [eqv_tabD]
      cases e3 : decide (a.ws = b.ws) with
      | false =>
        rw [e3, Bool.false_and] at k
        exact iteF k
      | true =>
      rw [e3, Bool.true_and] at k
      refine iteT ⟨_, rfl, p, C, d1, _, _, rfl, a1, S.cl, S.nT, modF_ties _ _ _ _, _, rfl, q, C, d2, _, _, rfl, a2, S.cl, S.nT, modF_ties _ _ _ _, tiesD a.ts, tiesD b.ts, dp_ties c1, dp_ties c2, shaped_of (lay_tiesD _) (by decide), shaped_of (lay_tiesD _) (by decide), ?_⟩
      rw [eqv_tiesD]
      exact k
    · rcases h2 with ⟨ys, h2⟩ | ⟨ks, h2⟩
      · exact ⟨_, rfl, _, _, _, _, _, rfl, .own C, tyx_tup h2, kt, _, rfl, iteF k⟩
      · exact ⟨_, rfl, _, _, _, _, _, rfl, .own C, .base (.dK h2), kd, _, rfl, iteF k⟩
end
end Law

namespace L2
open PySem PySem.Spec PyProof.Rows
theorem upI_get {n : Int} {i : Nat} (h : i < n.toNat) : (upI n)[i]? = some (i : Int) := by
  unfold upI
  rw [List.getElem?_map, List.getElem?_range h] <;> rfl
theorem upI_mem {n v : Int} (h : v ∈ upI n) : 0 ≤ v ∧ v < n := by
  obtain ⟨i, hi, rfl⟩ := List.mem_map.mp h
  have := List.mem_range.mp hi
  exact ⟨by omega, by omega⟩
end L2
namespace L2
open PySem PySem.Spec PyProof.Rows Law
/-! ### sorted pairs -/
def insP (t : Pr) : List Pr → List Pr
  | [] => [t]
  | u :: us => if SrtO.lexB u t = true then u :: insP t us else t :: u :: us
def isrt : List Pr → List Pr
  | [] => []
  | t :: ts => insP t (isrt ts)
abbrev SrtP (l : List Pr) : Prop := l.Pairwise fun x y => SrtO.lexB y x = false
theorem srt_one {l m : List Pr} (hl : SrtP l) (hm : SrtP m) (p : l.Perm m) : l = m := by
  refine List.Perm.eq_of_pairwise (le := fun x y => SrtO.lexB y x = false) (fun a b _ _ h1 h2 => ?_) hl hm p
  have a1 := SrtO.lexB_no.mp h1
  have a2 := SrtO.lexB_no.mp h2
  refine Prod.ext ?_ ?_ <;> omega
def psB (many : Int) (ps : List Pr) : Bool := (ps.all fun t => decide (0 ≤ t.1) && (decide (t.1 < t.2) && decide (t.2 < many))) && (decide (ps.Pairwise ltQ) && (List.range 12).all fun q : Nat => decide (cntP ps (q : Int) ≤ 4))
theorem psB_ok {many : Int} {ps : List Pr} (m12 : many ≤ 12) (h : psB many ps = true) : PsOk many ps := by
  unfold psB at h
  simp only [Bool.and_eq_true, List.all_eq_true, decide_eq_true_eq] at h
  obtain ⟨h1, h2, h3⟩ := h
  refine ⟨fun t ht => h1 t ht, h2, fun q => ?_⟩
  by_cases c : 0 ≤ q ∧ q < 12
  · have z := h3 q.toNat (List.mem_range.mpr (by omega))
    rw [show ((q.toNat : Nat) : Int) = q by omega] at z
    exact z
  · unfold cntP
    rw [List.filter_eq_nil_iff.mpr fun t ht => ?_]
    · exact Nat.zero_le _
    · have z := h1 t ht
      rw [decide_eq_false (by omega), decide_eq_false (by omega)]
      exact Bool.false_ne_true
/-- along a row, round a ring -/
def rowP (n : Nat) : List Pr := (List.range (n - 1)).map fun i : Nat => ((i : Int), (i : Int) + 1)
def ringP (n : Nat) : List Pr := isrt (rowP n ++ [((0 : Int), (n : Int) - 1)])
def rawS (R C : Nat) : List Pr := (List.range R).flatMap fun r => (List.range C).flatMap fun c =>
  (if c + 1 < C then [(((r * C + c : Nat) : Int), ((r * C + c + 1 : Nat) : Int))] else []) ++ if r + 1 < R then [(((r * C + c : Nat) : Int), ((r * C + c + C : Nat) : Int))] else []
def stp (R C : Nat) : List Pr := isrt (rawS R C)
def acrossP (R C : Nat) : List Pr := ((List.range (R * C)).filter fun p => decide (0 < (p + 1) % C)).map fun p : Nat => ((p : Int), (p : Int) + 1)
def downP (R C : Nat) : List Pr := (List.range (R * C - C)).map fun p : Nat => ((p : Int), (p : Int) + C)
def chkP (r C c : Nat) : List Pr := (if 0 < c then [(((r * C + c : Nat) : Int) - 1, ((r * C + c : Nat) : Int))] else []) ++ if 0 < r then [((r : Int) * C - C + c, ((r * C + c : Nat) : Int))] else []
def checksP (R C : Nat) : List Pr := (List.range R).flatMap fun r => (List.range C).flatMap fun c => chkP r C c
def srtB (l : List Pr) : Bool := decide (l.Pairwise fun x y => SrtO.lexB y x = false)
def gridB (R C : Nat) : Bool := (rawS R C).isPerm (stp R C) && ((acrossP R C ++ downP R C).isPerm (stp R C) && (srtB (stp R C) && (psB ((R * C : Nat) : Int) (stp R C) && ((checksP R C).isPerm (stp R C) && decide ((stp R C).length ≤ 24)))))
theorem grid_all : ((List.range 13).all fun R => (List.range 13).all fun C => !(decide (0 < R) && (decide (0 < C) && decide (R * C ≤ 12))) || gridB R C) = true := by decide +kernel
structure Grid (R C : Nat) : Prop where
  raw : (rawS R C).Perm (stp R C)
  ad : (acrossP R C ++ downP R C).Perm (stp R C)
  srt : SrtP (stp R C)
  ok : PsOk ((R * C : Nat) : Int) (stp R C)
  chk : (checksP R C).Perm (stp R C)
  len : (stp R C).length ≤ 24
theorem grid_ok {R C : Nat} (hR : 0 < R) (hC : 0 < C) (h : R * C ≤ 12) : Grid R C := by
  have z := grid_all
  rw [List.all_eq_true] at z
  have hR2 : R ≤ R * C := Nat.le_mul_of_pos_right R hC
  have hC2 : C ≤ R * C := Nat.le_mul_of_pos_left C hR
  have z := z R (List.mem_range.mpr (by omega))
  rw [List.all_eq_true] at z
  have z := z C (List.mem_range.mpr (by omega))
  rw [decide_eq_true hR, decide_eq_true hC, decide_eq_true h] at z
  have z : gridB R C = true := z
  unfold gridB srtB at z
  simp only [Bool.and_eq_true, List.isPerm_iff, decide_eq_true_eq] at z
  obtain ⟨a, b, c, d, e, f⟩ := z
  exact ⟨a, b, c, psB_ok (by omega) d, e, f⟩
theorem ring_all : ((List.range 13).all fun n => decide (n < 3) || ((rowP n ++ [((0 : Int), (n : Int) - 1)]).isPerm (ringP n) && (srtB (ringP n) && psB (n : Int) (ringP n)))) = true := by decide +kernel
theorem row_all : ((List.range 13).all fun n => psB (n : Int) (rowP n)) = true := by decide +kernel
theorem ring_ok {n : Nat} (h : 3 ≤ n) (h2 : n ≤ 12) : (rowP n ++ [((0 : Int), (n : Int) - 1)]).Perm (ringP n) ∧ SrtP (ringP n) ∧ PsOk (n : Int) (ringP n) := by
  have z := ring_all
  rw [List.all_eq_true] at z
  have z := z n (List.mem_range.mpr (by omega))
  rw [decide_eq_false (by omega), Bool.false_or] at z
  unfold srtB at z
  simp only [Bool.and_eq_true, List.isPerm_iff, decide_eq_true_eq] at z
  exact ⟨z.1, z.2.1, psB_ok (by omega) z.2.2⟩
theorem row_ok {n : Nat} (h2 : n ≤ 12) : PsOk (n : Int) (rowP n) := by
  have z := row_all
  rw [List.all_eq_true] at z
  exact psB_ok (by omega) (z n (List.mem_range.mpr (by omega)))
/-! ### models with one row and one table -/
def evenM (n : Int) (row : List Int) (ps : List Pr) (tab : List (List Int)) : Mdl := ⟨n, (row.length : Nat), List.replicate n.toNat row, ps.map fun t => (t, tab)⟩
def prW (row p : List Int) : Nat → Int
  | 0 => 1
  | k + 1 => prW row p k * gI row (gI p k)
def prT (tab : List (List Int)) (p : List Int) : List Pr → Int
  | [] => 1
  | t :: ts => gI (gR tab (gI p t.1)) (gI p t.2) * prT tab p ts
theorem wtW_even {n : Int} {row p : List Int} {ps : List Pr} {tab : List (List Int)} : ∀ k, k ≤ n.toNat → wtW (evenM n row ps tab) p k = prW row p k
  | 0, _ => rfl
  | k + 1, h => by
    show wtW (evenM n row ps tab) p k * wv (evenM n row ps tab) k (gI p k) = prW row p k * gI row (gI p k)
    rw [wtW_even k (by omega)]
    congr 1
    unfold wv evenM
    rw [List.getD_eq_getElem?_getD, List.getElem?_replicate, if_pos (by omega)] <;> rfl
theorem wtT_even (tab : List (List Int)) (p : List Int) : ∀ (ps : List Pr) (a : Int), wtT p a (ps.map fun t => (t, tab)) = a * prT tab p ps
  | [], a => (Int.mul_one a).symm
  | t :: ts, a => by
    show wtT p (a * tv (t, tab) (gI p t.1) (gI p t.2)) (ts.map fun t => (t, tab)) = a * (gI (gR tab (gI p t.1)) (gI p t.2) * prT tab p ts)
    rw [wtT_even tab p ts, Int.mul_assoc] <;> rfl
theorem wt_even {n : Int} {row p : List Int} {ps : List Pr} {tab : List (List Int)} : wt (evenM n row ps tab) p = prW row p n.toNat * prT tab p ps := by
  unfold wt
  rw [show (evenM n row ps tab).many.toNat = n.toNat from rfl, wtW_even _ (Nat.le_refl _)]
  exact wtT_even tab p ps _
theorem prW_one {l : Nat} {p : List Int} (h : ∀ i : Nat, i < p.length → 0 ≤ gI p i ∧ gI p i < l) : ∀ k, k ≤ p.length → prW (List.replicate l 1) p k = 1
  | 0, _ => rfl
  | k + 1, hk => by
    show prW (List.replicate l 1) p k * gI (List.replicate l 1) (gI p k) = 1
    obtain ⟨h0, h1⟩ := h k (by omega)
    rw [prW_one h k (by omega), Int.one_mul, show gI p k = ((gI p k).toNat : Nat) by omega]
    unfold gI
    rw [Int.toNat_natCast, List.getD_eq_getElem?_getD, List.getElem?_replicate, if_pos (by unfold gI at h0 h1; omega)] <;> rfl
theorem sum_takeI {p : List Int} {k : Nat} (h : k < p.length) : (p.take (k + 1)).sum = (p.take k).sum + gI p k := by
  have e : p[k]? = some (gI p k) := by
    unfold gI
    rw [Int.toNat_natCast, List.getD_eq_getElem?_getD, List.getElem?_eq_getElem h] <;> rfl
  rw [List.take_add_one, e, List.sum_append]
  simp
theorem prW_two {x : Int} {p : List Int} (h : ∀ i : Nat, i < p.length → 0 ≤ gI p i ∧ gI p i < 2) : ∀ k, k ≤ p.length → 0 ≤ (p.take k).sum ∧ prW [1, x] p k = x ^ (p.take k).sum.toNat
  | 0, _ => by
    rw [List.take_zero]
    exact ⟨Int.le_refl _, (Int.pow_zero x).symm⟩
  | k + 1, hk => by
    obtain ⟨h0, h1⟩ := h k (by omega)
    obtain ⟨s0, e⟩ := prW_two (x := x) h k (by omega)
    rw [sum_takeI (p := p) (k := k) (by omega)]
    refine ⟨by omega, ?_⟩
    show prW [1, x] p k * gI [1, x] (gI p k) = _
    rw [e]
    have c : gI p k = 0 ∨ gI p k = 1 := by omega
    rcases c with c | c
    · rw [c, Int.add_zero]
      exact Int.mul_one _
    · rw [c, show ((p.take k).sum + 1).toNat = (p.take k).sum.toNat + 1 by omega, Int.pow_succ] <;> rfl
theorem prT_01 {tab : List (List Int)} {p : List Int} {f : Pr → Bool} : ∀ {ps : List Pr}, (∀ t ∈ ps, gI (gR tab (gI p t.1)) (gI p t.2) = if f t = true then 1 else 0) → prT tab p ps = if ps.all f = true then 1 else 0
  | [], _ => rfl
  | t :: ts, h => by
    show gI (gR tab (gI p t.1)) (gI p t.2) * prT tab p ts = _
    rw [h t List.mem_cons_self, prT_01 fun u hu => h u (List.mem_cons_of_mem _ hu), List.all_cons]
    cases f t with
    | true => rw [Bool.true_and, if_pos rfl, Int.one_mul]
    | false => rw [Bool.false_and, if_neg Bool.false_ne_true, Int.zero_mul]
def alikeN (p : List Int) (ps : List Pr) : Nat := (ps.filter fun t => decide (gI p t.1 = gI p t.2)).length
theorem alike_le (p : List Int) (ps : List Pr) : alikeN p ps ≤ ps.length := List.length_filter_le _ _
theorem prT_two {a b : Int} {p : List Int} : ∀ {ps : List Pr}, (∀ t ∈ ps, (0 ≤ gI p t.1 ∧ gI p t.1 < 2) ∧ 0 ≤ gI p t.2 ∧ gI p t.2 < 2) → prT [[a, b], [b, a]] p ps = a ^ alikeN p ps * b ^ (ps.length - alikeN p ps)
  | [], _ => by
    show (1 : Int) = a ^ 0 * b ^ 0
    rw [Int.pow_zero, Int.pow_zero] <;> rfl
  | t :: ts, h => by
    show gI (gR [[a, b], [b, a]] (gI p t.1)) (gI p t.2) * prT _ p ts = _
    rw [prT_two fun u hu => h u (List.mem_cons_of_mem _ hu)]
    obtain ⟨⟨x0, x1⟩, y0, y1⟩ := h t List.mem_cons_self
    have al := alike_le p ts
    have al' : (ts.filter fun t => decide (gI p t.1 = gI p t.2)).length ≤ ts.length := al
    unfold alikeN
    rw [List.filter_cons]
    by_cases e : gI p t.1 = gI p t.2
    · rw [if_pos (decide_eq_true e), List.length_cons, List.length_cons, Nat.add_sub_add_right, Int.pow_succ]
      have g : gI (gR [[a, b], [b, a]] (gI p t.1)) (gI p t.2) = a := by
        rw [← e]
        have c : gI p t.1 = 0 ∨ gI p t.1 = 1 := by omega
        rcases c with c | c <;> rw [c] <;> rfl
      rw [g, Int.mul_comm _ a, Int.mul_assoc]
    · rw [if_neg (fun z => e (of_decide_eq_true z)), List.length_cons, Nat.sub_add_comm al', Int.pow_succ]
      have g : gI (gR [[a, b], [b, a]] (gI p t.1)) (gI p t.2) = b := by
        have c : (gI p t.1 = 0 ∧ gI p t.2 = 1) ∨ (gI p t.1 = 1 ∧ gI p t.2 = 0) := by omega
        rcases c with ⟨c, d⟩ | ⟨c, d⟩ <;> rw [c, d] <;> rfl
      rw [g, Int.mul_comm _ b, Int.mul_left_comm]
/-! ### the four makers -/
def tabNe (lv : Int) : List (List Int) := (upI lv).map fun a => (upI lv).map fun b => if a = b then (0 : Int) else 1
def tabGe (k : Int) : List (List Int) := (upI k).map fun a => (upI k).map fun b => if b ≤ a then (1 : Int) else 0
inductive Giv where
  | sp (n : Int) (ps : List Pr) (a b : Int)
  | ap (n : Int) (ps : List Pr) (x : Int)
  | co (n : Int) (ps : List Pr) (lv : Int)
  | st (R C m : Nat)
def wordG : Giv → Int
  | .sp .. => 0
  | .ap .. => 1
  | .co .. => 2
  | .st .. => 3
def mdlG : Giv → Mdl
  | .sp n ps a b => evenM n [1, 1] ps [[a, b], [b, a]]
  | .ap n ps x => evenM n [1, x] ps [[1, 1], [1, 0]]
  | .co n ps lv => evenM n (List.replicate lv.toNat 1) ps (tabNe lv)
  | .st R C m => evenM ((R * C : Nat) : Int) (List.replicate (m + 1) 1) (stp R C) (tabGe ((m + 1 : Nat) : Int))
def GOk : Giv → Prop
  | .sp n ps a b => (1 ≤ n ∧ n ≤ 12) ∧ PsOk n ps ∧ ps.length ≤ 144 ∧ (0 ≤ a ∧ a ≤ 1000) ∧ 0 ≤ b ∧ b ≤ 1000
  | .ap n ps x => (1 ≤ n ∧ n ≤ 12) ∧ PsOk n ps ∧ ps.length ≤ 144 ∧ 0 ≤ x ∧ x ≤ 1000
  | .co n ps lv => (1 ≤ n ∧ n ≤ 12) ∧ PsOk n ps ∧ ps.length ≤ 144 ∧ 1 ≤ lv ∧ lv ≤ 4
  | .st R C m => 0 < R ∧ 0 < C ∧ R * C ≤ 12 ∧ m ≤ 3
def fallB (R C : Nat) (p : List Int) : Bool := (checksP R C).all fun t => decide (gI p t.2 ≤ gI p t.1)
def bothN (p : List Int) (ps : List Pr) : Nat := (ps.filter fun t => decide (gI p t.1 = 1) && decide (gI p t.2 = 1)).length
def dueG : Giv → List Int → Int
  | .sp _ ps a b, p => a ^ alikeN p ps * b ^ (ps.length - alikeN p ps)
  | .ap _ ps x, p => if bothN p ps = 0 then x ^ p.sum.toNat else 0
  | .co _ ps _, p => if alikeN p ps = 0 then 1 else 0
  | .st R C _, p => if fallB R C p = true then 1 else 0
theorem perm_all {l m : List Pr} (h : l.Perm m) (f : Pr → Bool) : l.all f = m.all f := by
  rw [Bool.eq_iff_iff, List.all_eq_true, List.all_eq_true]
  exact ⟨fun z t ht => z t (h.mem_iff.mpr ht), fun z t ht => z t (h.mem_iff.mp ht)⟩
theorem all_len {ps : List Pr} {f : Pr → Bool} : (ps.all fun t => !f t) = decide ((ps.filter f).length = 0) := by
  rw [Bool.eq_iff_iff, List.all_eq_true, decide_eq_true_eq, List.length_eq_zero_iff, List.filter_eq_nil_iff]
  refine ⟨fun z t ht c => ?_, fun z t ht => ?_⟩
  · have q := z t ht
    rw [c] at q
    cases q
  · have q := z t ht
    rw [Bool.not_eq_true] at q
    rw [q] <;> rfl
theorem tab_gI {f : Int → Int → Int} {n a b : Int} (a0 : 0 ≤ a) (a1 : a < n) (b0 : 0 ≤ b) (b1 : b < n) : gI (gR ((upI n).map fun x => (upI n).map fun y => f x y) a) b = f a b := by
  obtain ⟨i, rfl⟩ := Int.eq_ofNat_of_zero_le a0
  obtain ⟨j, rfl⟩ := Int.eq_ofNat_of_zero_le b0
  have e : gR ((upI n).map fun x => (upI n).map fun y => f x y) (i : Nat) = (upI n).map fun y => f (i : Nat) y := by
    unfold gR
    rw [Int.toNat_natCast, List.getD_eq_getElem?_getD, List.getElem?_map, upI_get (by omega)] <;> rfl
  rw [e]
  exact gI_get (by rw [List.getElem?_map, upI_get (by omega)] <;> rfl)
/-- a picture of these levels, and what the pairs look at -/
structure PicP (n lv : Int) (ps : List Pr) (p : List Int) : Prop where
  len : (p.length : Int) = n
  at_ : ∀ i : Nat, i < p.length → 0 ≤ gI p i ∧ gI p i < lv
  pr : ∀ t ∈ ps, (0 ≤ gI p t.1 ∧ gI p t.1 < lv) ∧ 0 ≤ gI p t.2 ∧ gI p t.2 < lv
theorem picP {m : Mdl} {p : List Int} {ps : List Pr} (h : PicOk m p) (hb : ∀ t ∈ ps, 0 ≤ t.1 ∧ t.1 < t.2 ∧ t.2 < m.many) : PicP m.many m.levels ps p := by
  obtain ⟨h1, h2⟩ := h
  exact ⟨h1, fun i hi => gI_in (by omega) (by omega) h2, fun t ht => by
    obtain ⟨a, b, c⟩ := hb t ht
    exact ⟨gI_in a (by omega) h2, gI_in (by omega) (by omega) h2⟩⟩
theorem wt_due {g : Giv} (ok : GOk g) {p : List Int} (hp : PicOk (mdlG g) p) : wt (mdlG g) p = dueG g p := by
  cases g with
  | sp n ps a b =>
    obtain ⟨hn, h1, _⟩ := ok
    have q : PicP n 2 ps p := picP hp h1.b
    have l := q.len
    show wt (evenM n [1, 1] ps [[a, b], [b, a]]) p = _
    rw [wt_even, show n.toNat = p.length by omega, show ([1, 1] : List Int) = List.replicate 2 1 from rfl, prW_one (l := 2) q.at_ _ (Nat.le_refl _), Int.one_mul, prT_two q.pr] <;> rfl
  | ap n ps x =>
    obtain ⟨hn, h1, _⟩ := ok
    have q : PicP n 2 ps p := picP hp h1.b
    have l := q.len
    show wt (evenM n [1, x] ps [[1, 1], [1, 0]]) p = if bothN p ps = 0 then x ^ p.sum.toNat else 0
    have z := (prW_two (x := x) q.at_ p.length (Nat.le_refl _)).2
    rw [List.take_length] at z
    rw [wt_even, show n.toNat = p.length by omega, z, prT_01 (f := fun t => !(decide (gI p t.1 = 1) && decide (gI p t.2 = 1))) fun t ht => ?_, all_len (f := fun t => decide (gI p t.1 = 1) && decide (gI p t.2 = 1))]
    · unfold bothN
      by_cases c : (ps.filter fun t => decide (gI p t.1 = 1) && decide (gI p t.2 = 1)).length = 0
      · rw [decide_eq_true c, if_pos rfl, if_pos c, Int.mul_one]
      · rw [decide_eq_false c, if_neg Bool.false_ne_true, if_neg c, Int.mul_zero]
    · obtain ⟨⟨x0, x1⟩, y0, y1⟩ := q.pr t ht
      have c : gI p t.1 = 0 ∨ gI p t.1 = 1 := by omega
      have d : gI p t.2 = 0 ∨ gI p t.2 = 1 := by omega
      rcases c with c | c <;> rcases d with d | d <;> rw [c, d] <;> rfl
  | co n ps lv =>
    obtain ⟨hn, h1, _, l0, l4⟩ := ok
    have q : PicP n ((List.replicate lv.toNat (1 : Int)).length : Nat) ps p := picP hp h1.b
    rw [List.length_replicate, show ((lv.toNat : Nat) : Int) = lv by omega] at q
    have l := q.len
    show wt (evenM n (List.replicate lv.toNat 1) ps (tabNe lv)) p = if alikeN p ps = 0 then 1 else 0
    rw [wt_even, show n.toNat = p.length by omega, prW_one (l := lv.toNat) (fun i hi => by have := q.at_ i hi; omega) _ (Nat.le_refl _), Int.one_mul, prT_01 (f := fun t => !decide (gI p t.1 = gI p t.2)) fun t ht => ?_, all_len (f := fun t => decide (gI p t.1 = gI p t.2))]
    · unfold alikeN
      by_cases c : (ps.filter fun t => decide (gI p t.1 = gI p t.2)).length = 0
      · rw [decide_eq_true c, if_pos rfl, if_pos c]
      · rw [decide_eq_false c, if_neg Bool.false_ne_true, if_neg c]
    · obtain ⟨⟨x0, x1⟩, y0, y1⟩ := q.pr t ht
      unfold tabNe
      rw [tab_gI x0 x1 y0 y1]
      by_cases c : gI p t.1 = gI p t.2
      · rw [if_pos c, decide_eq_true c] <;> rfl
      · rw [if_neg c, decide_eq_false c] <;> rfl
  | st R C m =>
    obtain ⟨hR, hC, h12, m3⟩ := ok
    have G := grid_ok hR hC h12
    have q : PicP ((R * C : Nat) : Int) ((List.replicate (m + 1) (1 : Int)).length : Nat) (stp R C) p := picP hp G.ok.b
    rw [List.length_replicate] at q
    have l := q.len
    show wt (evenM ((R * C : Nat) : Int) (List.replicate (m + 1) 1) (stp R C) (tabGe ((m + 1 : Nat) : Int))) p = if fallB R C p = true then 1 else 0
    rw [wt_even, Int.toNat_natCast, show R * C = p.length by omega, prW_one (l := m + 1) q.at_ _ (Nat.le_refl _), Int.one_mul, prT_01 (f := fun t => decide (gI p t.2 ≤ gI p t.1)) fun t ht => ?_]
    · unfold fallB
      rw [perm_all G.chk]
    · obtain ⟨⟨x0, x1⟩, y0, y1⟩ := q.pr t ht
      unfold tabGe
      rw [tab_gI x0 x1 y0 y1]
      by_cases c : gI p t.2 ≤ gI p t.1
      · rw [if_pos c, decide_eq_true c] <;> rfl
      · rw [if_neg c, decide_eq_false c] <;> rfl
end L2
namespace L2
open PySem PySem.Spec PyProof.Rows
theorem AllIn.set {α : Type} {R : V → α → Prop} {vs : List V} {l : List α} {v : V} {x : α} (h : AllIn R vs l) (n : Nat) (hv : R v x) : AllIn R (vs.set n v) (l.set n x) := by
  refine ⟨by rw [List.length_set, List.length_set, h.1], fun i u hu => ?_⟩
  rw [List.getElem?_set] at hu
  by_cases c : n = i
  · rw [if_pos c] at hu
    split at hu
    · rename_i hl
      cases hu
      exact ⟨x, by rw [List.getElem?_set, if_pos c, if_pos (by rw [← h.1]; exact hl)], hv⟩
    · cases hu
  · rw [if_neg c] at hu
    obtain ⟨y, h1, h2⟩ := h.2 i u hu
    exact ⟨y, by rw [List.getElem?_set, if_neg c]; exact h1, h2⟩
end L2
namespace Law
open PySem L2
theorem Stp.free {p : Addr} {H H' : Hp} {a : Addr} (S : Stp p H H') (h : H' a = none) : H a = none := by
  cases z : H a with
  | none => rfl
  | some o =>
    have ap : a ≠ p := ne_hand S.hand h
    rw [S.keep _ _ ap z] at h
    cases h
theorem catAny {K : PySem.W.Frag} {H : Hp} {a b : Addr} {xs ys : List V} {Q : VK} (ha : SqT K H a xs) (hb : SqT K H b ys) (hl : xs.length + ys.length ≤ sizeLine) (k : ∀ p H', Same H H' → SqT K H' p (xs ++ ys) → Q (.ref p) H') : rCatA K (.ref a) (.ref b) H Q :=
  ⟨a, b, xs, ys, rfl, rfl, ha, hb, hl, fun z => k b H (Same.refl H) (by rw [z]; exact hb), fun _ z => k a H (Same.refl H) (by rw [z, List.append_nil]; exact ha), fun _ _ p hp => k p _ (Same.new hp) (SqT.of upd_same)⟩
theorem slAny {K : PySem.W.Frag} {H : Hp} {a : Addr} {xs : List V} {lo hi : Option Int} {Q : VK} (ha : SqT K H a xs) (k : ∀ p H', Same H H' → SqT K H' p (cutV xs lo hi) → Q (.ref p) H') : rSlA K (.ref a) lo hi H Q := by
  refine ⟨a, xs, rfl, ha, fun z => k a H (Same.refl H) ?_, fun _ p hp => k p _ (Same.new hp) (SqT.of upd_same)⟩
  unfold cutV
  rw [z.1, z.2, List.drop_zero, Nat.sub_zero, List.take_length]
  exact ha
end Law
namespace L2
open PySem PySem.Spec PyProof.Rows Law RZ
theorem walk_zipT {K : PySem.W.Frag} {a b : Addr} {xs ys : List V} {n : Nat} (hn : n = min xs.length ys.length) : Walk (ItzT K a b) n (fun H => SqT K H a xs ∧ SqT K H b ys) (YPair (fun i => xs[i]?) (fun i => ys[i]?)) := by
  subst hn
  refine ⟨fun i _ hi q => ?_, fun _ q => ⟨xs, ys, q.1, q.2, by omega⟩, fun i H v H' _ q y => ?_⟩
  · have h1 : i < xs.length := by omega
    have h2 : i < ys.length := by omega
    exact ⟨xs, ys, xs[i], ys[i], q.1, q.2, by simp [h1], by simp [h2]⟩
  · obtain ⟨T, x, z, h1, h2, h3, h4, h5⟩ := y
    exact ⟨T, x, z, h1, h2, h3, h4 xs q.1, h5 ys q.2⟩
/-- a tuple of pairs, a list of pairs -/
def PrsT (K : PySem.W.Frag) (H : Hp) (s : Addr) (ps : List Pr) : Prop := ∃ ws, SqT K H s ws ∧ AllIn (PrAt K H) ws ps
theorem PrsT.same {K : PySem.W.Frag} {H H' : Hp} {s : Addr} {ps : List Pr} (e : Same H H') (h : PrsT K H s ps) : PrsT K H' s ps := by
  obtain ⟨ws, h1, h2⟩ := h
  exact ⟨ws, e.sqT h1, h2.mono fun _ _ => PrAt.same e⟩
theorem lexLt_pr {x y : Pr} (h : ltQ x y) : HT.lexLt [x.1, x.2] [y.1, y.2] = true := by
  have h : x.1 < y.1 ∨ (x.1 = y.1 ∧ x.2 < y.2) := h
  unfold HT.lexLt
  by_cases c : x.1 = y.1
  · rw [if_pos c]
    unfold HT.lexLt
    rw [if_neg (by omega), decide_eq_true (by omega)]
  · rw [if_neg c, decide_eq_true (by omega)]
theorem rep_snocB (n : Nat) : (List.replicate n true).map V.bl ++ [.bl true] = (List.replicate (n + 1) true).map V.bl := by
  rw [List.replicate_succ', List.map_append] <;> rfl
theorem all_trueB : ∀ n, (List.replicate n true).all id = true
  | 0 => rfl
  | n + 1 => by rw [List.replicate_succ, List.all_cons, all_trueB n] <;> rfl
theorem ties_ev {n lv : Int} {tab : List (List Int)} (hT : tabB lv lv tab = true) (hn : tab ≠ [] ∧ ∀ l ∈ tab, l ≠ [] ∧ ∀ x ∈ l, 0 ≤ x) {ps : List Pr} (hb : ∀ t ∈ ps, 0 ≤ t.1 ∧ t.1 < t.2 ∧ t.2 < n) (ha : ps.Pairwise ltQ) : ∀ k, TsOk n lv ((ps.take k).map fun t => (t, tab))
  | 0 => TsOk.nil
  | k + 1 => by
    rw [List.take_add_one]
    cases e : ps[k]? with
    | none =>
      rw [show (none : Option Pr).toList = [] from rfl, List.append_nil]
      exact ties_ev hT hn hb ha k
    | some t =>
      obtain ⟨hk, ek⟩ := List.getElem?_eq_some_iff.mp e
      have b := hb t (List.mem_of_getElem? e)
      rw [show (some t : Option Pr).toList = [t] from rfl, List.map_append]
      refine TsOk.snoc (ties_ev hT hn hb ha k) ?_ ⟨b.1, by show 0 ≤ t.2; omega, hn⟩ fun u hu => ?_
      · unfold tieB
        show (decide (t.2 < n) && (decide (t.1 < t.2) && tabB lv lv tab)) = true
        rw [decide_eq_true b.2.2, decide_eq_true b.2.1, hT] <;> rfl
      · obtain ⟨v, hv, rfl⟩ := List.mem_map.mp hu
        obtain ⟨j, hj, rfl⟩ := List.mem_iff_getElem.mp hv
        rw [List.length_take] at hj
        have z := List.pairwise_iff_getElem.mp ha j k (by omega) hk (by omega)
        rw [ek] at z
        rw [List.getElem_take]
        exact z
theorem even_ok {n : Int} {row : List Int} {ps : List Pr} {tab : List (List Int)} (hn : 1 ≤ n ∧ n ≤ 12) (l0 : 1 ≤ row.length) (l4 : row.length ≤ 4) (hr : ∀ x ∈ row, 0 ≤ x ∧ x ≤ 1000) (ok : PsOk n ps) (lt : tab.length = row.length) (ht : ∀ l ∈ tab, l.length = row.length ∧ ∀ x ∈ l, 0 ≤ x ∧ x ≤ 1000) : MdlSm (evenM n row ps tab) ∧ wrongM (evenM n row ps tab) = none := by
  have rt : RowsIn ((row.length : Nat) : Int) tab := fun l hl => ⟨by rw [(ht l hl).1], (ht l hl).2⟩
  have tb : tabB ((row.length : Nat) : Int) ((row.length : Nat) : Int) tab = true := rowOk_tab (by rw [lt]) rt
  have tne : tab ≠ [] := fun z => by rw [z] at lt; have : 0 = row.length := lt; omega
  have ti := ties_ev (n := n) tb ⟨tne, fun l hl => ⟨fun z => by have y := (ht l hl).1; rw [z] at y; have y : 0 = row.length := y; omega, fun x hx => ((ht l hl).2 x hx).1⟩⟩ ok.b ok.a ps.length
  rw [List.take_length] at ti
  refine model_ok (ps := ps) hn ⟨by omega, by omega⟩ (by rw [List.length_replicate]; omega) (fun l hl => ?_) (by rw [List.map_map]; exact List.map_id _) ok ti
  rw [(List.mem_replicate.mp hl).2]
  exact ⟨rfl, hr⟩
end L2
namespace Law
open PySem L2
def rLtTI (K : PySem.W.Frag) : R2 := fun x y H Q => ∃ (a b : Addr) (ns ms : List Int), x = .ref a ∧ y = .ref b ∧ SqT K H a (ns.map V.int) ∧ SqT K H b (ms.map V.int) ∧ Q (.bl (HT.lexLt ns ms)) H
section
variable {P : Program} {w : World} {K : PySem.W.Frag} {mg : Str → Option Value} {base : Heap}
def spPairB (K : PySem.W.Frag) : Sp := fun vs H Q _ => ∃ (b : Int) (s : Addr) (x y : Int), vs = [.int b, .ref s] ∧ SqT K H s [.int x, .int y] ∧ (0 ≤ x ∧ x < b) ∧ (0 ≤ y ∧ y < b) ∧ ∀ H', Same H H' → Q (.bl true) H'
abbrev nIsPairBelow : List Str := ["bound", "thing"]
theorem scIsPairBelow : FnScope nIsPairBelow ["bound", "thing"] (defScope s_is_pair_below) := ⟨rfl, rfl, rfl, by decide +kernel, rfl, by decide +kernel, by decide +kernel⟩
theorem ok_is_pair_below {f : Addr} {fd : FuncData} {fcRowI : Addr} {fdcRowI : FuncData} (F : Fun K "is_pair_below" "is_pair_below" s_is_pair_below f fd) (T : NmA mg) (cRowI : Cl P w K mg base CX0 3 "is_row_below" fcRowI fdcRowI ["bound", "thing"] (spRowI K)) : FnOk P w K mg base CX0 4 f fd ["bound", "thing"] (spPairB K) := by
  refine F.ok scIsPairBelow (fun vs H Q E h => ?_) (fun cdv A' outer s H vs Q E hr h => ?_)
  · obtain ⟨b, s, x, y, rfl, _⟩ := h
    rfl
  · obtain ⟨b, s, x, y, rfl, hS, hx, hy, k⟩ := h
    have hu := hu_of hr
    refine ⟨_, pss_one (ps_ret (pe_and (pe_callB call_isi (by rfl) T.isi (by decide +kernel) (pa_cons (pv 1) (pa_cons (pe_bltn (v := .ty "tuple") (u := .type "tuple") (by rfl) T.tuple (by decide +kernel) rfl) pa_nil))) (pe_and (pe_cmpR op_eq (pe_callB call_len_seq (by rfl) T.len PySem.boot_len (pa_cons (pv 1) pa_nil)) pe_int (nomark _)) (pe_one (cRowI.call (hr.mono (by decide)) (pa_cons (pv 0) (pa_cons (pv 1) pa_nil))))))), ?_⟩
    refine ⟨_, rfl, _, _, _, _, _, rfl, .ty "tuple", tyx_tup hS, kit_tt, _, rfl, iteT ?_⟩
    refine ⟨_, rfl, s, _, rfl, .inr hS, rfl, _, rfl, ?_⟩
    rw [decide_eq_true (by rfl)]
    refine iteT ⟨_, rfl, _, rfl, b, s, [x, y], rfl, hS, by show 2 ≤ 16000000; decide, fun H1 s1 => ?_⟩
    have e : rowI b [x, y] = true := by
      unfold rowI
      rw [List.all_cons, List.all_cons, decide_eq_true hx.1, decide_eq_true hy.1, decide_eq_true (show x ≤ b - 1 by omega), decide_eq_true (show y ≤ b - 1 by omega)] <;> rfl
    rw [e]
    exact k H1 s1
def spAsc (K : PySem.W.Frag) : Sp := fun vs H Q _ => ∃ (s : Addr) (ps : List Pr), vs = [.ref s] ∧ PrsT K H s ps ∧ ps.Pairwise ltQ ∧ ps.length ≤ 144 ∧ ∀ H', Same H H' → Q (.bl true) H'
abbrev nIsAscending : List Str := ["things", "one", "other"]
theorem scIsAscending : FnScope nIsAscending ["things"] (defScope s_is_ascending) := ⟨rfl, rfl, rfl, by decide +kernel, rfl, by decide +kernel, by decide +kernel⟩
theorem ok_is_ascending {f : Addr} {fd : FuncData} (F : Fun K "is_ascending" "is_ascending" s_is_ascending f fd) (T : NmA mg) : FnOk P w K mg base CX0 1 f fd ["things"] (spAsc K) := by
  refine F.ok scIsAscending (fun vs H Q E h => ?_) (fun cdv A' outer s H vs Q E hr h => ?_)
  · obtain ⟨s, ps, rfl, _⟩ := h
    rfl
  · obtain ⟨s, ps, rfl, hS, ha, hl, k⟩ := h
    refine ⟨_, pss_one (ps_ret (pe_callB (cr_all rfl) (by rfl) T.all (by decide +kernel) (pa_cons (pe_lc (own := [("one", 1), ("other", 2)]) (g := (gTup K 2 (gCons (gName 1) (gCons (gName 2) gNil)))) (tt := tYes) rfl scIsAscending.nd  (RZ.pi_zipA (by rfl) T.zip (pa_cons (pv 0) (pa_cons (pe_slice sl_tupA (pv 0) (po_some pe_int) po_none) pa_nil))) (blkOk_by (own := [("one", 1), ("other", 2)]) (N := nIsAscending) (sc := defScope s_is_ascending) (by decide +kernel)) (fun _ _ _ _ _ => (pg_tup (by rfl) (pgs_cons (pg_name (i := 1) scIsAscending.nd rfl (Or.inl rfl)) (pgs_cons (pg_name (i := 2) scIsAscending.nd rfl (Or.inl rfl)) pgs_nil)))) (fun _ _ _ _ _ => pts_nil) (fun _ _ _ _ _ => (pe_cmpR (r := rLtTI K) (show OpR _ (compareOp .Lt) (rLtTI K) from op_ltT hr.units0) (pv 1) (pv 2) (nomark _)))) pa_nil))), ?_⟩
    obtain ⟨ws, hS, aS⟩ := hS
    refine ⟨_, rfl, _, rfl, 1, rfl, ?_⟩
    unfold tNoPart
    refine slAny hS fun s2 H1 s1 hS2 => ?_
    have cl : cutV ws (some 1) none = ws.drop 1 := by
      unfold cutV
      rw [show HT.sIx ws.length 0 (some 1) = min 1 ws.length from HT.sIx_nat _ _ 1, show HT.sIx ws.length ws.length none = ws.length from rfl]
      by_cases c : ws.length = 0
      · rw [List.length_eq_zero_iff.mp c] <;> rfl
      · rw [show min 1 ws.length = 1 by omega, List.take_of_length_le (by rw [List.length_drop]; exact Nat.le_refl _)]
    rw [cl] at hS2
    have hS1 := s1.sqT hS
    have aS1 : AllIn (PrAt K H1) ws ps := aS.mono fun _ _ => PrAt.same s1
    refine ⟨s, s2, _, _, rfl, .inr ⟨hS1, hS2, fun D hD => ?_⟩⟩
    refine lc_it (walk_zipT (xs := ws) (ys := ws.drop 1) (n := ws.length - 1) (by rw [List.length_drop]; omega)) (fun i H' => Same H1 H' ∧ H' D = some (.lst ((List.replicate i true).map V.bl))) ⟨Same.new hD, upd_same⟩ (fun i H' _ h => ⟨h.1.sqT hS1, h.1.sqT hS2⟩) (fun i x H2 H3 hi g y => ?_) fun H2 g => ?_
    · obtain ⟨s2', d2⟩ := g
      obtain ⟨T, x1, x2, rfl, hT, rfl, e1, e2⟩ := y
      have e2 : (ws.drop 1)[i]? = some x2 := e2
      rw [List.getElem?_drop] at e2
      obtain ⟨t1, ht1, a1, rfl, r1⟩ := aS1.2 i _ e1
      obtain ⟨t2, ht2, a2, rfl, r2⟩ := aS1.2 (1 + i) _ e2
      refine new_step hT fun H4 s4 e4 => ?_
      have s14 := s2'.trans s4
      refine ⟨T, _, rfl, SqT.of e4, rfl, _, _, rfl, _, _, rfl, rfl, ?_⟩
      refine ⟨rfl, _, rfl, _, rfl, a1, a2, [t1.1, t1.2], [t2.1, t2.2], rfl, rfl, s14.sqT r1, s14.sqT r2, _, s4 _ _ d2, by rw [List.length_map, List.length_replicate]; have := aS.1; exact small1000 (by omega), s14.mut hD, ?_⟩
      obtain ⟨i1, q1⟩ := List.getElem?_eq_some_iff.mp ht1
      obtain ⟨i2, q2⟩ := List.getElem?_eq_some_iff.mp ht2
      have z := List.pairwise_iff_getElem.mp ha i (1 + i) i1 i2 (by omega)
      rw [q1, q2] at z
      rw [upd_same, lexLt_pr z, rep_snocB]
    · obtain ⟨s2', d2⟩ := g
      refine ⟨D, _, rfl, SqL.of d2, ?_⟩
      rw [all_trueB]
      exact k H2 (s1.trans s2')
def spLotP (K : PySem.W.Frag) : Sp := fun vs H Q _ => ∃ (b : Int) (s : Addr) (ps : List Pr), vs = [.int b, .ref s] ∧ PrsT K H s ps ∧ PsOk b ps ∧ ps.length ≤ 144 ∧ ∀ H', Same H H' → Q (.bl true) H'
abbrev nIsLotOfPairs : List Str := ["bound", "thing", "part"]
theorem scIsLotOfPairs : FnScope nIsLotOfPairs ["bound", "thing"] (defScope s_is_lot_of_pairs) := ⟨rfl, rfl, rfl, by decide +kernel, rfl, by decide +kernel, by decide +kernel⟩
theorem ok_is_lot_of_pairs {f : Addr} {fd : FuncData} {fcPairB : Addr} {fdcPairB : FuncData} {fcAsc : Addr} {fdcAsc : FuncData} (F : Fun K "is_lot_of_pairs" "is_lot_of_pairs" s_is_lot_of_pairs f fd) (T : NmA mg) (cPairB : Cl P w K mg base CX0 4 "is_pair_below" fcPairB fdcPairB ["bound", "thing"] (spPairB K)) (cAsc : Cl P w K mg base CX0 1 "is_ascending" fcAsc fdcAsc ["things"] (spAsc K)) : FnOk P w K mg base CX0 5 f fd ["bound", "thing"] (spLotP K) := by
  refine F.ok scIsLotOfPairs (fun vs H Q E h => ?_) (fun cdv A' outer s H vs Q E hr h => ?_)
  · obtain ⟨b, s, ps, rfl, _⟩ := h
    rfl
  · obtain ⟨b, s, ps, rfl, hS, ok, hl, k⟩ := h
    have hu := hu_of hr
    refine ⟨_, pss_cons (ps_if (PW.pt (pw_or (pt_not (pt_val (pe_callB call_isi (by rfl) T.isi (by decide +kernel) (pa_cons (pv 1) (pa_cons (pe_bltn (v := .ty "tuple") (u := .type "tuple") (by rfl) T.tuple (by decide +kernel) rfl) pa_nil))))) (pw_or1 (pt_not (pt_val (pe_callB (cr_all rfl) (by rfl) T.all (by decide +kernel) (pa_cons (pe_lc (own := [("part", 2)]) (g := (gName 2)) (tt := tYes) rfl scIsLotOfPairs.nd  (pi_tup (pv 1)) (blkOk_by (own := [("part", 2)]) (N := nIsLotOfPairs) (sc := defScope s_is_lot_of_pairs) (by decide +kernel)) (fun _ _ _ _ _ => (pg_name (i := 2) scIsLotOfPairs.nd rfl (Or.inl rfl))) (fun _ _ _ _ _ => pts_nil) (fun _ _ _ _ _ => (cPairB.call (hr.mono (by decide)) (pa_cons (pv 0) (pa_cons (pv 2) pa_nil))))) pa_nil)))))))
        (pss_one (ps_ret pe_bl)) pss_nil)
      (pss_one (ps_ret (cAsc.call (hr.mono (by decide)) (pa_cons (pv 1) pa_nil)))), ?_⟩
    obtain ⟨ws, hT, aS⟩ := id hS
    refine ⟨_, rfl, _, _, _, _, _, rfl, .ty "tuple", tyx_tup hT, kit_tt, _, rfl, ?_⟩
    refine iteF ⟨_, rfl, s, rfl, ⟨_, hT⟩, fun D hD => ?_⟩
    refine lc_tup (K := K) (a := s) (xs := ws) (fun i H' => Same H H' ∧ H' D = some (.lst ((List.replicate i true).map V.bl))) ⟨Same.new hD, upd_same⟩ (fun i H' _ h => h.1.sqT hT) (fun i x H1 hi g => ?_) fun H1 g => ?_
    · obtain ⟨s1, d1⟩ := g
      obtain ⟨t, ht, a, rfl, r⟩ := aS.2 i x hi
      obtain ⟨b0, b1, b2⟩ := ok.b t (List.mem_of_getElem? ht)
      have il := (List.getElem?_eq_some_iff.mp hi).1
      refine ⟨rfl, _, rfl, _, rfl, b, a, t.1, t.2, rfl, s1.sqT r, ⟨b0, by omega⟩, ⟨by omega, b2⟩, fun H2 s2 => ?_⟩
      refine ⟨_, s2 _ _ d1, by rw [List.length_map, List.length_replicate]; have := aS.1; exact small1000 (by omega), (s1.trans s2).mut hD, ?_⟩
      rw [upd_same, rep_snocB]
    · obtain ⟨s1, d1⟩ := g
      refine ⟨D, _, rfl, SqL.of d1, _, rfl, ?_⟩
      rw [all_trueB]
      refine iteF ⟨_, rfl, s, ps, rfl, hS.same s1, ok.a, hl, fun H2 s2 => k H2 (s1.trans s2)⟩
def spLotC (K : PySem.W.Frag) : Sp := spLotP K
abbrev nIsLotOfCouples : List Str := ["bound", "thing", "one", "other"]
theorem scIsLotOfCouples : FnScope nIsLotOfCouples ["bound", "thing"] (defScope s_is_lot_of_couples) := ⟨rfl, rfl, rfl, by decide +kernel, rfl, by decide +kernel, by decide +kernel⟩
theorem ok_is_lot_of_couples {f : Addr} {fd : FuncData} {fcLotP : Addr} {fdcLotP : FuncData} (F : Fun K "is_lot_of_couples" "is_lot_of_couples" s_is_lot_of_couples f fd) (T : NmA mg) (cLotP : Cl P w K mg base CX0 5 "is_lot_of_pairs" fcLotP fdcLotP ["bound", "thing"] (spLotP K)) : FnOk P w K mg base CX0 6 f fd ["bound", "thing"] (spLotP K) := by
  refine F.ok scIsLotOfCouples (fun vs H Q E h => ?_) (fun cdv A' outer s H vs Q E hr h => ?_)
  · obtain ⟨b, s, ps, rfl, _⟩ := h
    rfl
  · obtain ⟨b, s, ps, rfl, hS, ok, hl, k⟩ := h
    have hu := hu_of hr
    refine ⟨_, pss_one (ps_ret (pe_and (cLotP.call (hr.mono (by decide)) (pa_cons (pv 0) (pa_cons (pv 1) pa_nil))) (pe_one (pe_callB (cr_all rfl) (by rfl) T.all (by decide +kernel) (pa_cons (pe_lc (own := [("one", 2), ("other", 3)]) (g := (gTup K 2 (gCons (gName 2) (gCons (gName 3) gNil)))) (tt := tYes) rfl scIsLotOfCouples.nd  (pi_tup (pv 1)) (blkOk_by (own := [("one", 2), ("other", 3)]) (N := nIsLotOfCouples) (sc := defScope s_is_lot_of_couples) (by decide +kernel)) (fun _ _ _ _ _ => (pg_tup (by rfl) (pgs_cons (pg_name (i := 2) scIsLotOfCouples.nd rfl (Or.inl rfl)) (pgs_cons (pg_name (i := 3) scIsLotOfCouples.nd rfl (Or.inl rfl)) pgs_nil)))) (fun _ _ _ _ _ => pts_nil) (fun _ _ _ _ _ => (pe_cmpR op_lt (pv 2) (pv 3) (nomark _)))) pa_nil))))), ?_⟩
    refine ⟨_, rfl, _, rfl, b, s, ps, rfl, hS, ok, hl, fun H1 s1 => ⟨_, rfl, ?_⟩⟩
    obtain ⟨ws, hT, aS⟩ := hS.same s1
    refine iteT ⟨_, rfl, s, rfl, ⟨_, hT⟩, fun D hD => ?_⟩
    refine lc_tup (K := K) (a := s) (xs := ws) (fun i H' => Same H1 H' ∧ H' D = some (.lst ((List.replicate i true).map V.bl))) ⟨Same.new hD, upd_same⟩ (fun i H' _ h => h.1.sqT hT) (fun i x H2 hi g => ?_) fun H2 g => ?_
    · obtain ⟨s2, d2⟩ := g
      obtain ⟨t, ht, a, rfl, r⟩ := aS.2 i x hi
      obtain ⟨b0, b1, b2⟩ := ok.b t (List.mem_of_getElem? ht)
      have il := (List.getElem?_eq_some_iff.mp hi).1
      refine ⟨a, _, rfl, s2.sqT r, rfl, _, _, rfl, _, _, rfl, rfl, ?_⟩
      refine ⟨rfl, _, rfl, _, rfl, _, _, rfl, rfl, _, d2, by rw [List.length_map, List.length_replicate]; have := aS.1; exact small1000 (by omega), s2.mut hD, ?_⟩
      rw [upd_same]
      show some (HO.lst ((List.replicate i true).map V.bl ++ [V.bl (decide (t.1 < t.2))])) = _
      rw [decide_eq_true b1, rep_snocB]
    · obtain ⟨s2, d2⟩ := g
      refine ⟨D, _, rfl, SqL.of d2, ?_⟩
      rw [all_trueB]
      exact k H2 (s1.trans s2)
def spCheck (K : PySem.W.Frag) : Sp := fun vs H Q _ => ∃ (n : Int) (s : Addr) (ps : List Pr), vs = [.int n, .ref s] ∧ (1 ≤ n ∧ n ≤ 12) ∧ PrsT K H s ps ∧ PsOk n ps ∧ ps.length ≤ 144 ∧ ∀ H', Same H H' → Q .non H'
abbrev nCheckPairs : List Str := ["many", "pairs"]
theorem scCheckPairs : FnScope nCheckPairs ["many", "pairs"] (defScope s_check_pairs) := ⟨rfl, rfl, rfl, by decide +kernel, rfl, by decide +kernel, by decide +kernel⟩
theorem ok_check_pairs {f : Addr} {fd : FuncData} {fcWithin : Addr} {fdcWithin : FuncData} {fcLotC : Addr} {fdcLotC : FuncData} (F : Fun K "check_pairs" "check_pairs" s_check_pairs f fd) (T : NmA mg) (cWithin : Cl P w K mg base CX0 2 "is_within" fcWithin fdcWithin ["low", "high", "thing"] (spWithin K)) (cLotC : Cl P w K mg base CX0 6 "is_lot_of_couples" fcLotC fdcLotC ["bound", "thing"] (spLotP K)) : FnOk P w K mg base CX0 7 f fd ["many", "pairs"] (spCheck K) := by
  refine F.ok scCheckPairs (fun vs H Q E h => ?_) (fun cdv A' outer s H vs Q E hr h => ?_)
  · obtain ⟨n, s, ps, rfl, _⟩ := h
    rfl
  · obtain ⟨n, s, ps, rfl, hn, hS, ok, hl, k⟩ := h
    have hu := hu_of hr
    refine ⟨_, pss_cons (ps_if (pt_not (pt_val (cWithin.call (hr.mono (by decide)) (pa_cons pe_int (pa_cons pe_int (pa_cons (pv 0) pa_nil))))))
        pss_never pss_nil)
      (pss_one (ps_if (pt_not (pt_val (cLotC.call (hr.mono (by decide)) (pa_cons (pv 0) (pa_cons (pv 1) pa_nil)))))
        pss_never pss_nil)), ?_⟩
    refine ⟨_, rfl, 1, 12, _, rfl, .inl ⟨n, rfl, _, rfl, ?_⟩⟩
    rw [decide_eq_true hn.1, decide_eq_true hn.2]
    refine iteF ⟨_, rfl, _, rfl, n, s, ps, rfl, hS, ok, hl, fun H1 s1 => ⟨_, rfl, iteF (k H1 s1)⟩⟩
end
end Law

namespace L2
open PySem PySem.Spec PyProof.Rows
/-! ### (x,) * n for every n; t.count(k); set(t) of a tuple of ints -/
theorem tuple_mul0 (l : Addr) (items : Array Value) (n : Nat) (dd : Option Addr) (sl : Array (Option Value)) (u : Tok) (hi : items.isEmpty = false) :
    Meets (Builtin.«tuple.__mul__» ⟨[.ref l, .int 0 u], []⟩) (fun _ R s => s.heap.get? l = some { cls := .type "tuple", dict := dd, data := .seq items n, slots := sl } ∧
      R (.ok (.ret (Value.ref s.heap.objs.size))) { s with heap := s.heap.push { cls := Value.type "tuple", data := Data.seq #[] }, toks := s.toks }) :=
  .of_wp fun prog w A R s h => by
    obtain ⟨hp, g, d, tk, os⟩ := s
    obtain ⟨hl, h⟩ := h
    have f1 := AutoSeq1.idx_int
    have c1 : (items.isEmpty || (0 : Int) == 1) = false := by rw [hi] <;> rfl
    wp_walk using wpAny_loadPart' hl
    repeat (first
      | (refine wpAny_ite_false (decide_eq_false (by decide)) ?_; wp_walk using wpAny_loadPart' hl)
      | (refine wpAny_ite_false (decide_eq_false (by rw [c1]; exact Bool.false_ne_true)) ?_; wp_walk using wpAny_loadPart' hl)
      | (refine wpAny_ite_true (decide_eq_true (by simp)) ?_; wp_walk using wpAny_loadPart' hl))
    exact ⟨_, rfl, h⟩
theorem tuple_mul1 (l : Addr) (items : Array Value) (n : Nat) (dd : Option Addr) (sl : Array (Option Value)) (u : Tok) :
    Meets (Builtin.«tuple.__mul__» ⟨[.ref l, .int 1 u], []⟩) (fun _ R s => s.heap.get? l = some { cls := .type "tuple", dict := dd, data := .seq items n, slots := sl } ∧ R (.ok (.ret (Value.ref l))) s) :=
  .of_wp fun prog w A R s h => by
    obtain ⟨hp, g, d, tk, os⟩ := s
    obtain ⟨hl, h⟩ := h
    have f1 := AutoSeq1.idx_int
    have c1 : (items.isEmpty || (1 : Int) == 1) = true := by simp
    wp_walk using wpAny_loadPart' hl
    repeat (first
      | (refine wpAny_ite_false (decide_eq_false (by decide)) ?_; wp_walk using wpAny_loadPart' hl)
      | (refine wpAny_ite_true (decide_eq_true (by rw [c1])) ?_; wp_walk using wpAny_loadPart' hl, wpAny_typeOf' ⟨_, hl, rfl⟩))
    exact ⟨_, rfl, h⟩
def rCntT (K : PySem.W.Frag) : V → List V → Hp → VK → Prop := fun x xs H Q => ∃ (p : Addr) (ns : List Int) (k : Int), x = .ref p ∧ xs = [.int k] ∧ SqT K H p (ns.map V.int) ∧ Q (.int (ns.count k : Nat)) H
def rSetI (K : PySem.W.Frag) (w : World) : List V → Hp → VK → Prop := fun vs H Q => ∃ (a : Addr) (ns : List Int), vs = [V.ref a] ∧ SqT K H a (ns.map V.int) ∧ ns.length ≤ 1000 ∧
  ∀ (p : Addr) (c : Nat), H p = none → c ≤ ns.length → Q (.ref p) (upd H p (SetO w p (fun j => decide (j ∈ ns)) c))
section
variable {X : Cx}
theorem mt_tcount : MtR X "tuple.count" (rCntT X.K) := by
  intro pins s σ H x xs v us Q I rx rxs h
  obtain ⟨p, ns, k, rfl, rfl, hs, q⟩ := h
  cases rx
  obtain ⟨u, rfl, ru⟩ := rxs.one
  obtain ⟨t, rfl⟩ := ru
  obtain ⟨its, rv, ⟨⟨cls, dd, data, sl⟩, ho, hc, n, hd⟩, hlen⟩ := I.tuple hs
  simp only at hc hd
  subst hc hd
  have hi := ints_of_vals rv
  refine call_meets PySem.F.slot_tuple_count ⟨_, ho, rfl⟩ PySem.F.entry_tuple_count (PySem.F.args_tuple_count_2 _ _)
    (SeqAt.tuple_countAt p its.toArray n dd sl (.int k t) (eqk k)) ⟨ho, fun y hy => (eqk_gives hi y (by simpa using hy)).at _ _, ?_⟩
  have ec : its.toArray.toList.countP (eqk k) = ns.count k := eqk_count hi
  refine ⟨.int (ns.count k : Nat), H, I.tok _, ⟨s.toks, ?_⟩, q⟩
  show Value.int ((its.toArray.toList.countP (eqk k) : Nat) : Int) s.toks = Value.int ((ns.count k : Nat) : Int) s.toks
  rw [ec]
theorem cr_setI (hc : X.calm = true) : CallR X (.type "set") (rSetI X.K X.w) := by
  intro pins s σ H xs us Q I r h
  obtain ⟨a, ns, rfl, hq, hl, q⟩ := h
  rw [Vals.ref1 r]
  obtain ⟨its, rv, pt, hz⟩ := I.tuple hq
  have hi : IntsAre its.toArray.toList ns := ints_of_vals rv
  refine call_set_tupI ns (I.ok.hd hc) (show s.heap.IsTuple a its.toArray from pt) hi (by unfold scanBound; omega) fun h' tk c R1 hcn k => ?_
  exact ⟨.ref _, upd H s.heap.objs.size (SetO X.w s.heap.objs.size (fun j => decide (j ∈ ns)) c), I.laid (t' := tk) k (Nat.le_refl _) (setO_new R1), rfl, q _ c (I.hok.fresh (Nat.le_refl _)) hcn⟩
def rRepI (K : PySem.W.Frag) : R2 := fun x y H Q => ∃ l k xs, x = .ref l ∧ y = .int k ∧ SqT K H l xs ∧ xs ≠ [] ∧ 0 ≤ k ∧ k ≤ 1000 ∧ xs.length ≤ 1000 ∧
  (k = 0 → ∀ p, H p = none → Q (.ref p) (upd H p (.tup []))) ∧ (k = 1 → Q (.ref l) H) ∧ (2 ≤ k → ∀ p, H p = none → Q (.ref p) (upd H p (.tup (List.replicate k.toNat xs).flatten)))
theorem op_repI : OpR X (binaryOp .Mult) (rRepI X.K) := by
  intro pins s σ H x y v u Q I rx ry h
  obtain ⟨l, k, xs, rfl, rfl, hT, hne, h1, h2, hz, q0, q1, q2⟩ := h
  by_cases k2 : 2 ≤ k
  · exact op_repT pins s σ H _ _ v u Q I rx ry ⟨l, k, xs, rfl, rfl, hT, hne, k2, h2, hz, q2 k2⟩
  cases rx
  obtain ⟨t, rfl⟩ := ry
  obtain ⟨its, r, ⟨⟨cls, dd, data, sl⟩, ho, hc, n, hd⟩, hs⟩ := I.tuple hT
  simp only at hc hd
  subst hc hd
  have hle : its.length = xs.length := r.length.symm
  have hn : its ≠ [] := fun e => hne (by
    rw [e] at hle
    exact List.eq_nil_of_length_eq_zero hle.symm)
  have hi : its.toArray.isEmpty = false := by
    cases its with
    | nil => exact absurd rfl hn
    | cons a b => rfl
  by_cases k0 : k = 0
  · subst k0
    refine wpAny_binaryOp_repeat_ref (T := "tuple") (U := "int") (by decide) ⟨_, ho, rfl⟩ (fun s' => typeIs_int s' 0 t) noFill_tuple_mul F.fills_int_mul F.slot_int_rmul repeat_tuple F.slot_int_index.lookup
      (call_meets F.slot_int_rmul (typeIs_int s 0 t) F.entry_int_rmul (F.args_int_rmul_2 _ _) (int_rmul_tuple 0 t l its.toArray n dd sl)
        ⟨ho, rfl, ⟨_, ho, rfl⟩, call_meets F.slot_tuple_mul ⟨_, ho, rfl⟩ F.entry_tuple_mul (F.args_tuple_mul_2 _ _) (tuple_mul0 l its.toArray n dd sl t hi) ⟨ho, ?_⟩⟩)
    refine ⟨.ref s.heap.objs.size, _, I.laid (t' := s.toks) (o := .tup []) (fun b ob q => Heap.get?_push_of_some _ q) (Nat.le_refl _) ?_, rfl, q0 rfl _ (I.hok.fresh (Nat.le_refl _))⟩
    exact ⟨Nat.zero_le _, [], .nil, IsTup.new _ _⟩
  · have k1 : k = 1 := by omega
    subst k1
    exact wpAny_binaryOp_repeat_ref (T := "tuple") (U := "int") (by decide) ⟨_, ho, rfl⟩ (fun s' => typeIs_int s' 1 t) noFill_tuple_mul F.fills_int_mul F.slot_int_rmul repeat_tuple F.slot_int_index.lookup
      (call_meets F.slot_int_rmul (typeIs_int s 1 t) F.entry_int_rmul (F.args_int_rmul_2 _ _) (int_rmul_tuple 1 t l its.toArray n dd sl)
        ⟨ho, rfl, ⟨_, ho, rfl⟩, call_meets F.slot_tuple_mul ⟨_, ho, rfl⟩ F.entry_tuple_mul (F.args_tuple_mul_2 _ _) (tuple_mul1 l its.toArray n dd sl t) ⟨ho, ⟨.ref l, H, I, rfl, q1 rfl⟩⟩⟩)
end
end L2
namespace Law
open PySem L2
section
variable {P : Program} {w : World} {K : PySem.W.Frag} {mg : Str → Option Value} {base : Heap}
/-- a model with one row and one table, right -/
structure EvOk (n : Int) (row : List Int) (ps : List Pr) (tab : List (List Int)) : Prop where
  hn : 1 ≤ n ∧ n ≤ 12
  l0 : 1 ≤ row.length
  l4 : row.length ≤ 4
  hr : ∀ x ∈ row, 0 ≤ x ∧ x ≤ 1000
  ok : PsOk n ps
  lt : tab.length = row.length
  ht : ∀ l ∈ tab, l.length = row.length ∧ ∀ x ∈ l, 0 ≤ x ∧ x ≤ 1000
  hl : ps.length ≤ 144
theorem EvOk.mdl {n : Int} {row : List Int} {ps : List Pr} {tab : List (List Int)} (h : EvOk n row ps tab) : MdlSm (evenM n row ps tab) ∧ wrongM (evenM n row ps tab) = none := even_ok h.hn h.l0 h.l4 h.hr h.ok h.lt h.ht
/-- (x,) * n -/
theorem repAny {K : PySem.W.Frag} {H : Hp} {a w : Addr} {n : Int} {Q : VK} (ha : SqT K H a [.ref w]) (n1 : 1 ≤ n) (n2 : n ≤ 12) (k : ∀ p H', Same H H' → SqT K H' p (List.replicate n.toNat (.ref w)) → Q (.ref p) H') : rRepI K (.ref a) (.int n) H Q := by
  refine ⟨a, n, _, rfl, rfl, ha, (by simp), by omega, by omega, by show 1 ≤ 1000; decide, fun z => absurd z (by omega), fun z => ?_, fun _ p hp => ?_⟩
  · refine k a H (Same.refl H) ?_
    rw [z]
    exact ha
  · refine k p _ (Same.new hp) (SqT.of ?_)
    rw [upd_same]
    have e : ∀ m : Nat, (List.replicate m [V.ref w]).flatten = List.replicate m (.ref w) := fun m => by
      induction m with
      | zero => rfl
      | succ m ih => rw [List.replicate_succ, List.flatten_cons, ih] <;> rfl
    rw [e]
theorem repRow {K : PySem.W.Frag} {H : Hp} {a : Addr} {xs : List Int} {n : Int} {Q : VK} (ha : SqT K H a (xs.map V.int)) (ne : xs ≠ []) (hl : xs.length ≤ 4) (n1 : 1 ≤ n) (n2 : n ≤ 12) (k : ∀ p H', Same H H' → SqT K H' p ((List.replicate n.toNat xs).flatten.map V.int) → Q (.ref p) H') : rRepI K (.ref a) (.int n) H Q := by
  refine ⟨a, n, _, rfl, rfl, ha, (by simpa using ne), by omega, by omega, by rw [List.length_map]; omega, fun z => absurd z (by omega), fun z => ?_, fun _ p hp => ?_⟩
  · refine k a H (Same.refl H) ?_
    rw [z]
    show SqT K H a ((xs ++ []).map V.int)
    rw [List.append_nil]
    exact ha
  · refine k p _ (Same.new hp) (SqT.of ?_)
    rw [upd_same, List.map_flatten, List.map_replicate]
theorem allIn_rep {R : V → List Int → Prop} {v : V} {x : List Int} (hv : R v x) (n : Nat) : AllIn R (List.replicate n v) (List.replicate n x) := by
  refine ⟨by rw [List.length_replicate, List.length_replicate], fun i u hu => ?_⟩
  rw [List.getElem?_replicate] at hu
  by_cases c : i < n
  · rw [if_pos c] at hu
    cases hu
    exact ⟨x, by rw [List.getElem?_replicate, if_pos c], hv⟩
  · rw [if_neg c] at hu
    cases hu
def spTied (K : PySem.W.Frag) (C : Addr) : Sp := fun vs H Q _ => ∃ (n lv : Int) (w q t : Addr) (row : List Int) (ps : List Pr) (tab : List (List Int)), vs = [.int n, .int lv, .ref w, .ref q, .ref t] ∧ lv = (row.length : Nat) ∧ SqT K H w (row.map V.int) ∧ PrsT K H q ps ∧ RowsAt K H t tab ∧ EvOk n row ps tab ∧
  ∀ (y : Addr) (H' : Hp), H y = none → Same H H' → ModAt K C H' y (evenM n row ps tab) → Q (.ref y) H'
abbrev nTiedAlike : List Str := ["many", "levels", "weights", "pairs", "table", "one", "other"]
theorem scTiedAlike : FnScope nTiedAlike ["many", "levels", "weights", "pairs", "table"] (defScope s_tied_alike) := ⟨rfl, rfl, rfl, by decide +kernel, rfl, by decide +kernel, by decide +kernel⟩
theorem ok_tied_alike {f : Addr} {fd : FuncData} {fcCheck : Addr} {fdcCheck : FuncData} {fgMN : Addr} {fdgMN : FuncData} {C : Addr} (F : Fun K "tied_alike" "tied_alike" s_tied_alike f fd) (T : NmA mg) (cCheck : Cl P w K mg base CX0 7 "check_pairs" fcCheck fdcCheck ["many", "pairs"] (spCheck K)) (MgMN : Mk K C fgMN) (GgMN : FnOk P w K mg base CX0 6 fgMN fdgMN ["self", "many", "levels", "weights", "ties"] (spMInitN K C)) (BgMN : Binds K fdgMN ["self", "many", "levels", "weights", "ties"] []) (YgMN : ModT K mg C) : FnOk P w K mg base CX0 8 f fd ["many", "levels", "weights", "pairs", "table"] (spTied K C) := by
  refine F.ok scTiedAlike (fun vs H Q E h => ?_) (fun cdv A' outer s H vs Q E hr h => ?_)
  · obtain ⟨n, lv, w, q, t, row, ps, tab, rfl, _⟩ := h
    rfl
  · obtain ⟨n, lv, w, q, t, row, ps, tab, rfl, el, hw, hq, ht, ok, k⟩ := h
    have hu := hu_of hr
    refine ⟨_, pss_cons (ps_expr (cCheck.call (hr.mono (by decide)) (pa_cons (pv 0) (pa_cons (pv 3) pa_nil))))
      (pss_one (ps_ret (pe_make MgMN GgMN (hr.mono (by decide)) (by rfl) YgMN.mgC BgMN .nil pass0 (pa_cons (pv 0) (pa_cons (pv 1) (pa_cons (pe_op op_repI (pe_tup (pa_cons (pv 2) pa_nil)) (pv 0)) (pa_cons (pe_callTy call_tuple_of (by rfl) T.tuple (by decide +kernel) (pa_cons (pe_lc (own := [("one", 5), ("other", 6)]) (g := (gTup K 2 (gCons (gName 5) (gCons (gName 6) gNil)))) (tt := tYes) rfl scTiedAlike.nd  (pi_tup (pv 3)) (blkOk_by (own := [("one", 5), ("other", 6)]) (N := nTiedAlike) (sc := defScope s_tied_alike) (by decide +kernel)) (fun _ _ _ _ _ => (pg_tup (by rfl) (pgs_cons (pg_name (i := 5) scTiedAlike.nd rfl (Or.inl rfl)) (pgs_cons (pg_name (i := 6) scTiedAlike.nd rfl (Or.inl rfl)) pgs_nil)))) (fun _ _ _ _ _ => pts_nil) (fun _ _ _ _ _ => (pe_tup (pa_cons (pv 5) (pa_cons (pv 6) (pa_cons (pv 4) pa_nil)))))) pa_nil)) pa_nil))))))), ?_⟩
    obtain ⟨n1, n2⟩ := ok.hn
    refine ⟨_, rfl, _, rfl, n, q, ps, rfl, ⟨n1, n2⟩, hq, ok.ok, ok.hl, fun H1 s1 => ?_⟩
    refine ⟨_, rfl, _, rfl, _, rfl, by show 1 ≤ sizeLine; decide, fun W0 hW0 => ?_⟩
    refine new_step hW0 fun H2 s2 e2 => ?_
    refine ⟨_, rfl, ?_⟩
    refine repAny (SqT.of e2) n1 n2 fun W H3 s3 hW => ?_
    obtain ⟨ws, hT, aS⟩ := ((hq.same s1).same s2).same s3
    refine ⟨_, rfl, q, rfl, ⟨_, hT⟩, fun D hD => ?_⟩
    have s13 := (s1.trans s2).trans s3
    have ht3 := ht.same s13
    have hw3 := s13.sqT hw
    refine lc_tup (K := K) (a := q) (xs := ws) (fun i H' => Same H3 H' ∧ ∃ acc : List V, H' D = some (.lst acc) ∧ AllIn (TieAt K H') acc ((ps.take i).map fun t => (t, tab))) ⟨Same.new hD, [], upd_same, AllIn.nil⟩ (fun i H' _ h => h.1.sqT hT) (fun i x H4 hi g => ?_) fun H4 g => ?_
    · obtain ⟨s4, acc, d4, a4⟩ := g
      obtain ⟨u, hu, a, rfl, r⟩ := aS.2 i x hi
      refine ⟨a, _, rfl, s4.sqT r, rfl, _, _, rfl, _, _, rfl, rfl, ?_⟩
      refine ⟨rfl, _, rfl, _, rfl, _, rfl, by show 3 ≤ sizeLine; decide, fun o ho => ?_⟩
      refine new_step ho fun H5 s5 e5 => ?_
      have d5 := s5 _ _ d4
      have il := (List.getElem?_eq_some_iff.mp hu).1
      refine ⟨acc, d5, by rw [a4.1, List.length_map, List.length_take]; have := ok.hl; exact small1000 (by omega), (s4.trans s5).mut hD, acc ++ [.ref o], upd_same, ?_⟩
      rw [List.take_add_one, hu, List.map_append]
      exact AllIn.snoc (a4.mono fun _ _ h => (h.same s5).upd d5) (TieAt.upd d5 ⟨o, t, rfl, SqT.of e5, (ht3.same s4).same s5⟩)
    · obtain ⟨s4, acc, d4, a4⟩ := g
      rw [aS.1, List.take_length] at a4
      refine ⟨D, _, rfl, .inl ⟨SqL.of d4, fun T hT4 => ?_⟩⟩
      refine new_step hT4 fun H5 s5 e5 => ?_
      have s15 := (s13.trans s4).trans s5
      intro y dy hy hdy ney
      obtain ⟨sm, wr⟩ := ok.mdl
      obtain ⟨ok1, ok2⟩ := sm_ok sm
      have sx : Same H5 (upd (upd H5 dy (.own y)) y (.ins C dy [])) := mk_same0 hy hdy
      have rW : RowsAt K H5 W (evenM n row ps tab).ws := ⟨_, (s4.trans s5).sqT hW, allIn_rep ⟨w, rfl, (s4.trans s5).sqT hw3⟩ _⟩
      have rT : TiesAt K H5 T (evenM n row ps tab).ts := ⟨acc, SqT.of e5, a4.mono fun _ _ h => h.same s5⟩
      refine ⟨y, dy, W, T, evenM n row ps tab, by rw [el] <;> rfl, upd_same, rW.same sx, rT.same sx, ok1, ok2, wr, fun H6 k6 h6 => ⟨rfl, ?_⟩⟩
      have s6 : Same H5 H6 := mk_same hy hdy k6
      exact k y H6 (s15.free hy) (s15.trans s6) ⟨dy, W, T, h6, rW.same s6, rT.same s6⟩
end
end Law

namespace L2
open PySem PySem.Spec PyProof.Rows Law
/-! ### sorted pairs -/
def kOf (H : Hp) : V → Int × Int
  | .ref t => match H t with
    | some (.tup [.int i, .int j]) => (i, j)
    | _ => (0, 0)
  | _ => (0, 0)
def PrR (H : Hp) (v : V) (a : Pr) : Prop := ∃ s, v = .ref s ∧ H s = some (.tup [.int a.1, .int a.2])
theorem PrR.k {H : Hp} {v : V} {a : Pr} (h : PrR H v a) : kOf H v = a := by
  obtain ⟨s, rfl, h⟩ := h
  show (match H s with
    | some (.tup [.int i, .int j]) => (i, j)
    | _ => (0, 0)) = a
  rw [h]
theorem PrR.at {K : PySem.W.Frag} {H : Hp} {v : V} {a : Pr} (h : PrR H v a) : PrAt K H v a := by
  obtain ⟨s, e, h⟩ := h
  exact ⟨s, e, SqT.of h⟩
theorem PrR.same {H H' : Hp} {v : V} {a : Pr} (s : Same H H') (h : PrR H v a) : PrR H' v a := by
  obtain ⟨t, e, h⟩ := h
  exact ⟨t, e, s _ _ h⟩
theorem PrR.upd {H : Hp} {D : Addr} {acc : List V} {o : HO} {v : V} {a : Pr} (hD : H D = some (.lst acc)) (h : PrR H v a) : PrR (upd H D o) v a := by
  obtain ⟨t, e, h⟩ := h
  refine ⟨t, e, ?_⟩
  rw [upd_ne (fun z => by rw [z, hD] at h; cases h)]
  exact h
theorem allIn_k {H : Hp} {xs : List V} {ps : List Pr} (h : AllIn (PrR H) xs ps) : xs.map (kOf H) = ps := by
  refine List.ext_getElem? fun i => ?_
  rw [List.getElem?_map]
  cases e : xs[i]? with
  | none =>
    have := List.getElem?_eq_none_iff.mp e
    rw [List.getElem?_eq_none (by rw [← h.1]; exact this)] <;> rfl
  | some v =>
    obtain ⟨a, ha, hv⟩ := h.2 i v e
    rw [ha, ← hv.k] <;> rfl
theorem sortP {H : Hp} {xs ys : List V} {ps tgt : List Pr} (h : AllIn (PrR H) xs ps) (s : SrtO.Srtd (ltP (kOf H)) ys) (p : ys.Perm xs) (hp : ps.Perm tgt) (ht : SrtP tgt) : AllIn (PrR H) ys tgt := by
  have e : ys.map (kOf H) = tgt := by
    refine srt_one ?_ ht ?_
    · exact List.pairwise_map.mpr s
    · have q := p.map (kOf H)
      rw [allIn_k h] at q
      exact q.trans hp
  refine ⟨by rw [← e, List.length_map], fun i v hv => ?_⟩
  obtain ⟨j, hj, ej⟩ := List.mem_iff_getElem.mp (p.mem_iff.mp (List.mem_of_getElem? hv))
  obtain ⟨a, ha, ra⟩ := h.2 j v (by rw [List.getElem?_eq_getElem hj, ej])
  refine ⟨a, ?_, ra⟩
  rw [← e, List.getElem?_map, hv]
  exact congrArg some ra.k
theorem PrR.ex {H : Hp} {xs : List V} {ps : List Pr} (h : AllIn (PrR H) xs ps) : ∀ x ∈ xs, ∃ t, x = V.ref t ∧ H t = some (.tup [.int (kOf H x).1, .int (kOf H x).2]) := fun x hx => by
  obtain ⟨j, hj, rfl⟩ := List.mem_iff_getElem.mp hx
  obtain ⟨a, _, ra⟩ := h.2 j _ (List.getElem?_eq_getElem hj)
  rw [ra.k]
  exact ra
theorem AllIn.one {α : Type} {R : V → α → Prop} {v : V} {x : α} (h : R v x) : AllIn R [v] [x] := AllIn.snoc (vs := []) (l := []) AllIn.nil h
/-! ### what is made is right -/
theorem in1 {a b : Int} (h : 0 ≤ a ∧ a ≤ 1000) (g : 0 ≤ b ∧ b ≤ 1000) : ∀ x ∈ [a, b], 0 ≤ x ∧ x ≤ 1000 := fun x hx => by
  rcases List.mem_cons.mp hx with rfl | hx
  · exact h
  · rw [List.mem_singleton.mp hx]
    exact g
theorem tab2 {a b c d : Int} (ha : 0 ≤ a ∧ a ≤ 1000) (hb : 0 ≤ b ∧ b ≤ 1000) (hc : 0 ≤ c ∧ c ≤ 1000) (hd : 0 ≤ d ∧ d ≤ 1000) : ∀ l ∈ [[a, b], [c, d]], l.length = 2 ∧ ∀ x ∈ l, 0 ≤ x ∧ x ≤ 1000 := fun l hl => by
  rcases List.mem_cons.mp hl with rfl | hl
  · exact ⟨rfl, in1 ha hb⟩
  · rw [List.mem_singleton.mp hl]
    exact ⟨rfl, in1 hc hd⟩
theorem ones (n : Nat) : ∀ x ∈ List.replicate n (1 : Int), 0 ≤ x ∧ x ≤ 1000 := fun x hx => by
  rw [(List.mem_replicate.mp hx).2]
  exact ⟨by decide, by decide⟩
theorem tab_ok {n : Int} {f : Int → Int → Int} (h : ∀ a b, f a b = 0 ∨ f a b = 1) : ∀ l ∈ (upI n).map (fun x => (upI n).map fun y => f x y), l.length = n.toNat ∧ ∀ x ∈ l, 0 ≤ x ∧ x ≤ 1000 := fun l hl => by
  obtain ⟨a, _, rfl⟩ := List.mem_map.mp hl
  refine ⟨by rw [List.length_map, up_len], fun x hx => ?_⟩
  obtain ⟨b, _, rfl⟩ := List.mem_map.mp hx
  rcases h a b with z | z <;> rw [z] <;> exact ⟨by decide, by decide⟩
theorem b01 : (0 : Int) ≤ 1 ∧ (1 : Int) ≤ 1000 := ⟨by decide, by decide⟩
theorem b00 : (0 : Int) ≤ 0 ∧ (0 : Int) ≤ 1000 := ⟨by decide, by decide⟩
theorem if01 {c : Prop} [Decidable c] : (if c then (0 : Int) else 1) = 0 ∨ (if c then (0 : Int) else 1) = 1 := by
  split <;> simp
theorem if10 {c : Prop} [Decidable c] : (if c then (1 : Int) else 0) = 0 ∨ (if c then (1 : Int) else 0) = 1 := by
  split <;> simp
end L2
namespace Law
open PySem L2
def evG : Giv → Prop
  | .sp n ps a b => EvOk n [1, 1] ps [[a, b], [b, a]]
  | .ap n ps x => EvOk n [1, x] ps [[1, 1], [1, 0]]
  | .co n ps lv => EvOk n (List.replicate lv.toNat 1) ps (tabNe lv)
  | .st R C m => EvOk ((R * C : Nat) : Int) (List.replicate (m + 1) 1) (stp R C) (tabGe ((m + 1 : Nat) : Int))
theorem evG_ok {g : Giv} (h : GOk g) : evG g := by
  cases g with
  | sp n ps a b =>
    obtain ⟨h1, h2, h3, h4, h5⟩ := h
    exact ⟨h1, by show 1 ≤ 2; decide, by show 2 ≤ 4; decide, in1 b01 b01, h2, rfl, tab2 h4 h5 h5 h4, h3⟩
  | ap n ps x =>
    obtain ⟨h1, h2, h3, h4⟩ := h
    exact ⟨h1, by show 1 ≤ 2; decide, by show 2 ≤ 4; decide, in1 b01 h4, h2, rfl, tab2 b01 b01 b01 b00, h3⟩
  | co n ps lv =>
    obtain ⟨h1, h2, h3, h4, h5⟩ := h
    refine ⟨h1, by rw [List.length_replicate]; omega, by rw [List.length_replicate]; omega, ones _, h2, ?_, ?_, h3⟩
    · rw [List.length_replicate]
      unfold tabNe
      rw [List.length_map, up_len]
    · rw [List.length_replicate]
      exact tab_ok fun a b => if01
  | st R C m =>
    obtain ⟨h1, h2, h3, h4⟩ := h
    have G := grid_ok h1 h2 h3
    have p : 0 < R * C := Nat.mul_pos h1 h2
    refine ⟨⟨by omega, by omega⟩, by rw [List.length_replicate]; omega, by rw [List.length_replicate]; omega, ones _, G.ok, ?_, ?_, by have := G.len; omega⟩
    · rw [List.length_replicate]
      unfold tabGe
      rw [List.length_map, up_len] <;> rfl
    · rw [List.length_replicate]
      exact tab_ok (n := ((m + 1 : Nat) : Int)) fun a b => if10
theorem mdlG_ok {g : Giv} (h : GOk g) : MdlSm (mdlG g) ∧ wrongM (mdlG g) = none := by
  have e := evG_ok h
  cases g <;> exact EvOk.mdl e
end Law
namespace Law
open PySem L2
section
variable {P : Program} {w : World} {K : PySem.W.Frag} {mg : Str → Option Value} {base : Heap}
def spSpins (K : PySem.W.Frag) (C : Addr) : Sp := fun vs H Q _ => ∃ (n : Int) (q : Addr) (ps : List Pr) (a b : Int), vs = [.int n, .ref q, .int a, .int b] ∧ PrsT K H q ps ∧ GOk (.sp n ps a b) ∧
  ∀ (y : Addr) (H' : Hp), H y = none → Same H H' → ModAt K C H' y (mdlG (.sp n ps a b)) → Q (.ref y) H'
abbrev nSpins : List Str := ["many", "pairs", "same", "other"]
theorem scSpins : FnScope nSpins ["many", "pairs", "same", "other"] (defScope s_spins) := ⟨rfl, rfl, rfl, by decide +kernel, rfl, by decide +kernel, by decide +kernel⟩
theorem ok_spins {f : Addr} {fd : FuncData} {fcTied : Addr} {fdcTied : FuncData} {C : Addr} (F : Fun K "spins" "spins" s_spins f fd) (T : NmA mg) (cTied : Cl P w K mg base CX0 8 "tied_alike" fcTied fdcTied ["many", "levels", "weights", "pairs", "table"] (spTied K C)) : FnOk P w K mg base CX0 9 f fd ["many", "pairs", "same", "other"] (spSpins K C) := by
  refine F.ok scSpins (fun vs H Q E h => ?_) (fun cdv A' outer s H vs Q E hr h => ?_)
  · obtain ⟨n, q, ps, a, b, rfl, _⟩ := h
    rfl
  · obtain ⟨n, q, ps, a, b, rfl, hq, ok, k⟩ := h
    refine ⟨_, pss_one (ps_ret (cTied.call (hr.mono (by decide)) (pa_cons (pv 0) (pa_cons pe_int (pa_cons (pe_tup (pa_cons pe_int (pa_cons pe_int pa_nil))) (pa_cons (pv 1) (pa_cons (pe_tup (pa_cons (pe_tup (pa_cons (pv 2) (pa_cons (pv 3) pa_nil))) (pa_cons (pe_tup (pa_cons (pv 3) (pa_cons (pv 2) pa_nil))) pa_nil))) pa_nil))))))), ?_⟩
    refine ⟨_, rfl, by show 2 ≤ sizeLine; decide, fun W hW => ?_⟩
    refine new_step hW fun H1 s1 e1 => ?_
    refine ⟨_, rfl, _, rfl, _, rfl, by show 2 ≤ sizeLine; decide, fun r1 h1 => ?_⟩
    refine new_step h1 fun H2 s2 e2 => ?_
    refine ⟨_, rfl, _, rfl, by show 2 ≤ sizeLine; decide, fun r2 h2 => ?_⟩
    refine new_step h2 fun H3 s3 e3 => ?_
    refine ⟨by show 2 ≤ sizeLine; decide, fun T hT => ?_⟩
    refine new_step hT fun H4 s4 e4 => ?_
    have s24 := s3.trans s4
    have s14 := s2.trans s24
    have s04 := s1.trans s14
    refine ⟨n, 2, W, q, T, [1, 1], ps, [[a, b], [b, a]], rfl, rfl, SqT.of (s14 _ _ e1), hq.same s04, ⟨_, SqT.of e4, AllIn.snoc (AllIn.one ⟨r1, rfl, SqT.of (s24 _ _ e2)⟩) ⟨r2, rfl, SqT.of (s4 _ _ e3)⟩⟩, evG_ok ok, fun y H5 hy s5 hM => k y H5 (s04.free hy) (s04.trans s5) hM⟩
def spApart (K : PySem.W.Frag) (C : Addr) : Sp := fun vs H Q _ => ∃ (n : Int) (q : Addr) (ps : List Pr) (x : Int), vs = [.int n, .ref q, .int x] ∧ PrsT K H q ps ∧ GOk (.ap n ps x) ∧
  ∀ (y : Addr) (H' : Hp), H y = none → Same H H' → ModAt K C H' y (mdlG (.ap n ps x)) → Q (.ref y) H'
abbrev nSetsApart : List Str := ["many", "pairs", "number"]
theorem scSetsApart : FnScope nSetsApart ["many", "pairs", "number"] (defScope s_sets_apart) := ⟨rfl, rfl, rfl, by decide +kernel, rfl, by decide +kernel, by decide +kernel⟩
theorem ok_sets_apart {f : Addr} {fd : FuncData} {fcTied : Addr} {fdcTied : FuncData} {C : Addr} (F : Fun K "sets_apart" "sets_apart" s_sets_apart f fd) (T : NmA mg) (cTied : Cl P w K mg base CX0 8 "tied_alike" fcTied fdcTied ["many", "levels", "weights", "pairs", "table"] (spTied K C)) : FnOk P w K mg base CX0 9 f fd ["many", "pairs", "number"] (spApart K C) := by
  refine F.ok scSetsApart (fun vs H Q E h => ?_) (fun cdv A' outer s H vs Q E hr h => ?_)
  · obtain ⟨n, q, ps, x, rfl, _⟩ := h
    rfl
  · obtain ⟨n, q, ps, x, rfl, hq, ok, k⟩ := h
    refine ⟨_, pss_one (ps_ret (cTied.call (hr.mono (by decide)) (pa_cons (pv 0) (pa_cons pe_int (pa_cons (pe_tup (pa_cons pe_int (pa_cons (pv 2) pa_nil))) (pa_cons (pv 1) (pa_cons (pe_tup (pa_cons (pe_tup (pa_cons pe_int (pa_cons pe_int pa_nil))) (pa_cons (pe_tup (pa_cons pe_int (pa_cons pe_int pa_nil))) pa_nil))) pa_nil))))))), ?_⟩
    refine ⟨_, rfl, _, rfl, by show 2 ≤ sizeLine; decide, fun W hW => ?_⟩
    refine new_step hW fun H1 s1 e1 => ?_
    refine ⟨_, rfl, by show 2 ≤ sizeLine; decide, fun r1 h1 => ?_⟩
    refine new_step h1 fun H2 s2 e2 => ?_
    refine ⟨by show 2 ≤ sizeLine; decide, fun r2 h2 => ?_⟩
    refine new_step h2 fun H3 s3 e3 => ?_
    refine ⟨by show 2 ≤ sizeLine; decide, fun T hT => ?_⟩
    refine new_step hT fun H4 s4 e4 => ?_
    have s24 := s3.trans s4
    have s14 := s2.trans s24
    have s04 := s1.trans s14
    refine ⟨n, 2, W, q, T, [1, x], ps, [[1, 1], [1, 0]], rfl, rfl, SqT.of (s14 _ _ e1), hq.same s04, ⟨_, SqT.of e4, AllIn.snoc (AllIn.one ⟨r1, rfl, SqT.of (s24 _ _ e2)⟩) ⟨r2, rfl, SqT.of (s4 _ _ e3)⟩⟩, evG_ok ok, fun y H5 hy s5 hM => k y H5 (s04.free hy) (s04.trans s5) hM⟩
theorem rep1 (n : Nat) : (List.replicate n [(1 : Int)]).flatten = List.replicate n 1 := by
  induction n with
  | zero => rfl
  | succ n ih => rw [List.replicate_succ, List.flatten_cons, ih] <;> rfl
def spCol (K : PySem.W.Frag) (C : Addr) : Sp := fun vs H Q _ => ∃ (n : Int) (q : Addr) (ps : List Pr) (lv : Int), vs = [.int n, .ref q, .int lv] ∧ PrsT K H q ps ∧ GOk (.co n ps lv) ∧
  ∀ (y : Addr) (H' : Hp), H y = none → Same H H' → ModAt K C H' y (mdlG (.co n ps lv)) → Q (.ref y) H'
abbrev nColourings : List Str := ["many", "pairs", "values", "table", "one", "other"]
theorem scColourings : FnScope nColourings ["many", "pairs", "values"] (defScope s_colourings) := ⟨rfl, rfl, rfl, by decide +kernel, rfl, by decide +kernel, by decide +kernel⟩
theorem ok_colourings {f : Addr} {fd : FuncData} {fcCheck : Addr} {fdcCheck : FuncData} {fcWithin : Addr} {fdcWithin : FuncData} {fcTied : Addr} {fdcTied : FuncData} {C : Addr} (F : Fun K "colourings" "colourings" s_colourings f fd) (T : NmA mg) (cCheck : Cl P w K mg base CX0 7 "check_pairs" fcCheck fdcCheck ["many", "pairs"] (spCheck K)) (cWithin : Cl P w K mg base CX0 2 "is_within" fcWithin fdcWithin ["low", "high", "thing"] (spWithin K)) (cTied : Cl P w K mg base CX0 8 "tied_alike" fcTied fdcTied ["many", "levels", "weights", "pairs", "table"] (spTied K C)) : FnOk P w K mg base CX0 9 f fd ["many", "pairs", "values"] (spCol K C) := by
  refine F.ok scColourings (fun vs H Q E h => ?_) (fun cdv A' outer s H vs Q E hr h => ?_)
  · obtain ⟨n, q, ps, lv, rfl, _⟩ := h
    rfl
  · obtain ⟨n, q, ps, lv, rfl, hq, ok, k⟩ := h
    have hu := hu_of hr
    refine ⟨_, pss_cons (ps_expr (cCheck.call (hr.mono (by decide)) (pa_cons (pv 0) (pa_cons (pv 1) pa_nil))))
      (pss_cons (ps_if (pt_not (pt_val (cWithin.call (hr.mono (by decide)) (pa_cons pe_int (pa_cons pe_int (pa_cons (pv 2) pa_nil))))))
        pss_never pss_nil)
      (pss_cons (ps_set (i := 3) scColourings.nd rfl (Or.inl rfl) (pe_callTy call_tuple_of (by rfl) T.tuple (by decide +kernel) (pa_cons (pe_lc (own := [("one", 4)]) (g := (gName 4)) (tt := tYes) rfl scColourings.nd  (pi_range1 (by rfl) T.range (pa_cons (pv 2) pa_nil)) (blkOk_by (own := [("one", 4)]) (N := nColourings) (sc := defScope s_colourings) (by decide +kernel)) (fun _ _ _ _ _ => (pg_name (i := 4) scColourings.nd rfl (Or.inr rfl))) (fun _ _ _ _ _ => pts_nil) (fun _ _ _ _ _ => (pe_callTy (r := rTupOf K) (show CallR _ (.type "tuple") (rTupOf K) from call_tuple_of) (by rfl) T.tuple (by decide +kernel) (pa_cons (pe_lc (own := [("other", 5)]) (g := (gName 5)) (tt := tYes) rfl scColourings.nd  (pi_range1 (by rfl) T.range (pa_cons (pv 2) pa_nil)) (blkOk_by (own := [("other", 5)]) (N := nColourings) (sc := ({ kind := .function, names := [(".0", .local), ("one", .cell), ("tuple", .globalImplicit), ("range", .globalImplicit), ("values", .cell)], isGenerator := false, isCoroutine := false } : Scope)) (by decide +kernel)) (fun _ _ _ _ _ => (pg_name (i := 5) scColourings.nd rfl (Or.inl rfl))) (fun _ _ _ _ _ => pts_nil) (fun _ _ _ _ _ => (pe_ifExp (pt_cmpR op_eq (pv 4) (pv 5) (nomark _)) pe_int pe_int))) pa_nil)))) pa_nil)))
      (pss_one (ps_ret (cTied.call (hr.mono (by decide)) (pa_cons (pv 0) (pa_cons (pv 2) (pa_cons (pe_op op_repI (pe_tup (pa_cons pe_int pa_nil)) (pv 2)) (pa_cons (pv 1) (pa_cons (pv 3) pa_nil)))))))))), ?_⟩
    obtain ⟨hn, hp, hl, l1, l4⟩ := id ok
    refine ⟨_, rfl, _, rfl, n, q, ps, rfl, hn, hq, hp, hl, fun H1 s1 => ?_⟩
    refine ⟨_, rfl, 1, 4, _, rfl, .inl ⟨lv, rfl, _, rfl, ?_⟩⟩
    rw [decide_eq_true l1, decide_eq_true l4]
    refine iteF ⟨_, rfl, _, rfl, by omega, by omega, fun D hD => ?_⟩
    have small : ∀ i : Nat, i < lv.toNat → i < 1000 := fun i hi => by omega
    refine lc_range (lo := 0) (n := lv.toNat) (fun i H' => Same H1 H' ∧ ∃ acc : List V, H' D = some (.lst acc) ∧ AllIn (RowAt K H') acc (((upI lv).take i).map fun a => (upI lv).map fun b => if a = b then (0 : Int) else 1)) ⟨Same.new hD, [], upd_same, AllIn.nil⟩ (fun i H2 hi g => ?_) fun H2 g => ?_
    · obtain ⟨s2, acc, d2, a2⟩ := g
      refine ⟨rfl, _, rfl, _, rfl, by omega, by omega, fun D2 hD2 => ?_⟩
      refine lc_range (lo := 0) (n := lv.toNat) (fun j H' => Same H2 H' ∧ H' D2 = some (.lst ((((upI lv).take j).map fun b => if (i : Int) = b then (0 : Int) else 1).map V.int))) ⟨Same.new hD2, upd_same⟩ (fun j H3 hj g => ?_) fun H3 g => ?_
      · obtain ⟨s3, d3⟩ := g
        have put : ∀ x : Int, x = (if (i : Int) = (j : Int) then (0 : Int) else 1) → ∃ ac, H3 D2 = some (.lst ac) ∧ ac.length < sizeLine ∧ Same H2 (upd H3 D2 (.lst (ac ++ [.int x]))) ∧ upd H3 D2 (.lst (ac ++ [.int x])) D2 = some (.lst ((((upI lv).take (j + 1)).map fun b => if (i : Int) = b then (0 : Int) else 1).map V.int)) := fun x hx => by
          refine ⟨_, d3, by rw [List.length_map, List.length_map, List.length_take]; exact small1000 (by omega), s3.mut hD2, ?_⟩
          rw [upd_same, List.take_add_one, upI_get hj, List.map_append, List.map_append, hx] <;> rfl
        refine ⟨rfl, _, rfl, _, rfl, rfl, _, rfl, ?_⟩
        rw [ei, Int.zero_add, Int.zero_add]
        exact ite2 (fun c => put 0 (by rw [if_pos (of_decide_eq_true c)])) (fun c => put 1 (by rw [if_neg (fun z => c (decide_eq_true z))]))
      · obtain ⟨s3, d3⟩ := g
        rw [List.take_of_length_le (by rw [up_len]; exact Nat.le_refl _)] at d3
        refine ⟨D2, _, rfl, .inl ⟨SqL.of d3, fun B hB => ?_⟩⟩
        refine new_step hB fun H4 s4 e4 => ?_
        have d4 := (s3.trans s4) _ _ d2
        refine ⟨acc, d4, by rw [a2.1, List.length_map, List.length_take]; exact small1000 (by omega), (s2.trans (s3.trans s4)).mut hD, acc ++ [.ref B], upd_same, ?_⟩
        rw [List.take_add_one, upI_get hi, List.map_append]
        exact AllIn.snoc (a2.mono fun _ _ h => (h.same (s3.trans s4)).upd d4) (RowAt.upd d4 ⟨B, rfl, SqT.of e4⟩)
    · obtain ⟨s2, acc, d2, a2⟩ := g
      rw [List.take_of_length_le (by rw [up_len]; exact Nat.le_refl _)] at a2
      refine ⟨D, _, rfl, .inl ⟨SqL.of d2, fun T hT => ?_⟩⟩
      refine new_step hT fun H3 s3 e3 => ?_
      have s13 := (s1.trans s2).trans s3
      refine ⟨_, rfl, _, rfl, by show 1 ≤ sizeLine; decide, fun O hO => ?_⟩
      refine new_step hO fun H4 s4 e4 => ?_
      refine ⟨_, rfl, ?_⟩
      refine repRow (xs := [1]) (SqT.of e4) (by simp) (by show 1 ≤ 4; decide) l1 (by omega) fun W H5 s5 hW => ?_
      rw [rep1] at hW
      have s05 := (s13.trans s4).trans s5
      refine ⟨_, rfl, _, rfl, n, lv, W, q, T, _, ps, tabNe lv, rfl, by rw [List.length_replicate]; omega, hW, hq.same s05, ⟨acc, SqT.of ((s4.trans s5) _ _ e3), a2.mono fun _ _ h => h.same ((s3.trans s4).trans s5)⟩, evG_ok ok, fun y H6 hy s6 hM => k y H6 (s05.free hy) (s05.trans s6) hM⟩
def spSta (K : PySem.W.Frag) (C : Addr) : Sp := fun vs H Q _ => ∃ R C' m : Nat, vs = [.int (R : Nat), .int (C' : Nat), .int (m : Nat)] ∧ GOk (.st R C' m) ∧
  ∀ (y : Addr) (H' : Hp), H y = none → Same H H' → ModAt K C H' y (mdlG (.st R C' m)) → Q (.ref y) H'
abbrev nStacks : List Str := ["rows", "columns", "most", "many", "across", "down", "table", "place", "one", "other"]
theorem scStacks : FnScope nStacks ["rows", "columns", "most"] (defScope s_stacks) := ⟨rfl, rfl, rfl, by decide +kernel, rfl, by decide +kernel, by decide +kernel⟩
theorem ok_stacks {f : Addr} {fd : FuncData} {fcWithin : Addr} {fdcWithin : FuncData} {fcTied : Addr} {fdcTied : FuncData} {C : Addr} (F : Fun K "stacks" "stacks" s_stacks f fd) (T : NmA mg) (cWithin : Cl P w K mg base CX0 2 "is_within" fcWithin fdcWithin ["low", "high", "thing"] (spWithin K)) (cTied : Cl P w K mg base CX0 8 "tied_alike" fcTied fdcTied ["many", "levels", "weights", "pairs", "table"] (spTied K C)) : FnOk P w K mg base CX0 9 f fd ["rows", "columns", "most"] (spSta K C) := by
  refine F.ok scStacks (fun vs H Q E h => ?_) (fun cdv A' outer s H vs Q E hr h => ?_)
  · obtain ⟨R, C', m, rfl, _⟩ := h
    rfl
  · obtain ⟨R, C', m, rfl, ok, k⟩ := h
    have hu := hu_of hr
    refine ⟨_, pss_cons (ps_if (PW.pt (pw_or (pt_not (pt_val (cWithin.call (hr.mono (by decide)) (pa_cons pe_int (pa_cons pe_int (pa_cons (pv 0) pa_nil)))))) (pw_or (pt_not (pt_val (cWithin.call (hr.mono (by decide)) (pa_cons pe_int (pa_cons pe_int (pa_cons (pv 1) pa_nil)))))) (pw_or (pt_cmpR op_gt (pe_op op_mul (pv 0) (pv 1)) pe_int (nomark _)) (pw_or1 (pt_not (pt_val (cWithin.call (hr.mono (by decide)) (pa_cons pe_int (pa_cons pe_int (pa_cons (pv 2) pa_nil)))))))))))
        pss_never pss_nil)
      (pss_cons (ps_set (i := 3) scStacks.nd rfl (Or.inl rfl) (pe_op op_mul (pv 0) (pv 1)))
      (pss_cons (ps_setLc (i := 4) (own := [("place", 7)]) (g := (gName 7)) (tt := _) (by rfl) scStacks.nd rfl rfl (sw_true rfl rfl rfl (by decide +kernel)) (pi_range1 (by rfl) T.range (pa_cons (pv 3) pa_nil)) (blkOk_by (own := [("place", 7)]) (N := nStacks) (sc := defScope s_stacks) (by decide +kernel)) (fun _ _ _ _ _ => (pg_name (i := 7) scStacks.nd rfl (Or.inl rfl))) (fun _ _ _ _ _ => (pts_one (pt_cmpR op_gt (pe_op op_mod (pe_op op_add (pv 7) pe_int) (pv 1)) pe_int (nomark _)))) (fun _ _ _ _ _ => (pe_tup (pa_cons (pv 7) (pa_cons (pe_op op_add (pv 7) pe_int) pa_nil)))))
      (pss_cons (ps_setLc (i := 5) (own := [("place", 7)]) (g := (gName 7)) (tt := tYes) (by rfl) scStacks.nd rfl rfl (sw_true rfl rfl rfl (by decide +kernel)) (pi_range1 (by rfl) T.range (pa_cons (pe_op op_sub (pv 3) (pv 1)) pa_nil)) (blkOk_by (own := [("place", 7)]) (N := nStacks) (sc := defScope s_stacks) (by decide +kernel)) (fun _ _ _ _ _ => (pg_name (i := 7) scStacks.nd rfl (Or.inl rfl))) (fun _ _ _ _ _ => pts_nil) (fun _ _ _ _ _ => (pe_tup (pa_cons (pv 7) (pa_cons (pe_op op_add (pv 7) (pv 1)) pa_nil)))))
      (pss_cons (ps_set (i := 6) scStacks.nd rfl (Or.inl rfl) (pe_callTy call_tuple_of (by rfl) T.tuple (by decide +kernel) (pa_cons (pe_lc (own := [("one", 8)]) (g := (gName 8)) (tt := tYes) rfl scStacks.nd  (pi_range1 (by rfl) T.range (pa_cons (pe_op op_add (pv 2) pe_int) pa_nil)) (blkOk_by (own := [("one", 8)]) (N := nStacks) (sc := defScope s_stacks) (by decide +kernel)) (fun _ _ _ _ _ => (pg_name (i := 8) scStacks.nd rfl (Or.inr rfl))) (fun _ _ _ _ _ => pts_nil) (fun _ _ _ _ _ => (pe_callTy (r := rTupOf K) (show CallR _ (.type "tuple") (rTupOf K) from call_tuple_of) (by rfl) T.tuple (by decide +kernel) (pa_cons (pe_lc (own := [("other", 9)]) (g := (gName 9)) (tt := tYes) rfl scStacks.nd  (pi_range1 (by rfl) T.range (pa_cons (pe_op op_add (pv 2) pe_int) pa_nil)) (blkOk_by (own := [("other", 9)]) (N := nStacks) (sc := ({ kind := .function, names := [(".0", .local), ("one", .cell), ("tuple", .globalImplicit), ("range", .globalImplicit), ("most", .cell)], isGenerator := false, isCoroutine := false } : Scope)) (by decide +kernel)) (fun _ _ _ _ _ => (pg_name (i := 9) scStacks.nd rfl (Or.inl rfl))) (fun _ _ _ _ _ => pts_nil) (fun _ _ _ _ _ => (pe_ifExp (pt_cmpR op_le (pv 9) (pv 8) (nomark _)) pe_int pe_int))) pa_nil)))) pa_nil)))
      (pss_one (ps_ret (cTied.call (hr.mono (by decide)) (pa_cons (pv 3) (pa_cons (pe_op op_add (pv 2) pe_int) (pa_cons (pe_op op_repI (pe_tup (pa_cons pe_int pa_nil)) (pe_op op_add (pv 2) pe_int)) (pa_cons (pe_callTy call_tuple_of (by rfl) T.tuple (by decide +kernel) (pa_cons (pe_callB cr_sortedPO (by rfl) T.sorted (by decide +kernel) (pa_cons (pe_op op_cat (pv 4) (pv 5)) pa_nil)) pa_nil)) (pa_cons (pv 6) pa_nil)))))))))))), ?_⟩
    obtain ⟨hR, hC, h12, m3⟩ := id ok
    have G := grid_ok hR hC h12
    have r1 : R ≤ R * C' := Nat.le_mul_of_pos_right R hC
    have c1 : C' ≤ R * C' := Nat.le_mul_of_pos_left C' hR
    have rc : (R : Int) * (C' : Int) = ((R * C' : Nat) : Int) := (Int.natCast_mul R C').symm
    generalize hN : R * C' = N at *
    refine ⟨_, rfl, 1, 12, _, rfl, .inl ⟨(R : Int), rfl, _, rfl, ?_⟩⟩
    rw [decide_eq_true (show (1 : Int) ≤ (R : Int) by omega), decide_eq_true (show (R : Int) ≤ 12 by omega)]
    refine iteF ⟨_, rfl, 1, 12, _, rfl, .inl ⟨(C' : Int), rfl, _, rfl, ?_⟩⟩
    rw [decide_eq_true (show (1 : Int) ≤ (C' : Int) by omega), decide_eq_true (show (C' : Int) ≤ 12 by omega)]
    refine iteF ⟨_, rfl, _, rfl, _, _, rfl, rfl, .inr ⟨by omega, by omega⟩, _, _, rfl, rfl, _, rfl, ?_⟩
    rw [rc, decide_eq_false (by omega)]
    refine iteF ⟨_, rfl, 0, 3, _, rfl, .inl ⟨(m : Int), rfl, _, rfl, ?_⟩⟩
    rw [decide_eq_true (show (0 : Int) ≤ (m : Int) by omega), decide_eq_true (show (m : Int) ≤ 3 by omega)]
    refine iteF ⟨_, rfl, _, rfl, _, _, rfl, rfl, .inr ⟨by omega, by omega⟩, ?_⟩
    show gName 3 (.int ((R : Int) * (C' : Int))) _ _ _
    rw [rc]
    refine ⟨_, rfl, _, rfl, by omega, by omega, fun A hA => ?_⟩
    rw [Int.toNat_natCast]
    refine lc_range (lo := 0) (n := N) (fun i H' => Same H H' ∧ ∃ acc : List V, H' A = some (.lst acc) ∧ AllIn (PrR H') acc (((List.range i).filter fun p => decide (0 < (p + 1) % C')).map fun p : Nat => ((p : Int), (p : Int) + 1))) ⟨Same.new hA, [], upd_same, AllIn.nil⟩ (fun i H2 hi g => ?_) fun H2 g => ?_
    · obtain ⟨s2, acc, d2, a2⟩ := g
      rw [Int.zero_add]
      refine ⟨rfl, _, rfl, _, _, rfl, rfl, _, rfl, _, _, rfl, rfl, by omega, _, _, rfl, rfl, _, rfl, ?_⟩
      have em : decide ((0 : Int) < ((i : Int) + 1) % (C' : Int)) = decide (0 < (i + 1) % C') := by
        rw [show ((i : Int) + 1) % (C' : Int) = (((i + 1) % C' : Nat) : Int) by rw [Int.natCast_emod] <;> rfl]
        exact decide_eq_decide.mpr ⟨fun z => by omega, fun z => by omega⟩
      rw [em, List.range_succ, List.filter_append, List.map_append]
      refine ite2 (fun c => ?_) (fun c => ?_)
      · rw [show [i].filter (fun p => decide (0 < (p + 1) % C')) = [i] from List.filter_cons_of_pos c]
        refine ⟨_, rfl, _, rfl, _, _, rfl, rfl, by show 2 ≤ sizeLine; decide, fun o ho => ?_⟩
        refine new_step ho fun H3 s3 e3 => ?_
        have d3 := s3 _ _ d2
        refine ⟨acc, d3, ?_, (s2.trans s3).mut hA, acc ++ [.ref o], upd_same, AllIn.snoc (a2.mono fun _ _ h => (h.same s3).upd d3) (PrR.upd d3 ⟨o, rfl, e3⟩)⟩
        have z := List.length_filter_le (fun p => decide (0 < (p + 1) % C')) (List.range i)
        rw [List.length_range] at z
        rw [a2.1, List.length_map]
        exact small1000 (by omega)
      · rw [show [i].filter (fun p => decide (0 < (p + 1) % C')) = [] from List.filter_cons_of_neg c, List.map_nil, List.append_nil]
        exact ⟨s2, acc, d2, a2⟩
    obtain ⟨s2, acc, d2, a2⟩ := g
    have eA : ((List.range N).filter fun p => decide (0 < (p + 1) % C')).map (fun p : Nat => ((p : Int), (p : Int) + 1)) = acrossP R C' := by
      unfold acrossP
      rw [hN]
    rw [eA] at a2
    refine ⟨_, rfl, _, rfl, _, _, rfl, rfl, _, rfl, by omega, by omega, fun B hB => ?_⟩
    rw [show ((N : Int) - (C' : Int)).toNat = N - C' by omega]
    refine lc_range (lo := 0) (n := N - C') (fun i H' => Same H2 H' ∧ ∃ acc : List V, H' B = some (.lst acc) ∧ AllIn (PrR H') acc ((List.range i).map fun p : Nat => ((p : Int), (p : Int) + C'))) ⟨Same.new hB, [], upd_same, AllIn.nil⟩ (fun i H3 hi g => ?_) fun H3 g => ?_
    · obtain ⟨s3, ac, d3, a3⟩ := g
      rw [Int.zero_add, List.range_succ, List.map_append]
      refine ⟨rfl, _, rfl, _, rfl, _, rfl, _, _, rfl, rfl, by show 2 ≤ sizeLine; decide, fun o ho => ?_⟩
      refine new_step ho fun H4 s4 e4 => ?_
      have d4 := s4 _ _ d3
      refine ⟨ac, d4, by rw [a3.1, List.length_map, List.length_range]; exact small1000 (by omega), (s3.trans s4).mut hB, ac ++ [.ref o], upd_same, AllIn.snoc (a3.mono fun _ _ h => (h.same s4).upd d4) (PrR.upd d4 ⟨o, rfl, e4⟩)⟩
    obtain ⟨s3, ac, d3, a3⟩ := g
    have eB : (List.range (N - C')).map (fun p : Nat => ((p : Int), (p : Int) + C')) = downP R C' := by
      unfold downP
      rw [hN]
    rw [eB] at a3
    have la := a2.1
    have lb := a3.1
    have lA : (acrossP R C').length ≤ 12 := by
      unfold acrossP
      rw [List.length_map, hN]
      have z := List.length_filter_le (fun p => decide (0 < (p + 1) % C')) (List.range N)
      rw [List.length_range] at z
      omega
    have lB : (downP R C').length ≤ 12 := by
      unfold downP
      rw [List.length_map, List.length_range, hN]
      omega
    refine ⟨_, rfl, _, _, rfl, rfl, _, rfl, by omega, by omega, fun D hD => ?_⟩
    have em1 : ((m : Int) + 1).toNat = m + 1 := by omega
    have em2 : (m : Int) + 1 = ((m + 1 : Nat) : Int) := by omega
    rw [em1]
    refine lc_range (lo := 0) (n := m + 1) (fun i H' => Same H3 H' ∧ ∃ acc : List V, H' D = some (.lst acc) ∧ AllIn (RowAt K H') acc (((upI ((m + 1 : Nat) : Int)).take i).map fun a => (upI ((m + 1 : Nat) : Int)).map fun b => if b ≤ a then (1 : Int) else 0)) ⟨Same.new hD, [], upd_same, AllIn.nil⟩ (fun i H4 hi g => ?_) fun H4 g => ?_
    · obtain ⟨s4, tc, d4, a4⟩ := g
      refine ⟨rfl, _, rfl, _, _, rfl, rfl, _, rfl, by omega, by omega, fun D2 hD2 => ?_⟩
      rw [em1]
      refine lc_range (lo := 0) (n := m + 1) (fun j H' => Same H4 H' ∧ H' D2 = some (.lst ((((upI ((m + 1 : Nat) : Int)).take j).map fun b => if b ≤ (i : Int) then (1 : Int) else 0).map V.int))) ⟨Same.new hD2, upd_same⟩ (fun j H5 hj g => ?_) fun H5 g => ?_
      · obtain ⟨s5, d5⟩ := g
        have put : ∀ x : Int, x = (if (j : Int) ≤ (i : Int) then (1 : Int) else 0) → ∃ ac, H5 D2 = some (.lst ac) ∧ ac.length < sizeLine ∧ Same H4 (upd H5 D2 (.lst (ac ++ [.int x]))) ∧ upd H5 D2 (.lst (ac ++ [.int x])) D2 = some (.lst ((((upI ((m + 1 : Nat) : Int)).take (j + 1)).map fun b => if b ≤ (i : Int) then (1 : Int) else 0).map V.int)) := fun x hx => by
          refine ⟨_, d5, by rw [List.length_map, List.length_map, List.length_take]; exact small1000 (by omega), s5.mut hD2, ?_⟩
          rw [upd_same, List.take_add_one, upI_get (by omega), List.map_append, List.map_append, hx] <;> rfl
        rw [Int.zero_add, Int.zero_add]
        refine ⟨rfl, _, rfl, _, rfl, _, _, rfl, rfl, _, rfl, ?_⟩
        exact ite2 (fun c => put 1 (by rw [if_pos (of_decide_eq_true c)])) (fun c => put 0 (by rw [if_neg (fun z => c (decide_eq_true z))]))
      · obtain ⟨s5, d5⟩ := g
        rw [List.take_of_length_le (by rw [up_len]; omega)] at d5
        refine ⟨D2, _, rfl, .inl ⟨SqL.of d5, fun B2 hB2 => ?_⟩⟩
        refine new_step hB2 fun H6 s6 e6 => ?_
        have d6 := (s5.trans s6) _ _ d4
        refine ⟨tc, d6, by rw [a4.1, List.length_map, List.length_take]; exact small1000 (by omega), (s4.trans (s5.trans s6)).mut hD, tc ++ [.ref B2], upd_same, ?_⟩
        rw [List.take_add_one, upI_get (by omega), List.map_append]
        exact AllIn.snoc (a4.mono fun _ _ h => (h.same (s5.trans s6)).upd d6) (RowAt.upd d6 ⟨B2, rfl, SqT.of e6⟩)
    obtain ⟨s4, tc, d4, a4⟩ := g
    rw [List.take_of_length_le (by rw [up_len]; omega)] at a4
    refine ⟨D, _, rfl, .inl ⟨SqL.of d4, fun T hT => ?_⟩⟩
    refine new_step hT fun H5 s5 e5 => ?_
    refine ⟨_, rfl, _, rfl, _, _, rfl, rfl, ?_⟩
    refine ⟨by show 1 ≤ sizeLine; decide, fun O hO => ?_⟩
    refine new_step hO fun H6 s6 e6 => ?_
    refine ⟨_, rfl, _, _, rfl, rfl, ?_⟩
    refine repRow (xs := [1]) (SqT.of e6) (by simp) (by show 1 ≤ 4; decide) (by omega) (by omega) fun W H7 s7 hW => ?_
    rw [rep1, em1] at hW
    have s37 := ((s4.trans s5).trans s6).trans s7
    refine ⟨_, rfl, _, rfl, A, B, _, _, rfl, rfl, (s3.trans s37) _ _ d2, s37 _ _ d3, by rw [la, lb]; exact Nat.le_of_lt (small1000 (by omega)), fun L hL => ?_⟩
    refine new_step hL fun H8 s8 e8 => ?_
    have s38 := s37.trans s8
    have aAB : AllIn (PrR H8) (acc ++ ac) (acrossP R C' ++ downP R C') := AllIn.app (a2.mono fun _ _ h => h.same (s3.trans s38)) (a3.mono fun _ _ h => h.same s38)
    refine ⟨L, acc ++ ac, kOf H8, rfl, SqL.of e8, PrR.ex aAB, fun ys p hs hb hp => ?_⟩
    have aY := sortP aAB hs hb.perm G.ad G.srt
    refine new_step hp fun H9 s9 e9 => ?_
    refine ⟨p, _, rfl, .inl ⟨SqL.of e9, fun Q hQ => ?_⟩⟩
    refine new_step hQ fun H10 s10 e10 => ?_
    have s810 := s9.trans s10
    have s010 := ((s2.trans s3).trans s38).trans s810
    refine ⟨_, rfl, ((N : Nat) : Int), ((m + 1 : Nat) : Int), W, Q, T, List.replicate (m + 1) 1, stp R C', tabGe ((m + 1 : Nat) : Int), by rw [← em2] <;> rfl, by rw [List.length_replicate], (s8.trans s810).sqT hW, ⟨ys, SqT.of e10, aY.mono fun _ _ h => (h.same s810).at⟩, ⟨tc, SqT.of (((s6.trans s7).trans (s8.trans s810)) _ _ e5), a4.mono fun _ _ h => h.same (s5.trans ((s6.trans s7).trans (s8.trans s810)))⟩, ?_, fun y H11 hy s11 hM => k y H11 (s010.free hy) (s010.trans s11) ?_⟩
    · rw [← hN]
      exact evG_ok ok
    · rw [← hN] at hM
      exact hM
end
end Law

namespace L2
open PySem PySem.Spec PyProof.Rows Law
theorem AllIn.app2 {α : Type} {R : V → α → Prop} {vs ws : List V} {l r : List α} (h : AllIn R vs l) (g : AllIn R ws r) : AllIn R (vs ++ ws) (l ++ r) := AllIn.app h g
theorem rowP_get {n i : Nat} (h : i < n - 1) : (rowP n)[i]? = some ((i : Int), (i : Int) + 1) := by
  unfold rowP
  rw [List.getElem?_map, List.getElem?_range h] <;> rfl
theorem row_step {n i : Nat} (h : i < n - 1) : (rowP n).take (i + 1) = (rowP n).take i ++ [((i : Int), (i : Int) + 1)] := by
  rw [List.take_add_one, rowP_get h] <;> rfl
theorem rowP_len (n : Nat) : (rowP n).length = n - 1 := by
  unfold rowP
  rw [List.length_map, List.length_range]
theorem ring_len (n : Nat) (h : 3 ≤ n) (h2 : n ≤ 12) : (ringP n).length = n := by
  rw [← (ring_ok h h2).1.length_eq, List.length_append, rowP_len]
  show n - 1 + 1 = n
  omega
/-! ### falling rows -/
def powI (a : Int) (n : Nat) : Int := a ^ n
/-- sums from the front -/
def dpStep (l : List Int) (m : Nat) : List Int := (List.range (m + 1)).map fun h => (l.take (h + 1)).sum
def dpL (m : Nat) : Nat → List Int
  | 0 => List.replicate (m + 1) 1
  | k + 1 => dpStep (dpL m k) m
def rowsF (n m : Nat) : Int := (dpL m (n - 1)).sum
theorem dp_len (m : Nat) : ∀ k, (dpL m k).length = m + 1
  | 0 => List.length_replicate
  | k + 1 => by
    show ((List.range (m + 1)).map _).length = _
    rw [List.length_map, List.length_range]
end L2
namespace Law
open PySem L2
section
variable {P : Program} {w : World} {K : PySem.W.Frag} {mg : Str → Option Value} {base : Heap}
def spEven (K : PySem.W.Frag) : Sp := fun vs H Q _ => ∃ (n : Int) (w L t : Addr) (row : List Int) (ws : List V) (ps : List Pr) (tab : List (List Int)), vs = [.int n, .ref w, .ref L, .ref t] ∧ (1 ≤ n ∧ n ≤ 12) ∧ SqT K H w (row.map V.int) ∧ H L = some (.lst ws) ∧ AllIn (PrAt K H) ws ps ∧ ps.length ≤ 144 ∧ RowsAt K H t tab ∧
  ∀ (d : Addr) (H' : Hp), H d = none → Same H H' → DicAt K H' d (evenM n row ps tab) → Q (.ref d) H'
abbrev nLawEven : List Str := ["_law_many", "_law_row", "_law_pairs_here", "_law_table", "_law_pair"]
theorem scLawEven : FnScope nLawEven ["_law_many", "_law_row", "_law_pairs_here", "_law_table"] (defScope s_law_even) := ⟨rfl, rfl, rfl, by decide +kernel, rfl, by decide +kernel, by decide +kernel⟩
theorem ok_even {f : Addr} {fd : FuncData} (F : Fun K "_law_even" "_law_even" s_law_even f fd) (T : NmA mg) : FnOk P w K mg base CX0 1 f fd ["_law_many", "_law_row", "_law_pairs_here", "_law_table"] (spEven K) := by
  refine F.ok scLawEven (fun vs H Q E h => ?_) (fun cdv A' outer s H vs Q E hr h => ?_)
  · obtain ⟨n, w, L, t, row, ws, ps, tab, rfl, _⟩ := h
    rfl
  · obtain ⟨n, w, L, t, row, ws, ps, tab, rfl, hn, hw, hL, aL, hl, ht, k⟩ := h
    have hu := hu_of hr
    refine ⟨_, pss_one (ps_ret (pe_disp (pps_cons pe_str (pv 0) (pps_cons pe_str (pe_callB call_len_seq (by rfl) T.len PySem.boot_len (pa_cons (pv 1) pa_nil)) (pps_cons pe_str (pe_op op_repI (pe_tup (pa_cons (pv 1) pa_nil)) (pv 0)) (pps_cons pe_str (pe_callTy call_tuple_of (by rfl) T.tuple (by decide +kernel) (pa_cons (pe_lc (own := [("_law_pair", 4)]) (g := (gName 4)) (tt := tYes) rfl scLawEven.nd  (pi_list (pv 2)) (blkOk_by (own := [("_law_pair", 4)]) (N := nLawEven) (sc := defScope s_law_even) (by decide +kernel)) (fun _ _ _ _ _ => (pg_name (i := 4) scLawEven.nd rfl (Or.inl rfl))) (fun _ _ _ _ _ => pts_nil) (fun _ _ _ _ _ => (pe_op (r := rCatA K) (show OpR _ (binaryOp .Add) (rCatA K) from op_catA) (pv 4) (pe_tup (pa_cons (pv 3) pa_nil))))) pa_nil)) pps_nil)))) (by rfl) (by rfl) (fun z => by cases z) (by decide))), ?_⟩
    intro dp hdp
    have sd : Same H (upd H dp (.dK [])) := Same.new hdp
    refine ⟨_, rfl, _, rfl, w, _, rfl, .inr (sd.sqT hw), _, rfl, by show 1 ≤ sizeLine; decide, fun W0 hW0 => ?_⟩
    refine new_step hW0 fun H2 s2 e2 => ?_
    refine ⟨_, rfl, ?_⟩
    refine repAny (SqT.of e2) hn.1 hn.2 fun W H3 s3 hW => ?_
    have s03 := (sd.trans s2).trans s3
    have hL3 := s03 _ _ hL
    have aL3 : AllIn (PrAt K H3) ws ps := aL.mono fun _ _ => PrAt.same s03
    have ht3 := ht.same s03
    refine ⟨_, rfl, L, rfl, ⟨_, SqL.of hL3⟩, fun D hD => ?_⟩
    refine lc_list (K := K) (a := L) (xs := ws) (fun i H' => Same H3 H' ∧ ∃ acc : List V, H' D = some (.lst acc) ∧ AllIn (TieAt K H') acc ((ps.take i).map fun t => (t, tab))) ⟨Same.new hD, [], upd_same, AllIn.nil⟩ (fun i H' _ h => SqL.of (h.1 _ _ hL3)) (fun i x H4 hi g => ?_) fun H4 g => ?_
    · obtain ⟨s4, acc, d4, a4⟩ := g
      obtain ⟨u, hu, a, rfl, r⟩ := aL3.2 i x hi
      refine ⟨rfl, _, rfl, _, rfl, by show 1 ≤ sizeLine; decide, fun o ho => ?_⟩
      refine new_step ho fun H5 s5 e5 => ?_
      refine catAny ((s4.trans s5).sqT r) (SqT.of e5) (by show 2 + 1 ≤ sizeLine; decide) fun o2 H6 s6 e6 => ?_
      have s46 := s5.trans s6
      have d6 := s46 _ _ d4
      have il := (List.getElem?_eq_some_iff.mp hu).1
      refine ⟨acc, d6, by rw [a4.1, List.length_map, List.length_take]; exact small1000 (by omega), (s4.trans s46).mut hD, acc ++ [.ref o2], upd_same, ?_⟩
      rw [List.take_add_one, hu, List.map_append]
      exact AllIn.snoc (a4.mono fun _ _ h => (h.same s46).upd d6) (TieAt.upd d6 ⟨o2, t, rfl, e6, (ht3.same s4).same s46⟩)
    obtain ⟨s4, acc, d4, a4⟩ := g
    rw [aL.1, List.take_length] at a4
    refine ⟨D, _, rfl, .inl ⟨SqL.of d4, fun T hT4 => ?_⟩⟩
    refine new_step hT4 fun H5 s5 e5 => ?_
    have s35 := s4.trans s5
    have hdp5 : H5 dp = some (.dK []) := s35 _ _ (s3 _ _ (s2 _ _ upd_same))
    have l5 : (row.map V.int).length = row.length := List.length_map ..
    refine ⟨hdp5, mdK n (row.length : Nat) W T, by rw [l5] <;> rfl, (show 4 ≤ 15 by decide), ?_⟩
    rw [merge_app (mdK n (row.length : Nat) W T) [] (md_keys _ _ _ _), List.nil_append]
    have sN : Same H (upd H5 dp (.dK (mdK n (row.length : Nat) W T))) := (s03.trans s35).mut hdp
    obtain ⟨H6, hH6⟩ : ∃ G, G = upd H5 dp (.dK (mdK n (row.length : Nat) W T)) := ⟨_, rfl⟩
    have tk : ∀ {a : Addr} {xs : List V}, H5 a = some (.tup xs) → H6 a = some (.tup xs) := fun {a xs} e => by
      rw [hH6, upd_ne (fun z => by rw [z, hdp5] at e; cases e)]
      exact e
    have tupF : ∀ {a : Addr} {ys : List V}, SqT K H5 a ys → SqT K H6 a ys := fun {a ys} h => by
      rcases h with (z | ⟨q, z⟩) | z
      · exact .inl (.inl (tk z))
      · exact .inl (.inr ⟨q, by rw [hH6, upd_ne (ne_of z hdp5 (by intro y; cases y))]; exact z⟩)
      · exact .inr z
    have rowK : ∀ {a : Addr} {t : List (List Int)}, RowsAt K H5 a t → RowsAt K H6 a t := fun {a t} h => by
      obtain ⟨vs, z3, z4⟩ := h
      exact ⟨vs, tupF z3, z4.mono fun _ _ ⟨c, y1, y2⟩ => ⟨c, y1, tupF y2⟩⟩
    have tieK : ∀ {v : V} {t : Tie}, TieAt K H5 v t → TieAt K H6 v t := fun {v t} h => by
      obtain ⟨a, b, z1, z2, z3⟩ := h
      exact ⟨a, b, z1, tupF z2, rowK z3⟩
    have e6 : H6 dp = some (.dK (mdK n (row.length : Nat) W T)) := by rw [hH6]; exact upd_same
    rw [← hH6] at sN ⊢
    exact k dp H6 hdp sN ⟨W, T, e6, rowK ⟨_, s35.sqT hW, allIn_rep ⟨w, rfl, (s03.trans s35).sqT hw⟩ _⟩, acc, tupF (SqT.of e5), a4.mono fun _ _ h => tieK (h.same s5)⟩
/-- a list of pairs, new -/
def spNet (K : PySem.W.Frag) : Sp := fun vs H Q _ => ∃ (p : Addr) (n : Int), vs = [.ref p, .int n] ∧ HandAt H p ∧ (1 ≤ n ∧ n ≤ 12) ∧
  ∀ (L : Addr) (ws : List V) (ps : List Pr) (H' : Hp), H L = none → Stp p H H' → H' L = some (.lst ws) → AllIn (PrAt K H') ws ps → PsOk n ps → ps.length ≤ 144 → Q (.ref L) H'
theorem net_pick {i : Nat} {x : V} (h : ([.int 1, .int 2, .int 4] : List V)[i]? = some x) : ∃ n : Int, x = .int n ∧ 0 < n ∧ n < 1000 := by
  have m := List.mem_of_getElem? h
  simp only [List.mem_cons, List.not_mem_nil, or_false] at m
  rcases m with rfl | rfl | rfl <;> exact ⟨_, rfl, by decide, by decide⟩
abbrev nLawNet : List Str := ["_law_hand_here", "_law_many", "_law_kind", "_law_at"]
theorem scLawNet : FnScope nLawNet ["_law_hand_here", "_law_many"] (defScope s_law_net) := ⟨rfl, rfl, rfl, by decide +kernel, rfl, by decide +kernel, by decide +kernel⟩
theorem ok_net {f : Addr} {fd : FuncData} {fD : Addr} {fdD : FuncData} {fcPairs : Addr} {fdcPairs : FuncData} {fA : Addr} {fdA : FuncData} (F : Fun K "_law_net" "_law_net" s_law_net f fd) (T : NmA mg) (D : Cl P w K mg base CX0 1 "_law_draw" fD fdD ["_law_hand_here", "_law_many"] spDraw) (cPairs : Cl P w K mg base CX0 2 "_law_pairs" fcPairs fdcPairs ["_law_hand_here", "_law_many", "_law_rare"] (spPairs K)) (A : Cl P w K mg base CX0 2 "_law_any" fA fdA ["_law_hand_here", "_law_things"] (spAny K)) : FnOk P w K mg base CX0 3 f fd ["_law_hand_here", "_law_many"] (spNet K) := by
  refine F.ok scLawNet (fun vs H Q E h => ?_) (fun cdv A' outer s H vs Q E hr h => ?_)
  · obtain ⟨p, n, rfl, _⟩ := h
    rfl
  · obtain ⟨p, n, rfl, hH, hn, k⟩ := h
    have hu := hu_of hr
    refine ⟨_, pss_cons (ps_set (i := 2) scLawNet.nd rfl (Or.inl rfl) (D.call (hr.mono (by decide)) (pa_cons (pv 0) (pa_cons pe_int pa_nil))))
      (Evl.pss_cut (ps_if (PW.pt (pw_and (pt_cmpR op_eq (pv 2) pe_int (nomark _)) (pw_and1 (pt_cmpR op_gt (pv 1) pe_int (nomark _)))))
        (pss_one (ps_ret (pe_callB cr_sortedPO (by rfl) T.sorted (by decide +kernel) (pa_cons (pe_op op_cat (pe_lc (own := [("_law_at", 3)]) (g := (gName 3)) (tt := tYes) rfl scLawNet.nd  (pi_range1 (by rfl) T.range (pa_cons (pe_op op_sub (pv 1) pe_int) pa_nil)) (blkOk_by (own := [("_law_at", 3)]) (N := nLawNet) (sc := defScope s_law_net) (by decide +kernel)) (fun _ _ _ _ _ => (pg_name (i := 3) scLawNet.nd rfl (Or.inl rfl))) (fun _ _ _ _ _ => pts_nil) (fun _ _ _ _ _ => (pe_tup (pa_cons (pv 3) (pa_cons (pe_op op_add (pv 3) pe_int) pa_nil))))) (pe_lst (pa_cons (pe_tup (pa_cons pe_int (pa_cons (pe_op op_sub (pv 1) pe_int) pa_nil))) pa_nil))) pa_nil)))) pss_nil)
      (pss_cons (ps_if (pt_cmpR op_eq (pv 2) pe_int (nomark _))
        (pss_one (ps_ret (pe_lc (own := [("_law_at", 3)]) (g := (gName 3)) (tt := tYes) rfl scLawNet.nd  (pi_range1 (by rfl) T.range (pa_cons (pe_op op_sub (pv 1) pe_int) pa_nil)) (blkOk_by (own := [("_law_at", 3)]) (N := nLawNet) (sc := defScope s_law_net) (by decide +kernel)) (fun _ _ _ _ _ => (pg_name (i := 3) scLawNet.nd rfl (Or.inl rfl))) (fun _ _ _ _ _ => pts_nil) (fun _ _ _ _ _ => (pe_tup (pa_cons (pv 3) (pa_cons (pe_op op_add (pv 3) pe_int) pa_nil))))))) pss_nil)
      (pss_one (ps_ret (cPairs.call (hr.mono (by decide)) (pa_cons (pv 0) (pa_cons (pv 1) (pa_cons (A.call (hr.mono (by decide)) (pa_cons (pv 0) (pa_cons (pe_lst (pa_cons pe_int (pa_cons pe_int (pa_cons pe_int pa_nil)))) pa_nil))) pa_nil)))))))), ?_⟩
    obtain ⟨N, rfl⟩ : ∃ N : Nat, n = (N : Int) := ⟨n.toNat, by omega⟩
    refine ⟨_, rfl, p, 4, rfl, by decide, by decide, hH, fun kd H1 _ _ S1 => ?_⟩
    have lc : ∀ {H2 : Hp}, True := fun {_} => trivial
    have pair : ∀ (H2 H' : Hp) (D : Addr) (acc : List V) (i : Nat), Same H2 H' → H' D = some (.lst acc) → AllIn (PrR H') acc ((rowP N).take i) → H2 D = none → i < N - 1 → ∀ (o : Addr) (H3 : Hp), Same H' H3 → H3 o = some (.tup [.int (i : Int), .int ((i : Int) + 1)]) →
        ∃ ac : List V, H3 D = some (.lst ac) ∧ ac.length < sizeLine ∧ Same H2 (upd H3 D (.lst (ac ++ [.ref o]))) ∧ ∃ ac2 : List V, upd H3 D (.lst (ac ++ [.ref o])) D = some (.lst ac2) ∧ AllIn (PrR (upd H3 D (.lst (ac ++ [.ref o])))) ac2 ((rowP N).take (i + 1)) := fun H2 H' D acc i s hd a hD hi o H3 s3 e3 => by
      have d3 := s3 _ _ hd
      refine ⟨_, d3, by rw [a.1, List.length_take, rowP_len]; exact small1000 (by omega), (s.trans s3).mut hD, _, upd_same, ?_⟩
      rw [row_step hi]
      exact AllIn.snoc (a.mono fun _ _ h => (h.same s3).upd d3) (PrR.upd d3 ⟨_, rfl, e3⟩)
    refine ⟨fun σ H' => H' = H1 ∧ σ = [some (.ref p), some (.int (N : Int)), some (.int kd), none], ?_, ?_⟩
    · refine ⟨_, rfl, rfl, _, rfl, ite2 (fun _ => ?_) (fun _ => ⟨rfl, rfl⟩)⟩
      refine ⟨_, rfl, _, _, rfl, rfl, _, rfl, ite2 (fun c => ?_) (fun _ => ⟨rfl, rfl⟩)⟩
      have c := of_decide_eq_true c
      have N3 : 3 ≤ N := by omega
      refine ⟨_, rfl, _, _, rfl, rfl, _, rfl, by omega, by omega, fun D hD => ?_⟩
      rw [show ((N : Int) - 1).toNat = N - 1 by omega]
      refine lc_range (lo := 0) (n := N - 1) (fun i H' => Same H1 H' ∧ ∃ acc : List V, H' D = some (.lst acc) ∧ AllIn (PrR H') acc ((rowP N).take i)) ⟨Same.new hD, [], upd_same, AllIn.nil⟩ (fun i H2 hi g => ?_) fun H2 g => ?_
      · obtain ⟨s2, acc, d2, a2⟩ := g
        rw [Int.zero_add]
        refine ⟨rfl, _, rfl, _, rfl, _, _, rfl, rfl, by show 2 ≤ sizeLine; decide, fun o ho => ?_⟩
        refine new_step ho fun H3 s3 e3 => ?_
        exact pair H1 H2 D acc i s2 d2 a2 hD hi o H3 s3 e3
      obtain ⟨s2, acc, d2, a2⟩ := g
      rw [List.take_of_length_le (by rw [rowP_len]; exact Nat.le_refl _)] at a2
      refine ⟨_, rfl, _, _, rfl, rfl, by show 2 ≤ sizeLine; decide, fun o ho => ?_⟩
      refine new_step ho fun H3 s3 e3 => ?_
      refine ⟨by show 1 ≤ sizeLine; decide, fun B hB => ?_⟩
      refine new_step hB fun H4 s4 e4 => ?_
      have s24 := s3.trans s4
      have lA := a2.1
      rw [rowP_len] at lA
      refine ⟨D, B, _, _, rfl, rfl, s24 _ _ d2, e4, by rw [lA]; exact Nat.le_of_lt (small1000 (by show N - 1 + 1 ≤ _; omega)), fun L hL => ?_⟩
      refine new_step hL fun H5 s5 e5 => ?_
      have s25 := s24.trans s5
      have aAB : AllIn (PrR H5) (acc ++ [.ref o]) (rowP N ++ [((0 : Int), (N : Int) - 1)]) := AllIn.app (a2.mono fun _ _ h => h.same s25) (AllIn.one ⟨o, rfl, (s4.trans s5) _ _ e3⟩)
      obtain ⟨g1, g2, g3⟩ := ring_ok N3 (by omega)
      refine ⟨L, acc ++ [.ref o], kOf H5, rfl, SqL.of e5, PrR.ex aAB, fun ys q hs hb hq => ?_⟩
      have aY := sortP aAB hs hb.perm g1 g2
      refine new_step hq fun H6 s6 e6 => ?_
      have s16 := (s2.trans s25).trans s6
      exact k q ys (ringP N) H6 (S1.free (s2.free ((s25).free hq))) (S1.post s16) e6 (aY.mono fun _ _ h => (h.same s6).at) g3 (by rw [ring_len N N3 (by omega)]; omega)
    rintro σ H' ⟨rfl, rfl⟩
    refine ⟨_, rfl, rfl, _, rfl, ite2 (fun _ => ?_) (fun _ => ?_)⟩
    · refine ⟨_, rfl, _, _, rfl, rfl, _, rfl, by omega, by omega, fun D hD => ?_⟩
      rw [show ((N : Int) - 1).toNat = N - 1 by omega]
      refine lc_range (lo := 0) (n := N - 1) (fun i H'' => Same H' H'' ∧ ∃ acc : List V, H'' D = some (.lst acc) ∧ AllIn (PrR H'') acc ((rowP N).take i)) ⟨Same.new hD, [], upd_same, AllIn.nil⟩ (fun i H2 hi g => ?_) fun H2 g => ?_
      · obtain ⟨s2, acc, d2, a2⟩ := g
        rw [Int.zero_add]
        refine ⟨rfl, _, rfl, _, rfl, _, _, rfl, rfl, by show 2 ≤ sizeLine; decide, fun o ho => ?_⟩
        refine new_step ho fun H3 s3 e3 => ?_
        exact pair H' H2 D acc i s2 d2 a2 hD hi o H3 s3 e3
      obtain ⟨s2, acc, d2, a2⟩ := g
      rw [List.take_of_length_le (by rw [rowP_len]; exact Nat.le_refl _)] at a2
      exact k D acc (rowP N) H2 (S1.free hD) (S1.post s2) d2 (a2.mono fun _ _ h => h.at) (row_ok (by omega)) (by rw [rowP_len]; omega)
    · refine ⟨_, rfl, _, rfl, _, rfl, by show 3 ≤ sizeLine; decide, fun L hL => ?_⟩
      refine new_step hL fun H2 s2 e2 => ?_
      refine ⟨p, L, _, rfl, .inl (SqL.of e2), by show 0 < 3; decide, by show 3 < 1073741824; decide, S1.hand.same s2, fun i x H3 hx S3 => ?_⟩
      obtain ⟨r, rfl, r0, r1⟩ := net_pick hx
      have S03 := (S1.post s2).trans S3
      exact ⟨p, (N : Int), r, rfl, S03.hand, by omega, by omega, r0, r1, fun L ws ps H4 hL S4 h4 a4 o4 l4 => k L ws ps H4 (S03.free hL) (S03.trans S4) h4 a4 o4 l4⟩
end
end Law

namespace L2
open PySem PySem.Spec PyProof.Rows Law
theorem cut_to {xs : List V} {n : Nat} (h : n ≤ xs.length) : cutV xs none (some (n : Int)) = xs.take n := by
  unfold cutV
  show (xs.drop 0).take (HT.sIx xs.length xs.length (some (n : Int)) - 0) = _
  rw [HT.sIx_nat, Nat.min_eq_left h, Nat.sub_zero, List.drop_zero]
def stA (R C r c : Nat) : List Pr := (if c + 1 < C then [(((r * C + c : Nat) : Int), ((r * C + c + 1 : Nat) : Int))] else []) ++ if r + 1 < R then [(((r * C + c : Nat) : Int), ((r * C + c + C : Nat) : Int))] else []
def stR (R C r n : Nat) : List Pr := (List.range n).flatMap fun c => stA R C r c
def stN (R C n : Nat) : List Pr := (List.range n).flatMap fun r => stR R C r C
theorem stN_raw (R C : Nat) : stN R C R = rawS R C := rfl
theorem stR_succ (R C r n : Nat) : stR R C r (n + 1) = stR R C r n ++ stA R C r n := by
  unfold stR
  rw [List.range_succ, List.flatMap_append, List.flatMap_cons, List.flatMap_nil, List.append_nil]
theorem stN_succ (R C n : Nat) : stN R C (n + 1) = stN R C n ++ stR R C n C := by
  unfold stN
  rw [List.range_succ, List.flatMap_append, List.flatMap_cons, List.flatMap_nil, List.append_nil]
theorem stA_len (R C r c : Nat) : (stA R C r c).length ≤ 2 := by
  unfold stA
  rw [List.length_append]
  split <;> split <;> simp
theorem stR_len (R C r : Nat) : ∀ n, (stR R C r n).length ≤ 2 * n
  | 0 => Nat.zero_le _
  | n + 1 => by
    have := stR_len R C r n
    have := stA_len R C r n
    rw [stR_succ, List.length_append]
    omega
theorem stN_len (R C : Nat) : ∀ n, (stN R C n).length ≤ 2 * C * n
  | 0 => Nat.zero_le _
  | n + 1 => by
    have := stN_len R C n
    have := stR_len R C n C
    rw [stN_succ, List.length_append, Nat.mul_succ]
    omega
def ckOk (p : List Int) (t : Pr) : Bool := decide (gI p t.2 ≤ gI p t.1)
def ckR (C r n : Nat) : List Pr := (List.range n).flatMap fun c => chkP r C c
theorem ckR_succ (C r n : Nat) : ckR C r (n + 1) = ckR C r n ++ chkP r C n := by
  unfold ckR
  rw [List.range_succ, List.flatMap_append, List.flatMap_cons, List.flatMap_nil, List.append_nil]
def ckN (C n : Nat) : List Pr := (List.range n).flatMap fun r => ckR C r C
theorem ckN_succ (C n : Nat) : ckN C (n + 1) = ckN C n ++ ckR C n C := by
  unfold ckN
  rw [List.range_succ, List.flatMap_append, List.flatMap_cons, List.flatMap_nil, List.append_nil]
theorem fall_no {R C r c : Nat} {p : List Int} {t : Pr} (hr : r < R) (hc : c < C) (ht : t ∈ chkP r C c) (h : gI p t.1 < gI p t.2) : fallB R C p = false := by
  unfold fallB
  rw [List.all_eq_false]
  refine ⟨t, List.mem_flatMap.mpr ⟨r, List.mem_range.mpr hr, List.mem_flatMap.mpr ⟨c, List.mem_range.mpr hc, ht⟩⟩, ?_⟩
  rw [decide_eq_false (by omega)]
  exact Bool.false_ne_true
theorem chk_all {p : List Int} {i C j : Nat} (h1 : 0 < j → gI p ((i * C + j : Nat) : Int) ≤ gI p (((i * C + j : Nat) : Int) - 1)) (h2 : 0 < i → gI p ((i * C + j : Nat) : Int) ≤ gI p ((i : Int) * C - C + j)) : (chkP i C j).all (ckOk p) = true := by
  unfold chkP
  rw [List.all_append, Bool.and_eq_true]
  constructor
  · by_cases c : 0 < j
    · rw [if_pos c, List.all_cons, List.all_nil, Bool.and_true]
      exact decide_eq_true (h1 c)
    · rw [if_neg c] <;> rfl
  · by_cases c : 0 < i
    · rw [if_pos c, List.all_cons, List.all_nil, Bool.and_true]
      exact decide_eq_true (h2 c)
    · rw [if_neg c] <;> rfl
theorem cell_lt {R C r c : Nat} (hr : r < R) (hc : c < C) : r * C + c < R * C := by
  have z : (r + 1) * C ≤ R * C := Nat.mul_le_mul_right C hr
  rw [Nat.succ_mul] at z
  omega
end L2
namespace Law
open PySem L2
section
variable {P : Program} {w : World} {K : PySem.W.Frag} {mg : Str → Option Value} {base : Heap}
def spSteps (K : PySem.W.Frag) : Sp := fun vs H Q _ => ∃ R C : Nat, vs = [.int (R : Nat), .int (C : Nat)] ∧ 0 < R ∧ 0 < C ∧ R * C ≤ 12 ∧
  ∀ (L : Addr) (ws : List V) (H' : Hp), H L = none → Same H H' → H' L = some (.lst ws) → AllIn (PrAt K H') ws (stp R C) → Q (.ref L) H'
abbrev nLawSteps : List Str := ["_law_rows", "_law_columns", "_law_found", "_law_row", "_law_column"]
theorem scLawSteps : FnScope nLawSteps ["_law_rows", "_law_columns"] (defScope s_law_steps) := ⟨rfl, rfl, rfl, by decide +kernel, rfl, by decide +kernel, by decide +kernel⟩
theorem ok_steps {f : Addr} {fd : FuncData} (F : Fun K "_law_steps" "_law_steps" s_law_steps f fd) (T : NmA mg) : FnOk P w K mg base CX0 1 f fd ["_law_rows", "_law_columns"] (spSteps K) := by
  refine F.ok scLawSteps (fun vs H Q E h => ?_) (fun cdv A' outer s H vs Q E hr h => ?_)
  · obtain ⟨R, C, rfl, _⟩ := h
    rfl
  · obtain ⟨R, C, rfl, hR, hC, h12, k⟩ := h
    have hu := hu_of hr
    refine ⟨_, pss_cons (ps_set (i := 2) scLawSteps.nd rfl (Or.inl rfl) (pe_lst pa_nil))
      (pss_cons (ps_for PassesOwn.never rfl (pi_range1 (by rfl) T.range (pa_cons (pv 0) pa_nil)) (pg_name (i := 3) scLawSteps.nd rfl (Or.inl rfl))
        (pss_one (ps_for PassesOwn.never rfl (pi_range1 (by rfl) T.range (pa_cons (pv 1) pa_nil)) (pg_name (i := 4) scLawSteps.nd rfl (Or.inl rfl))
          (Evl.pss_cut (ps_if (pt_cmpR op_lt (pe_op op_add (pv 4) pe_int) (pv 1) (nomark _))
            (pss_one (ps_expr (pe_bm PySem.F.plainAttrs_list PySem.F.slot_list_append PySem.F.type_list_append mt_append (pv 2) (pa_cons (pe_tup (pa_cons (pe_op op_add (pe_op op_mul (pv 3) (pv 1)) (pv 4)) (pa_cons (pe_op op_add (pe_op op_add (pe_op op_mul (pv 3) (pv 1)) (pv 4)) pe_int) pa_nil))) pa_nil)))) pss_nil)
          (pss_one (ps_if (pt_cmpR op_lt (pe_op op_add (pv 3) pe_int) (pv 0) (nomark _))
            (pss_one (ps_expr (pe_bm PySem.F.plainAttrs_list PySem.F.slot_list_append PySem.F.type_list_append mt_append (pv 2) (pa_cons (pe_tup (pa_cons (pe_op op_add (pe_op op_mul (pv 3) (pv 1)) (pv 4)) (pa_cons (pe_op op_add (pe_op op_add (pe_op op_mul (pv 3) (pv 1)) (pv 4)) (pv 1)) pa_nil))) pa_nil)))) pss_nil))))))
      (pss_one (ps_ret (pe_callB cr_sortedPO (by rfl) T.sorted (by decide +kernel) (pa_cons (pv 2) pa_nil))))), ?_⟩
    have G := grid_ok hR hC h12
    have r1 : R ≤ R * C := Nat.le_mul_of_pos_right R hC
    have c1 : C ≤ R * C := Nat.le_mul_of_pos_left C hR
    refine ⟨by show 0 ≤ sizeLine; decide, fun F hF => ?_⟩
    refine new_step hF fun H1 s1 e1 => ?_
    refine ⟨_, rfl, _, rfl, by omega, by omega, ?_⟩
    rw [Int.toNat_natCast]
    have lN : ∀ n, n ≤ R → (stN R C n).length ≤ 24 := fun n hn => by
      have a := stN_len R C n
      have b : C * n ≤ R * C := by rw [Nat.mul_comm R C]; exact Nat.mul_le_mul_left C hn
      rw [Nat.mul_assoc] at a
      omega
    refine for_range (lo := 0) (n := R) (fun i σ H' => (Same H H' ∧ ∃ acc : List V, H' F = some (.lst acc) ∧ AllIn (PrR H') acc (stN R C i)) ∧ ∃ u1 u2 : Option V, σ = [some (.int (R : Nat)), some (.int (C : Nat)), some (.ref F), u1, u2]) ⟨⟨s1, [], e1, AllIn.nil⟩, none, none, rfl⟩ ?_ ?_
    · rintro i σ H2 hi ⟨⟨s2, acc, d2, a2⟩, u1, u2, rfl⟩
      rw [Int.zero_add]
      refine ⟨_, rfl, _, rfl, by omega, by omega, ?_⟩
      rw [Int.toNat_natCast]
      refine for_range (lo := 0) (n := C) (fun j σ H' => (Same H H' ∧ ∃ acc : List V, H' F = some (.lst acc) ∧ AllIn (PrR H') acc (stN R C i ++ stR R C i j)) ∧ ∃ u2 : Option V, σ = [some (.int (R : Nat)), some (.int (C : Nat)), some (.ref F), some (.int (i : Nat)), u2]) ⟨⟨s2, acc, d2, by rw [show stR R C i 0 = [] from rfl, List.append_nil]; exact a2⟩, _, rfl⟩ ?_ ?_
      · rintro j σ H3 hj ⟨⟨s3, ac, d3, a3⟩, u2, rfl⟩
        rw [Int.zero_add]
        have sz : ac.length ≤ 48 := by
          rw [a3.1, List.length_append]
          have := lN i (by omega)
          have := stR_len R C i j
          omega
        have q0 : (i : Int) * (C : Int) + (j : Int) = ((i * C + j : Nat) : Int) := by rw [Int.natCast_add, Int.natCast_mul]
        refine ⟨fun σ H' => (Same H H' ∧ ∃ acc : List V, H' F = some (.lst acc) ∧ AllIn (PrR H') acc (stN R C i ++ stR R C i j ++ if j + 1 < C then [(((i * C + j : Nat) : Int), ((i * C + j + 1 : Nat) : Int))] else [])) ∧ σ = [some (.int (R : Nat)), some (.int (C : Nat)), some (.ref F), some (.int (i : Nat)), some (.int (j : Nat))], ?_, ?_⟩
        · refine ⟨_, rfl, _, _, rfl, rfl, _, rfl, _, _, rfl, rfl, _, rfl, ite2 (fun c => ?_) (fun c => ?_)⟩
          · have c := of_decide_eq_true c
            rw [if_pos (by omega)]
            refine ⟨_, rfl, .inl ⟨rfl, _, SqL.of d3⟩, _, rfl, _, rfl, _, _, rfl, rfl, .inr ⟨by omega, by omega⟩, _, rfl, _, _, rfl, rfl, _, rfl, _, rfl, _, _, rfl, rfl, .inr ⟨by omega, by omega⟩, _, rfl, _, _, rfl, rfl, _, _, rfl, rfl, by show 2 ≤ sizeLine; decide, fun o ho => ?_⟩
            refine new_step ho fun H4 s4 e4 => ?_
            have e4 : H4 o = some (.tup [.int ((i : Int) * (C : Int) + (j : Int)), .int ((i : Int) * (C : Int) + (j : Int) + 1)]) := e4
            rw [q0] at e4
            have d4 := s4 _ _ d3
            exact ⟨F, ac, _, rfl, rfl, d4, small1000 (by omega), ⟨(s3.trans s4).mut hF, ac ++ [.ref o], upd_same, AllIn.snoc (a3.mono fun _ _ h => (h.same s4).upd d4) (PrR.upd d4 ⟨o, rfl, e4⟩)⟩, rfl⟩
          · have c : ¬ ((j : Int) + 1 < (C : Int)) := fun z => c (decide_eq_true z)
            rw [if_neg (by omega), List.append_nil]
            exact ⟨⟨s3, ac, d3, a3⟩, rfl⟩
        rintro σ H4 ⟨⟨s4, ac4, d4, a4⟩, rfl⟩
        refine ⟨_, rfl, _, _, rfl, rfl, _, rfl, _, _, rfl, rfl, _, rfl, ite2 (fun c => ?_) (fun c => ?_)⟩
        · have c := of_decide_eq_true c
          have sz4 : ac4.length ≤ 49 := by
            have z := a4.1
            rw [List.length_append, List.length_append] at z
            have := lN i (by omega)
            have := stR_len R C i j
            have : (if j + 1 < C then [(((i * C + j : Nat) : Int), ((i * C + j + 1 : Nat) : Int))] else []).length ≤ 1 := by split <;> simp
            omega
          refine ⟨_, rfl, .inl ⟨rfl, _, SqL.of d4⟩, _, rfl, _, rfl, _, _, rfl, rfl, .inr ⟨by omega, by omega⟩, _, rfl, _, _, rfl, rfl, _, rfl, _, rfl, _, _, rfl, rfl, .inr ⟨by omega, by omega⟩, _, rfl, _, _, rfl, rfl, _, rfl, _, _, rfl, rfl, by show 2 ≤ sizeLine; decide, fun o ho => ?_⟩
          refine new_step ho fun H5 s5 e5 => ?_
          have e5 : H5 o = some (.tup [.int ((i : Int) * (C : Int) + (j : Int)), .int ((i : Int) * (C : Int) + (j : Int) + (C : Int))]) := e5
          rw [q0] at e5
          have d5 := s5 _ _ d4
          refine ⟨F, ac4, _, rfl, rfl, d5, small1000 (by omega), ⟨(s4.trans s5).mut hF, ac4 ++ [.ref o], upd_same, ?_⟩, _, rfl⟩
          rw [stR_succ, ← List.append_assoc]
          unfold stA
          rw [if_pos (show i + 1 < R by omega), ← List.append_assoc]
          exact AllIn.snoc (a4.mono fun _ _ h => (h.same s5).upd d5) (PrR.upd d5 ⟨o, rfl, e5⟩)
        · have c : ¬ ((i : Int) + 1 < (R : Int)) := fun z => c (decide_eq_true z)
          refine ⟨⟨s4, ac4, d4, ?_⟩, _, rfl⟩
          rw [stR_succ, ← List.append_assoc]
          unfold stA
          rw [if_neg (show ¬ i + 1 < R by omega), List.append_nil]
          exact a4
      · rintro σ H3 ⟨⟨s3, ac, d3, a3⟩, u2, rfl⟩
        exact ⟨⟨s3, ac, d3, by rw [stN_succ]; exact a3⟩, _, _, rfl⟩
    · rintro σ H2 ⟨⟨s2, acc, d2, a2⟩, u1, u2, rfl⟩
      refine ⟨_, rfl, F, acc, kOf H2, rfl, SqL.of d2, PrR.ex a2, fun ys q hs hb hq => ?_⟩
      have aY := sortP a2 hs hb.perm G.raw G.srt
      refine new_step hq fun H3 s3 e3 => ?_
      exact k q ys H3 (s2.free hq) (s2.trans s3) e3 (aY.mono fun _ _ h => (h.same s3).at)
def spFall (K : PySem.W.Frag) : Sp := fun vs H Q _ => ∃ (R C : Nat) (b : Addr) (p : List Int), vs = [.int (R : Nat), .int (C : Nat), .ref b] ∧ 0 < R ∧ 0 < C ∧ R * C ≤ 12 ∧ SqT K H b (p.map V.int) ∧ p.length = R * C ∧ ∀ H', Same H H' → Q (.bl (fallB R C p)) H'
abbrev nLawFalling : List Str := ["_law_rows", "_law_columns", "_law_heights", "_law_row", "_law_column", "_law_here"]
theorem scLawFalling : FnScope nLawFalling ["_law_rows", "_law_columns", "_law_heights"] (defScope s_law_falling) := ⟨rfl, rfl, rfl, by decide +kernel, rfl, by decide +kernel, by decide +kernel⟩
theorem ok_falling {f : Addr} {fd : FuncData} (F : Fun K "_law_falling" "_law_falling" s_law_falling f fd) (T : NmA mg) : FnOk P w K mg base CX0 1 f fd ["_law_rows", "_law_columns", "_law_heights"] (spFall K) := by
  refine F.ok scLawFalling (fun vs H Q E h => ?_) (fun cdv A' outer s H vs Q E hr h => ?_)
  · obtain ⟨R, C, b, p, rfl, _⟩ := h
    rfl
  · obtain ⟨R, C, b, p, rfl, hR, hC, h12, hS, hl, k⟩ := h
    have hu := hu_of hr
    refine ⟨_, pss_cons (ps_for PassesOwn.never rfl (pi_range1 (by rfl) T.range (pa_cons (pv 0) pa_nil)) (pg_name (i := 3) scLawFalling.nd rfl (Or.inl rfl))
        (pss_one (ps_for PassesOwn.never rfl (pi_range1 (by rfl) T.range (pa_cons (pv 1) pa_nil)) (pg_name (i := 4) scLawFalling.nd rfl (Or.inl rfl))
          (pss_cons (ps_set (i := 5) scLawFalling.nd rfl (Or.inl rfl) (pe_ix ix_tup (pv 2) (pe_op op_add (pe_op op_mul (pv 3) (pv 1)) (pv 4)) (fun _ _ => rfl)))
          (pss_one (ps_if (PW.pt (pw_or (PW.pt (pw_and (pt_cmpR op_gt (pv 4) pe_int (nomark _)) (pw_and1 (pt_cmpR op_gt (pv 5) (pe_ix ix_tup (pv 2) (pe_op op_sub (pe_op op_add (pe_op op_mul (pv 3) (pv 1)) (pv 4)) pe_int) (fun _ _ => rfl)) (nomark _))))) (pw_or1 (PW.pt (pw_and (pt_cmpR op_gt (pv 3) pe_int (nomark _)) (pw_and1 (pt_cmpR op_gt (pv 5) (pe_ix ix_tup (pv 2) (pe_op op_add (pe_op op_sub (pe_op op_mul (pv 3) (pv 1)) (pv 1)) (pv 4)) (fun _ _ => rfl)) (nomark _))))))))
            (pss_one (ps_ret pe_bl)) pss_nil))))))
      (pss_one (ps_ret pe_bl)), ?_⟩
    have r1 : R ≤ R * C := Nat.le_mul_of_pos_right R hC
    have c1 : C ≤ R * C := Nat.le_mul_of_pos_left C hR
    refine ⟨_, rfl, _, rfl, by omega, by omega, ?_⟩
    rw [Int.toNat_natCast]
    refine for_range (lo := 0) (n := R) (fun i σ H' => (Same H H' ∧ (ckN C i).all (ckOk p) = true) ∧ ∃ u1 u2 u3 : Option V, σ = [some (.int (R : Nat)), some (.int (C : Nat)), some (.ref b), u1, u2, u3]) ⟨⟨Same.refl H, rfl⟩, none, none, none, rfl⟩ ?_ ?_
    · rintro i σ H2 hi ⟨⟨s2, a2⟩, u1, u2, u3, rfl⟩
      rw [Int.zero_add]
      refine ⟨_, rfl, _, rfl, by omega, by omega, ?_⟩
      rw [Int.toNat_natCast]
      refine for_range (lo := 0) (n := C) (fun j σ H' => (Same H H' ∧ (ckN C i ++ ckR C i j).all (ckOk p) = true) ∧ ∃ u2 u3 : Option V, σ = [some (.int (R : Nat)), some (.int (C : Nat)), some (.ref b), some (.int (i : Nat)), u2, u3]) ⟨⟨s2, by rw [show ckR C i 0 = [] from rfl, List.append_nil]; exact a2⟩, _, _, rfl⟩ ?_ ?_
      · rintro j σ H3 hj ⟨⟨s3, a3⟩, u2, u3, rfl⟩
        rw [Int.zero_add]
        have cl := cell_lt hi hj
        have hS3 := s3.sqT hS
        have q0 : (i : Int) * (C : Int) + (j : Int) = ((i * C + j : Nat) : Int) := by rw [Int.natCast_add, Int.natCast_mul]
        have at_ : ∀ x : Int, 0 ≤ x → x < ((R * C : Nat) : Int) → atI (p.map V.int) x = some (.int (gI p x)) := fun x h0 h1 => atI_gI h0 (by omega)
        refine ⟨_, rfl, _, rfl, _, rfl, _, _, rfl, rfl, .inr ⟨by omega, by omega⟩, _, rfl, _, _, rfl, rfl, b, _, _, _, rfl, rfl, hS3, at_ _ (by omega) (by omega), ?_⟩
        have zi : 0 < i → (C : Int) ≤ (i : Int) * (C : Int) := fun h => by
          have z := Nat.le_mul_of_pos_left C h
          have y := Int.natCast_mul i C
          omega
        have done : (0 < j → gI p ((i * C + j : Nat) : Int) ≤ gI p (((i * C + j : Nat) : Int) - 1)) → (0 < i → gI p ((i * C + j : Nat) : Int) ≤ gI p ((i : Int) * C - C + j)) → (Same H H3 ∧ (ckN C i ++ ckR C i (j + 1)).all (ckOk p) = true) ∧ ∃ u2 u3 : Option V, [some (.int (R : Nat)), some (.int (C : Nat)), some (.ref b), some (.int (i : Nat)), some (.int (j : Nat)), some (.int (gI p ((i : Int) * (C : Int) + (j : Int))))] = ([some (.int (R : Nat)), some (.int (C : Nat)), some (.ref b), some (.int (i : Nat)), u2, u3] : L2.St) := fun h1 h2 =>
          ⟨⟨s3, by rw [ckR_succ, ← List.append_assoc, List.all_append, a3, chk_all h1 h2] <;> rfl⟩, _, _, rfl⟩
        refine ⟨_, rfl, _, _, rfl, rfl, _, rfl, ite2 (fun b1 => ?_) (fun b1 => ?_)⟩
        · have b1 := of_decide_eq_true b1
          refine ⟨_, rfl, _, rfl, _, rfl, _, rfl, _, _, rfl, rfl, .inr ⟨by omega, by omega⟩, _, rfl, _, _, rfl, rfl, _, _, rfl, rfl, b, _, _, _, rfl, rfl, hS3, at_ _ (by omega) (by omega), _, _, rfl, rfl, _, rfl, ite2 (fun b2 => ?_) (fun b2 => ?_)⟩
          · have z := k H3 s3
            rw [fall_no hi hj (t := (((i * C + j : Nat) : Int) - 1, ((i * C + j : Nat) : Int))) (List.mem_append.mpr (.inl (by rw [if_pos (by omega)]; exact List.mem_singleton.mpr rfl))) (by rw [← q0]; exact of_decide_eq_true b2)] at z
            exact z
          · have hc1 : 0 < j → gI p ((i * C + j : Nat) : Int) ≤ gI p (((i * C + j : Nat) : Int) - 1) := fun _ => Int.not_lt.mp fun z => b2 (decide_eq_true (by rw [← q0] at z; exact z))
            refine ⟨_, rfl, _, _, rfl, rfl, _, rfl, ite2 (fun d1 => ?_) (fun d1 => ?_)⟩
            · have d1 := of_decide_eq_true d1
              have ci := zi (by omega)
              refine ⟨_, rfl, _, rfl, _, rfl, _, rfl, _, _, rfl, rfl, .inr ⟨by omega, by omega⟩, _, rfl, _, _, rfl, rfl, _, rfl, _, _, rfl, rfl, b, _, _, _, rfl, rfl, hS3, at_ _ (by omega) (by omega), _, _, rfl, rfl, _, rfl, ite2 (fun d2 => ?_) (fun d2 => ?_)⟩
              · have z := k H3 s3
                rw [fall_no hi hj (t := ((i : Int) * C - C + j, ((i * C + j : Nat) : Int))) (List.mem_append.mpr (.inr (by rw [if_pos (by omega)]; exact List.mem_singleton.mpr rfl))) (by rw [← q0]; exact of_decide_eq_true d2)] at z
                exact z
              · exact done hc1 fun _ => Int.not_lt.mp fun z => d2 (decide_eq_true (by rw [← q0] at z; exact z))
            · exact done hc1 fun z => absurd (decide_eq_true (by show (0 : Int) < (i : Int); omega)) d1
        · have hc1 : 0 < j → gI p ((i * C + j : Nat) : Int) ≤ gI p (((i * C + j : Nat) : Int) - 1) := fun z => absurd (decide_eq_true (by show (0 : Int) < (j : Int); omega)) b1
          refine ⟨_, rfl, _, _, rfl, rfl, _, rfl, ite2 (fun d1 => ?_) (fun d1 => ?_)⟩
          · have d1 := of_decide_eq_true d1
            have ci := zi (by omega)
            refine ⟨_, rfl, _, rfl, _, rfl, _, rfl, _, _, rfl, rfl, .inr ⟨by omega, by omega⟩, _, rfl, _, _, rfl, rfl, _, rfl, _, _, rfl, rfl, b, _, _, _, rfl, rfl, hS3, at_ _ (by omega) (by omega), _, _, rfl, rfl, _, rfl, ite2 (fun d2 => ?_) (fun d2 => ?_)⟩
            · have z := k H3 s3
              rw [fall_no hi hj (t := ((i : Int) * C - C + j, ((i * C + j : Nat) : Int))) (List.mem_append.mpr (.inr (by rw [if_pos (by omega)]; exact List.mem_singleton.mpr rfl))) (by rw [← q0]; exact of_decide_eq_true d2)] at z
              exact z
            · exact done hc1 fun _ => Int.not_lt.mp fun z => d2 (decide_eq_true (by rw [← q0] at z; exact z))
          · exact done hc1 fun z => absurd (decide_eq_true (by show (0 : Int) < (i : Int); omega)) d1
      · rintro σ H3 ⟨⟨s3, a3⟩, u2, u3, rfl⟩
        exact ⟨⟨s3, by rw [ckN_succ]; exact a3⟩, _, _, _, rfl⟩
    · rintro σ H2 ⟨⟨s2, a2⟩, u1, u2, u3, rfl⟩
      have z : fallB R C p = true := a2
      refine k H2 s2 |> fun z2 => ?_
      rw [z] at z2
      exact z2
def spRowsF : Sp := fun vs H Q _ => ∃ (n m : Nat), vs = [.int (n : Nat), .int (m : Nat)] ∧ 1 ≤ n ∧ n ≤ 12 ∧ m ≤ 3 ∧ ∀ H', Same H H' → Q (.int (rowsF n m)) H'
abbrev nLawRowsFalling : List Str := ["_law_many", "_law_most", "_law_counts", "_law_turn", "_law_height"]
theorem scLawRowsFalling : FnScope nLawRowsFalling ["_law_many", "_law_most"] (defScope s_law_rows_falling) := ⟨rfl, rfl, rfl, by decide +kernel, rfl, by decide +kernel, by decide +kernel⟩
theorem ok_rows_falling {f : Addr} {fd : FuncData} (F : Fun K "_law_rows_falling" "_law_rows_falling" s_law_rows_falling f fd) (T : NmA mg) : FnOk P w K mg base CX0 1 f fd ["_law_many", "_law_most"] spRowsF := by
  refine F.ok scLawRowsFalling (fun vs H Q E h => ?_) (fun cdv A' outer s H vs Q E hr h => ?_)
  · obtain ⟨n, m, rfl, _⟩ := h
    rfl
  · obtain ⟨n, m, rfl, n1, n12, m3, k⟩ := h
    have hu := hu_of hr
    refine ⟨_, pss_cons (ps_set (i := 2) scLawRowsFalling.nd rfl (Or.inr rfl) (pe_op op_rep (pe_lst (pa_cons pe_int pa_nil)) (pe_op op_add (pv 1) pe_int)))
      (pss_cons (ps_for PassesOwn.never rfl (pi_range1 (by rfl) T.range (pa_cons (pe_op op_sub (pv 0) pe_int) pa_nil)) (pg_name (i := 3) scLawRowsFalling.nd rfl (Or.inl rfl))
        (pss_one (ps_set (i := 2) scLawRowsFalling.nd rfl (Or.inr rfl) (pe_lc (own := [("_law_height", 4)]) (g := (gName 4)) (tt := tYes) rfl scLawRowsFalling.nd  (pi_range1 (by rfl) T.range (pa_cons (pe_op op_add (pv 1) pe_int) pa_nil)) (blkOk_by (own := [("_law_height", 4)]) (N := nLawRowsFalling) (sc := defScope s_law_rows_falling) (by decide +kernel)) (fun _ _ _ _ _ => (pg_name (i := 4) scLawRowsFalling.nd rfl (Or.inl rfl))) (fun _ _ _ _ _ => pts_nil) (fun _ _ _ _ _ => (pe_callB (r := rSum K) (show CallR _ (.builtin "sum") (rSum K) from cr_sum rfl) (by rfl) T.sum (by decide +kernel) (pa_cons (pe_slice (r := rSlL K) (show SlR _ (rSlL K) from sl_list) (pv 2) po_none (po_some (pe_op op_add (pv 4) pe_int))) pa_nil)))))))
      (pss_one (ps_ret (pe_callB (cr_sum rfl) (by rfl) T.sum (by decide +kernel) (pa_cons (pv 2) pa_nil))))), ?_⟩
    refine ⟨by show 1 ≤ sizeLine; decide, fun O hO => ?_⟩
    refine new_step hO fun H1 s1 e1 => ?_
    refine ⟨_, rfl, _, _, rfl, rfl, O, _, _, rfl, rfl, e1, by omega, by omega, by show 1 * ((m : Int) + 1).toNat ≤ sizeLine; rw [sizeLine_eq]; omega, fun A hA => ?_⟩
    refine new_step hA fun H2 s2 e2 => ?_
    have em : ((m : Int) + 1).toNat = m + 1 := by omega
    have e2 : H2 A = some (.lst ((dpL m 0).map V.int)) := by
      rw [e2, em]
      have : ∀ q : Nat, (List.replicate q [V.int 1]).flatten = (List.replicate q (1 : Int)).map V.int := fun q => by
        induction q with
        | zero => rfl
        | succ q ih => rw [List.replicate_succ, List.flatten_cons, ih] <;> rfl
      rw [this] <;> rfl
    refine ⟨_, rfl, _, _, rfl, rfl, _, rfl, by omega, by omega, ?_⟩
    rw [show ((n : Int) - 1).toNat = n - 1 by omega]
    refine for_range (lo := 0) (n := n - 1) (fun i σ H' => (Same H H' ∧ ∃ A : Addr, H' A = some (.lst ((dpL m i).map V.int)) ∧ ∃ u : Option V, σ = [some (.int (n : Nat)), some (.int (m : Nat)), some (.ref A), u, none])) ⟨s1.trans s2, A, e2, none, rfl⟩ ?_ ?_
    · rintro i σ H3 hi ⟨s3, A, d3, u, rfl⟩
      refine ⟨_, rfl, _, _, rfl, rfl, _, rfl, by omega, by omega, fun D hD => ?_⟩
      rw [em]
      refine lc_range (lo := 0) (n := m + 1) (fun j H' => Same H3 H' ∧ H' D = some (.lst (((dpStep (dpL m i) m).take j).map V.int))) ⟨Same.new hD, upd_same⟩ (fun j H4 hj g => ?_) fun H4 g => ?_
      · obtain ⟨s4, d4⟩ := g
        refine ⟨rfl, _, rfl, ?_⟩
        unfold tNoPart
        refine ⟨_, rfl, _, _, rfl, rfl, _, rfl, A, _, rfl, SqL.of (s4 _ _ d3), fun B hB => ?_⟩
        refine new_step hB fun H5 s5 e5 => ?_
        have ec : cutV ((dpL m i).map V.int) none (some ((0 : Int) + (j : Int) + 1)) = ((dpL m i).take (j + 1)).map V.int := by
          rw [show (0 : Int) + (j : Int) + 1 = ((j + 1 : Nat) : Int) by omega, cut_to (by rw [List.length_map, dp_len]; omega), List.map_take]
        have e5 : H5 B = some (.lst (((dpL m i).take (j + 1)).map V.int)) := by rw [← ec]; exact e5
        have d5 := s5 _ _ d4
        refine ⟨B, _, rfl, SqL.of e5, _, d5, by rw [List.length_map, List.length_take]; exact small1000 (by omega), (s4.trans s5).mut hD, ?_⟩
        have ej : (dpStep (dpL m i) m)[j]? = some (((dpL m i).take (j + 1)).sum) := by
          unfold dpStep
          rw [List.getElem?_map, List.getElem?_range hj] <;> rfl
        rw [upd_same, show (dpStep (dpL m i) m).take (j + 1) = (dpStep (dpL m i) m).take j ++ [((dpL m i).take (j + 1)).sum] by rw [List.take_add_one, ej] <;> rfl, List.map_append] <;> rfl
      · obtain ⟨s4, d4⟩ := g
        rw [List.take_of_length_le (by show ((List.range (m + 1)).map _).length ≤ m + 1; rw [List.length_map, List.length_range]; exact Nat.le_refl _)] at d4
        exact ⟨s3.trans s4, D, d4, _, rfl⟩
    · rintro σ H3 ⟨s3, A, d3, u, rfl⟩
      refine ⟨_, rfl, A, _, rfl, SqL.of d3, k H3 s3⟩
def spPow : Sp := fun vs H Q _ => ∃ (a : Int) (n : Nat), vs = [.int a, .int (n : Nat)] ∧ 0 ≤ a ∧ a ≤ 1000 ∧ n ≤ 1000 ∧ ∀ H', Same H H' → Q (.int (a ^ n)) H'
abbrev nLawPower : List Str := ["_law_number_here", "_law_many", "_law_found", "_law_turn"]
theorem scLawPower : FnScope nLawPower ["_law_number_here", "_law_many"] (defScope s_law_power) := ⟨rfl, rfl, rfl, by decide +kernel, rfl, by decide +kernel, by decide +kernel⟩
theorem ok_power {f : Addr} {fd : FuncData} (F : Fun K "_law_power" "_law_power" s_law_power f fd) (T : NmA mg) : FnOk P w K mg base CX0 1 f fd ["_law_number_here", "_law_many"] spPow := by
  refine F.ok scLawPower (fun vs H Q E h => ?_) (fun cdv A' outer s H vs Q E hr h => ?_)
  · obtain ⟨a, n, rfl, _⟩ := h
    rfl
  · obtain ⟨a, n, rfl, a0, a1, hn, k⟩ := h
    have hu := hu_of hr
    refine ⟨_, pss_cons (ps_set (i := 2) scLawPower.nd rfl (Or.inl rfl) pe_int)
      (pss_cons (ps_for PassesOwn.never rfl (pi_range1 (by rfl) T.range (pa_cons (pv 1) pa_nil)) (pg_name (i := 3) scLawPower.nd rfl (Or.inl rfl))
        (pss_one (ps_set (i := 2) scLawPower.nd rfl (Or.inl rfl) (pe_op op_mul (pv 2) (pv 0)))))
      (pss_one (ps_ret (pv 2)))), ?_⟩
    refine ⟨_, rfl, _, rfl, by omega, by omega, ?_⟩
    rw [Int.toNat_natCast]
    refine for_range (lo := 0) (n := n) (fun i σ H' => Same H H' ∧ ∃ u : Option V, σ = [some (.int a), some (.int (n : Nat)), some (.int (a ^ i)), u]) ⟨Same.refl H, none, by rw [Int.pow_zero] <;> rfl⟩ ?_ ?_
    · rintro i σ H2 hi ⟨s2, u, rfl⟩
      refine ⟨_, rfl, _, rfl, _, _, rfl, rfl, .inr ⟨by omega, by omega⟩, s2, some (.int ((0 : Int) + (i : Nat))), ?_⟩
      rw [Int.pow_succ] <;> rfl
    · rintro σ H2 ⟨s2, u, rfl⟩
      exact ⟨_, rfl, k H2 s2⟩
end
end Law

namespace Law
open PySem L2
def GivAt (K : PySem.W.Frag) (H : Hp) (a : Addr) : Giv → Prop
  | .sp n ps x y => ∃ q, SqT K H a [.int n, .ref q, .int x, .int y] ∧ PrsT K H q ps
  | .ap n ps x => ∃ q, SqT K H a [.int n, .ref q, .int x] ∧ PrsT K H q ps
  | .co n ps lv => ∃ q, SqT K H a [.int n, .ref q, .int lv] ∧ PrsT K H q ps
  | .st R C m => SqT K H a [.int (R : Nat), .int (C : Nat), .int (m : Nat)]
theorem GivAt.same {K : PySem.W.Frag} {H H' : Hp} {a : Addr} {g : Giv} (s : Same H H') (h : GivAt K H a g) : GivAt K H' a g := by
  cases g with
  | st R C m => exact s.sqT h
  | sp n ps x y => obtain ⟨q, h1, h2⟩ := h; exact ⟨q, s.sqT h1, h2.same s⟩
  | ap n ps x => obtain ⟨q, h1, h2⟩ := h; exact ⟨q, s.sqT h1, h2.same s⟩
  | co n ps x => obtain ⟨q, h1, h2⟩ := h; exact ⟨q, s.sqT h1, h2.same s⟩
theorem prsT_stp {K : PySem.W.Frag} {p : Addr} {H H' : Hp} {a : Addr} {ps : List Pr} (S : Stp p H H') (hh : HandAt H p) (h : PrsT K H a ps) : PrsT K H' a ps := by
  obtain ⟨ws, h1, h2⟩ := h
  exact ⟨ws, S.sqT hh h1, h2.mono fun _ _ => prAt_stp S hh⟩
theorem givAt_stp {K : PySem.W.Frag} {p : Addr} {H H' : Hp} {a : Addr} {g : Giv} (S : Stp p H H') (hh : HandAt H p) (h : GivAt K H a g) : GivAt K H' a g := by
  cases g with
  | st R C m => exact S.sqT hh h
  | sp n ps x y => obtain ⟨q, h1, h2⟩ := h; exact ⟨q, S.sqT hh h1, prsT_stp S hh h2⟩
  | ap n ps x => obtain ⟨q, h1, h2⟩ := h; exact ⟨q, S.sqT hh h1, prsT_stp S hh h2⟩
  | co n ps x => obtain ⟨q, h1, h2⟩ := h; exact ⟨q, S.sqT hh h1, prsT_stp S hh h2⟩
section
variable {P : Program} {w : World} {K : PySem.W.Frag} {mg : Str → Option Value} {base : Heap}
def spMadeBy (K : PySem.W.Frag) : Sp := fun vs H Q _ => ∃ p : Addr, vs = [.ref p] ∧ HandAt H p ∧
  ∀ (t a d : Addr) (g : Giv) (H' : Hp), Stp p H H' → SqT K H' t [.int (wordG g), .ref a, .ref d] → GivAt K H' a g → DicAt K H' d (mdlG g) → GOk g → d ≠ p → Q (.ref t) H'
abbrev nLawMadeBy : List Str := ["_law_hand_here", "_law_many", "_law_word", "_law_pairs_here", "_law_same", "_law_other", "_law_number_here", "_law_levels", "_law_table", "_law_rows", "_law_columns", "_law_most", "_law_one"]
theorem scLawMadeBy : FnScope nLawMadeBy ["_law_hand_here"] (defScope s_law_made_by) := ⟨rfl, rfl, rfl, by decide +kernel, rfl, by decide +kernel, by decide +kernel⟩
theorem ok_made_by {f : Addr} {fd : FuncData} {fD : Addr} {fdD : FuncData} {fcNet : Addr} {fdcNet : FuncData} {fcNum : Addr} {fdcNum : FuncData} {fcEven : Addr} {fdcEven : FuncData} {fcSteps : Addr} {fdcSteps : FuncData} (F : Fun K "_law_made_by" "_law_made_by" s_law_made_by f fd) (T : NmA mg) (D : Cl P w K mg base CX0 1 "_law_draw" fD fdD ["_law_hand_here", "_law_many"] spDraw) (cNet : Cl P w K mg base CX0 3 "_law_net" fcNet fdcNet ["_law_hand_here", "_law_many"] (spNet K)) (cNum : Cl P w K mg base CX0 3 "_law_number" fcNum fdcNum ["_law_hand_here"] spNum) (cEven : Cl P w K mg base CX0 1 "_law_even" fcEven fdcEven ["_law_many", "_law_row", "_law_pairs_here", "_law_table"] (spEven K)) (cSteps : Cl P w K mg base CX0 1 "_law_steps" fcSteps fdcSteps ["_law_rows", "_law_columns"] (spSteps K)) : FnOk P w K mg base CX0 4 f fd ["_law_hand_here"] (spMadeBy K) := by
  refine F.ok scLawMadeBy (fun vs H Q E h => ?_) (fun cdv A' outer s H vs Q E hr h => ?_)
  · obtain ⟨p, rfl, _⟩ := h
    rfl
  · obtain ⟨p, rfl, hH, k⟩ := h
    have hu := hu_of hr
    refine ⟨_, pss_cons (ps_par (i := 1) (j := 2) (by rfl) scLawMadeBy.nd rfl rfl (by decide) rfl rfl (pa_cons (pe_op op_add pe_int (D.call (hr.mono (by decide)) (pa_cons (pv 0) (pa_cons pe_int pa_nil)))) (pa_cons (D.call (hr.mono (by decide)) (pa_cons (pv 0) (pa_cons pe_int pa_nil))) pa_nil)) (by rfl))
      (pss_cons (ps_set (i := 3) scLawMadeBy.nd rfl (Or.inl rfl) (cNet.call (hr.mono (by decide)) (pa_cons (pv 0) (pa_cons (pv 1) pa_nil))))
      (pss_cons (ps_if (pt_cmpR op_eq (pv 2) pe_int (nomark _))
        (pss_cons (ps_par (i := 4) (j := 5) (by rfl) scLawMadeBy.nd rfl rfl (by decide) rfl rfl (pa_cons (cNum.call (hr.mono (by decide)) (pa_cons (pv 0) pa_nil)) (pa_cons (cNum.call (hr.mono (by decide)) (pa_cons (pv 0) pa_nil)) pa_nil)) (by rfl))
        (pss_one (ps_ret (pe_tup (pa_cons (pv 2) (pa_cons (pe_tup (pa_cons (pv 1) (pa_cons (pe_callTy call_tuple_of (by rfl) T.tuple (by decide +kernel) (pa_cons (pv 3) pa_nil)) (pa_cons (pv 4) (pa_cons (pv 5) pa_nil))))) (pa_cons (cEven.call (hr.mono (by decide)) (pa_cons (pv 1) (pa_cons (pe_tup (pa_cons pe_int (pa_cons pe_int pa_nil))) (pa_cons (pv 3) (pa_cons (pe_tup (pa_cons (pe_tup (pa_cons (pv 4) (pa_cons (pv 5) pa_nil))) (pa_cons (pe_tup (pa_cons (pv 5) (pa_cons (pv 4) pa_nil))) pa_nil))) pa_nil))))) pa_nil))))))) pss_nil)
      (pss_cons (ps_if (pt_cmpR op_eq (pv 2) pe_int (nomark _))
        (pss_cons (ps_set (i := 6) scLawMadeBy.nd rfl (Or.inl rfl) (cNum.call (hr.mono (by decide)) (pa_cons (pv 0) pa_nil)))
        (pss_one (ps_ret (pe_tup (pa_cons (pv 2) (pa_cons (pe_tup (pa_cons (pv 1) (pa_cons (pe_callTy call_tuple_of (by rfl) T.tuple (by decide +kernel) (pa_cons (pv 3) pa_nil)) (pa_cons (pv 6) pa_nil)))) (pa_cons (cEven.call (hr.mono (by decide)) (pa_cons (pv 1) (pa_cons (pe_tup (pa_cons pe_int (pa_cons (pv 6) pa_nil))) (pa_cons (pv 3) (pa_cons (pe_tup (pa_cons (pe_tup (pa_cons pe_int (pa_cons pe_int pa_nil))) (pa_cons (pe_tup (pa_cons pe_int (pa_cons pe_int pa_nil))) pa_nil))) pa_nil))))) pa_nil))))))) pss_nil)
      (pss_cons (ps_if (pt_cmpR op_eq (pv 2) pe_int (nomark _))
        (pss_cons (ps_set (i := 7) scLawMadeBy.nd rfl (Or.inr rfl) (pe_op op_add pe_int (D.call (hr.mono (by decide)) (pa_cons (pv 0) (pa_cons pe_int pa_nil)))))
        (pss_cons (ps_set (i := 8) scLawMadeBy.nd rfl (Or.inl rfl) (pe_callTy call_tuple_of (by rfl) T.tuple (by decide +kernel) (pa_cons (pe_lc (own := [("_law_one", 12)]) (g := (gName 12)) (tt := tYes) rfl scLawMadeBy.nd  (pi_range1 (by rfl) T.range (pa_cons (pv 7) pa_nil)) (blkOk_by (own := [("_law_one", 12)]) (N := nLawMadeBy) (sc := defScope s_law_made_by) (by decide +kernel)) (fun _ _ _ _ _ => (pg_name (i := 12) scLawMadeBy.nd rfl (Or.inr rfl))) (fun _ _ _ _ _ => pts_nil) (fun _ _ _ _ _ => (pe_callTy (r := rTupOf K) (show CallR _ (.type "tuple") (rTupOf K) from call_tuple_of) (by rfl) T.tuple (by decide +kernel) (pa_cons (pe_lc (own := [("_law_other", 5)]) (g := (gName 5)) (tt := tYes) rfl scLawMadeBy.nd  (pi_range1 (by rfl) T.range (pa_cons (pv 7) pa_nil)) (blkOk_by (own := [("_law_other", 5)]) (N := nLawMadeBy) (sc := ({ kind := .function, names := [(".0", .local), ("_law_one", .cell), ("tuple", .globalImplicit), ("range", .globalImplicit), ("_law_levels", .cell)], isGenerator := false, isCoroutine := false } : Scope)) (by decide +kernel)) (fun _ _ _ _ _ => (pg_name (i := 5) scLawMadeBy.nd rfl (Or.inl rfl))) (fun _ _ _ _ _ => pts_nil) (fun _ _ _ _ _ => (pe_callTy (r := fun xs H Q => (∃ i, xs = [.int i] ∧ Q (.int i) H) ∨ ∃ k, xs = [.bl k] ∧ Q (.int (if k then 1 else 0)) H) call_int1 (by rfl) T.int (by decide +kernel) (pa_cons (pe_cmpR op_ne (pv 12) (pv 5) (nomark _)) pa_nil)))) pa_nil)))) pa_nil)))
        (pss_one (ps_ret (pe_tup (pa_cons (pv 2) (pa_cons (pe_tup (pa_cons (pv 1) (pa_cons (pe_callTy call_tuple_of (by rfl) T.tuple (by decide +kernel) (pa_cons (pv 3) pa_nil)) (pa_cons (pv 7) pa_nil)))) (pa_cons (cEven.call (hr.mono (by decide)) (pa_cons (pv 1) (pa_cons (pe_op op_repI (pe_tup (pa_cons pe_int pa_nil)) (pv 7)) (pa_cons (pv 3) (pa_cons (pv 8) pa_nil))))) pa_nil)))))))) pss_nil)
      (pss_cons (ps_set (i := 9) scLawMadeBy.nd rfl (Or.inl rfl) (pe_op op_add pe_int (D.call (hr.mono (by decide)) (pa_cons (pv 0) (pa_cons pe_int pa_nil)))))
      (pss_cons (ps_asg (pe_tup (pa_cons (pe_op op_add pe_int (D.call (hr.mono (by decide)) (pa_cons (pv 0) (pa_cons (pe_op op_fdiv pe_int (pv 9)) pa_nil)))) (pa_cons (D.call (hr.mono (by decide)) (pa_cons (pv 0) (pa_cons pe_int pa_nil))) pa_nil))) (pg_tup (by rfl) (pgs_cons (pg_name (i := 10) scLawMadeBy.nd rfl (Or.inl rfl)) (pgs_cons (pg_name (i := 11) scLawMadeBy.nd rfl (Or.inr rfl)) pgs_nil))))
      (pss_cons (ps_set (i := 8) scLawMadeBy.nd rfl (Or.inl rfl) (pe_callTy call_tuple_of (by rfl) T.tuple (by decide +kernel) (pa_cons (pe_lc (own := [("_law_one", 12)]) (g := (gName 12)) (tt := tYes) rfl scLawMadeBy.nd  (pi_range1 (by rfl) T.range (pa_cons (pe_op op_add (pv 11) pe_int) pa_nil)) (blkOk_by (own := [("_law_one", 12)]) (N := nLawMadeBy) (sc := defScope s_law_made_by) (by decide +kernel)) (fun _ _ _ _ _ => (pg_name (i := 12) scLawMadeBy.nd rfl (Or.inr rfl))) (fun _ _ _ _ _ => pts_nil) (fun _ _ _ _ _ => (pe_callTy (r := rTupOf K) (show CallR _ (.type "tuple") (rTupOf K) from call_tuple_of) (by rfl) T.tuple (by decide +kernel) (pa_cons (pe_lc (own := [("_law_other", 5)]) (g := (gName 5)) (tt := tYes) rfl scLawMadeBy.nd  (pi_range1 (by rfl) T.range (pa_cons (pe_op op_add (pv 11) pe_int) pa_nil)) (blkOk_by (own := [("_law_other", 5)]) (N := nLawMadeBy) (sc := ({ kind := .function, names := [(".0", .local), ("_law_one", .cell), ("tuple", .globalImplicit), ("range", .globalImplicit), ("_law_most", .cell)], isGenerator := false, isCoroutine := false } : Scope)) (by decide +kernel)) (fun _ _ _ _ _ => (pg_name (i := 5) scLawMadeBy.nd rfl (Or.inl rfl))) (fun _ _ _ _ _ => pts_nil) (fun _ _ _ _ _ => (pe_callTy (r := fun xs H Q => (∃ i, xs = [.int i] ∧ Q (.int i) H) ∨ ∃ k, xs = [.bl k] ∧ Q (.int (if k then 1 else 0)) H) call_int1 (by rfl) T.int (by decide +kernel) (pa_cons (pe_cmpR op_ge (pv 12) (pv 5) (nomark _)) pa_nil)))) pa_nil)))) pa_nil)))
      (pss_one (ps_ret (pe_tup (pa_cons (pv 2) (pa_cons (pe_tup (pa_cons (pv 9) (pa_cons (pv 10) (pa_cons (pv 11) pa_nil)))) (pa_cons (cEven.call (hr.mono (by decide)) (pa_cons (pe_op op_mul (pv 9) (pv 10)) (pa_cons (pe_op op_repI (pe_tup (pa_cons pe_int pa_nil)) (pe_op op_add (pv 11) pe_int)) (pa_cons (cSteps.call (hr.mono (by decide)) (pa_cons (pv 9) (pa_cons (pv 10) pa_nil))) (pa_cons (pv 8) pa_nil))))) pa_nil))))))))))))), ?_⟩
    refine ⟨_, rfl, p, 12, rfl, by decide, by decide, hH, fun d0 H1 n0 n1 S1 => ⟨_, _, rfl, rfl, _, rfl, p, 4, rfl, by decide, by decide, S1.hand, fun wd H2 w0 w1 S2 => ?_⟩⟩
    obtain ⟨n, en⟩ : ∃ n : Int, n = 1 + d0 := ⟨_, rfl⟩
    have hn : 1 ≤ n ∧ n ≤ 12 := ⟨by omega, by omega⟩
    have S02 := S1.trans S2
    refine ⟨_, _, rfl, _, rfl, _, rfl, p, n, by rw [en] <;> rfl, S02.hand, hn, fun L ws ps H3 hL S3 hL3 a3 o3 l3 => ?_⟩
    have S03 := S02.trans S3
    have Lp : L ≠ p := ne_hand S02.hand hL
    refine ⟨_, rfl, rfl, _, rfl, ?_⟩
    rw [ei]
    refine ite2 (fun cw => ?_) (fun cw => ?_)
    · have cw : wd = 0 := of_decide_eq_true cw
      subst cw
      refine ⟨_, rfl, p, rfl, S03.hand, fun x H4 x0 x1 S4 => ⟨_, rfl, p, rfl, (S03.trans S4).hand, fun y H5 y0 y1 S5 => ?_⟩⟩
      have S35 := S4.trans S5
      have S05 := S03.trans S35
      have hL5 := S35.keep _ _ Lp hL3
      have a5 : AllIn (PrAt K H5) ws ps := a3.mono fun _ _ => prAt_stp S35 S03.hand
      refine ⟨_, _, rfl, _, rfl, _, rfl, _, rfl, L, _, rfl, .inl ⟨SqL.of hL5, fun B hB => ?_⟩⟩
      refine new_step hB fun H6 s6 e6 => ?_
      refine ⟨_, rfl, _, rfl, by show 4 ≤ sizeLine; decide, fun G hG => ?_⟩
      refine new_step hG fun H7 s7 e7 => ?_
      refine ⟨_, rfl, by show 2 ≤ sizeLine; decide, fun W hW => ?_⟩
      refine new_step hW fun H8 s8 e8 => ?_
      refine ⟨_, rfl, _, rfl, _, rfl, by show 2 ≤ sizeLine; decide, fun r1 h1 => ?_⟩
      refine new_step h1 fun H9 s9 e9 => ?_
      refine ⟨_, rfl, _, rfl, by show 2 ≤ sizeLine; decide, fun r2 h2 => ?_⟩
      refine new_step h2 fun H10 s10 e10 => ?_
      refine ⟨by show 2 ≤ sizeLine; decide, fun T hT => ?_⟩
      refine new_step hT fun H11 s11 e11 => ?_
      have s911 := s10.trans s11
      have s811 := s9.trans s911
      have s611 := s7.trans (s8.trans s811)
      have s511 := s6.trans s611
      refine ⟨n, W, L, T, [1, 1], ws, ps, [[x, y], [y, x]], by rw [en] <;> rfl, hn, SqT.of (s811 _ _ e8), s511 _ _ hL5, a5.mono fun _ _ => PrAt.same s511, l3, ⟨_, SqT.of e11, AllIn.snoc (AllIn.one ⟨r1, rfl, SqT.of (s911 _ _ e9)⟩) ⟨r2, rfl, SqT.of (s11 _ _ e10)⟩⟩, fun d H12 hd s12 hM => ?_⟩
      refine ⟨by show 3 ≤ sizeLine; decide, fun t ht => ?_⟩
      refine new_step ht fun H13 s13 e13 => ?_
      have s12' := s12.trans s13
      have e7' : H13 G = some (.tup [.int (1 + d0), .ref B, .int x, .int y]) := (s8.trans (s811.trans s12')) _ _ e7
      rw [← en] at e7'
      have S013 := S05.post (s511.trans s12')
      have dp : d ≠ p := ne_hand (S05.post s511).hand hd
      exact k t G d (.sp n ps x y) H13 S013 (SqT.of e13) ⟨B, SqT.of e7', ws, SqT.of ((s611.trans s12') _ _ e6), a5.mono fun _ _ => PrAt.same (s511.trans s12')⟩ (hM.same s13) ⟨hn, o3, l3, ⟨x0, x1⟩, y0, y1⟩ dp
    refine ⟨_, rfl, rfl, _, rfl, ?_⟩
    rw [ei]
    refine ite2 (fun cw1 => ?_) (fun cw1 => ?_)
    · have cw1 : wd = 1 := of_decide_eq_true cw1
      subst cw1
      refine ⟨_, rfl, p, rfl, S03.hand, fun x H5 x0 x1 S35 => ?_⟩
      have S05 := S03.trans S35
      have hL5 := S35.keep _ _ Lp hL3
      have a5 : AllIn (PrAt K H5) ws ps := a3.mono fun _ _ => prAt_stp S35 S03.hand
      refine ⟨_, rfl, _, rfl, _, rfl, L, _, rfl, .inl ⟨SqL.of hL5, fun B hB => ?_⟩⟩
      refine new_step hB fun H6 s6 e6 => ?_
      refine ⟨_, rfl, by show 3 ≤ sizeLine; decide, fun G hG => ?_⟩
      refine new_step hG fun H7 s7 e7 => ?_
      refine ⟨_, rfl, _, rfl, by show 2 ≤ sizeLine; decide, fun W hW => ?_⟩
      refine new_step hW fun H8 s8 e8 => ?_
      refine ⟨_, rfl, by show 2 ≤ sizeLine; decide, fun r1 h1 => ?_⟩
      refine new_step h1 fun H9 s9 e9 => ?_
      refine ⟨by show 2 ≤ sizeLine; decide, fun r2 h2 => ?_⟩
      refine new_step h2 fun H10 s10 e10 => ?_
      refine ⟨by show 2 ≤ sizeLine; decide, fun T hT => ?_⟩
      refine new_step hT fun H11 s11 e11 => ?_
      have s911 := s10.trans s11
      have s811 := s9.trans s911
      have s611 := s7.trans (s8.trans s811)
      have s511 := s6.trans s611
      refine ⟨n, W, L, T, [1, x], ws, ps, [[1, 1], [1, 0]], by rw [en] <;> rfl, hn, SqT.of (s811 _ _ e8), s511 _ _ hL5, a5.mono fun _ _ => PrAt.same s511, l3, ⟨_, SqT.of e11, AllIn.snoc (AllIn.one ⟨r1, rfl, SqT.of (s911 _ _ e9)⟩) ⟨r2, rfl, SqT.of (s11 _ _ e10)⟩⟩, fun d H12 hd s12 hM => ?_⟩
      refine ⟨by show 3 ≤ sizeLine; decide, fun t ht => ?_⟩
      refine new_step ht fun H13 s13 e13 => ?_
      have s12' := s12.trans s13
      have e7' : H13 G = some (.tup [.int (1 + d0), .ref B, .int x]) := (s8.trans (s811.trans s12')) _ _ e7
      rw [← en] at e7'
      have S013 := S05.post (s511.trans s12')
      have dp : d ≠ p := ne_hand (S05.post s511).hand hd
      exact k t G d (.ap n ps x) H13 S013 (SqT.of e13) ⟨B, SqT.of e7', ws, SqT.of ((s611.trans s12') _ _ e6), a5.mono fun _ _ => PrAt.same (s511.trans s12')⟩ (hM.same s13) ⟨hn, o3, l3, x0, x1⟩ dp
    refine ⟨_, rfl, rfl, _, rfl, ?_⟩
    rw [ei]
    refine ite2 (fun cw2 => ?_) (fun cw2 => ?_)
    · have cw2 : wd = 2 := of_decide_eq_true cw2
      subst cw2
      refine ⟨_, rfl, p, 4, rfl, by decide, by decide, S03.hand, fun v0 H5 v1 v2 S35 => ⟨_, _, rfl, rfl, ?_⟩⟩
      obtain ⟨lv, elv⟩ : ∃ lv : Int, lv = 1 + v0 := ⟨_, rfl⟩
      have l1 : 1 ≤ lv := by omega
      have l4 : lv ≤ 4 := by omega
      show gName 7 (.int (1 + v0)) _ _ _
      rw [← elv]
      have S05 := S03.trans S35
      have hL5 := S35.keep _ _ Lp hL3
      have a5 : AllIn (PrAt K H5) ws ps := a3.mono fun _ _ => prAt_stp S35 S03.hand
      refine ⟨_, rfl, _, rfl, by omega, by omega, fun D hD => ?_⟩
      refine lc_range (lo := 0) (n := lv.toNat) (fun i H' => Same H5 H' ∧ ∃ acc : List V, H' D = some (.lst acc) ∧ AllIn (RowAt K H') acc (((upI lv).take i).map fun a => (upI lv).map fun b => if a = b then (0 : Int) else 1)) ⟨Same.new hD, [], upd_same, AllIn.nil⟩ (fun i H2 hi g => ?_) fun H6 g => ?_
      · obtain ⟨s2, acc, d2, a2⟩ := g
        refine ⟨rfl, _, rfl, _, rfl, by omega, by omega, fun D2 hD2 => ?_⟩
        refine lc_range (lo := 0) (n := lv.toNat) (fun j H' => Same H2 H' ∧ H' D2 = some (.lst ((((upI lv).take j).map fun b => if (i : Int) = b then (0 : Int) else 1).map V.int))) ⟨Same.new hD2, upd_same⟩ (fun j H3 hj g => ?_) fun H3 g => ?_
        · obtain ⟨s3, d3⟩ := g
          have put : ∀ x : Int, x = (if (i : Int) = (j : Int) then (0 : Int) else 1) → ∃ ac, H3 D2 = some (.lst ac) ∧ ac.length < sizeLine ∧ Same H2 (upd H3 D2 (.lst (ac ++ [.int x]))) ∧ upd H3 D2 (.lst (ac ++ [.int x])) D2 = some (.lst ((((upI lv).take (j + 1)).map fun b => if (i : Int) = b then (0 : Int) else 1).map V.int)) := fun x hx => by
            refine ⟨_, d3, by rw [List.length_map, List.length_map, List.length_take]; exact small1000 (by omega), s3.mut hD2, ?_⟩
            rw [upd_same, List.take_add_one, upI_get hj, List.map_append, List.map_append, hx] <;> rfl
          refine ⟨rfl, _, rfl, _, rfl, rfl, .inr ⟨_, rfl, put _ ?_⟩⟩
          rw [ei, Int.zero_add, Int.zero_add]
          by_cases c : (i : Int) = (j : Int)
          · rw [if_pos c, decide_eq_true c] <;> rfl
          · rw [if_neg c, decide_eq_false c] <;> rfl
        · obtain ⟨s3, d3⟩ := g
          rw [List.take_of_length_le (by rw [up_len]; exact Nat.le_refl _)] at d3
          refine ⟨D2, _, rfl, .inl ⟨SqL.of d3, fun B hB => ?_⟩⟩
          refine new_step hB fun H4 s4 e4 => ?_
          have d4 := (s3.trans s4) _ _ d2
          refine ⟨acc, d4, by rw [a2.1, List.length_map, List.length_take]; exact small1000 (by omega), (s2.trans (s3.trans s4)).mut hD, acc ++ [.ref B], upd_same, ?_⟩
          rw [List.take_add_one, upI_get hi, List.map_append]
          exact AllIn.snoc (a2.mono fun _ _ h => (h.same (s3.trans s4)).upd d4) (RowAt.upd d4 ⟨B, rfl, SqT.of e4⟩)
      obtain ⟨s6, acc, d6, a6⟩ := g
      rw [List.take_of_length_le (by rw [up_len]; exact Nat.le_refl _)] at a6
      refine ⟨D, _, rfl, .inl ⟨SqL.of d6, fun T hT => ?_⟩⟩
      refine new_step hT fun H7 s7 e7 => ?_
      have s57 := s6.trans s7
      have hL7 := s57 _ _ hL5
      refine ⟨_, rfl, _, rfl, _, rfl, L, _, rfl, .inl ⟨SqL.of hL7, fun B hB => ?_⟩⟩
      refine new_step hB fun H8 s8 e8 => ?_
      refine ⟨_, rfl, by show 3 ≤ sizeLine; decide, fun G hG => ?_⟩
      refine new_step hG fun H9 s9 e9 => ?_
      refine ⟨_, rfl, by show 1 ≤ sizeLine; decide, fun O hO => ?_⟩
      refine new_step hO fun H10 s10 e10 => ?_
      refine ⟨_, rfl, ?_⟩
      refine repRow (xs := [1]) (SqT.of e10) (by simp) (by show 1 ≤ 4; decide) l1 (by omega) fun W H11 s11 hW => ?_
      rw [rep1] at hW
      have s911 := s10.trans s11
      have s811 := s9.trans s911
      have s711 := s8.trans s811
      have s511 := s57.trans s711
      refine ⟨_, rfl, _, rfl, n, W, L, T, _, ws, ps, tabNe lv, by rw [en] <;> rfl, hn, hW, s711 _ _ hL7, a5.mono fun _ _ => PrAt.same s511, l3, ⟨acc, SqT.of (s711 _ _ e7), a6.mono fun _ _ h => h.same (s7.trans s711)⟩, fun d H12 hd s12 hM => ?_⟩
      refine ⟨by show 3 ≤ sizeLine; decide, fun t ht => ?_⟩
      refine new_step ht fun H13 s13 e13 => ?_
      have s12' := s12.trans s13
      have e9' : H13 G = some (.tup [.int (1 + d0), .ref B, .int lv]) := (s911.trans s12') _ _ e9
      rw [← en] at e9'
      have S013 := S05.post (s511.trans s12')
      have dp : d ≠ p := ne_hand (S05.post s511).hand hd
      exact k t G d (.co n ps lv) H13 S013 (SqT.of e13) ⟨B, SqT.of e9', ws, SqT.of ((s811.trans s12') _ _ e8), a5.mono fun _ _ => PrAt.same (s511.trans s12')⟩ (hM.same s13) ⟨hn, o3, l3, l1, l4⟩ dp
    have cw : ¬ wd = 0 := fun z => cw (decide_eq_true z)
    have cw1 : ¬ wd = 1 := fun z => cw1 (decide_eq_true z)
    have cw2 : ¬ wd = 2 := fun z => cw2 (decide_eq_true z)
    have w3 : wd = 3 := by omega
    subst w3
    refine ⟨_, rfl, p, 12, rfl, by decide, by decide, S03.hand, fun r0 H4 r1 r2 S4 => ⟨_, _, rfl, rfl, ?_⟩⟩
    obtain ⟨R, eR⟩ : ∃ R : Nat, (R : Int) = 1 + r0 := ⟨(1 + r0).toNat, by omega⟩
    show gName 9 (.int (1 + r0)) _ _ _
    rw [← eR]
    have R0 : 0 < R := by omega
    have R12 : R ≤ 12 := by omega
    have ed : (12 : Int) / (R : Int) = ((12 / R : Nat) : Int) := (Int.natCast_ediv 12 R).symm
    have q1 : 1 ≤ 12 / R := (Nat.le_div_iff_mul_le R0).mpr (by omega)
    have q2 : 12 / R ≤ 12 := Nat.div_le_self 12 R
    have S04 := S03.trans S4
    refine ⟨_, rfl, _, rfl, _, _, rfl, rfl, ⟨by omega, by omega⟩, p, ((12 / R : Nat) : Int), by rw [← ed] <;> rfl, by omega, by omega, S04.hand, fun c0 H5 c1 c2 S5 => ⟨_, _, rfl, rfl, _, rfl, p, 4, rfl, by decide, by decide, (S04.trans S5).hand, fun m0 H6' m1 m2 S6' => ⟨by show 2 ≤ sizeLine; decide, fun A0 hA0 => ?_⟩⟩⟩
    refine new_step hA0 fun H6 sA eA => ?_
    have S6 := S6'.post sA
    refine ⟨A0, _, rfl, SqT.of eA, rfl, _, _, rfl, _, _, rfl, rfl, ?_⟩
    obtain ⟨C, eC⟩ : ∃ C : Nat, (C : Int) = 1 + c0 := ⟨(1 + c0).toNat, by omega⟩
    obtain ⟨m, em⟩ : ∃ m : Nat, (m : Int) = m0 := ⟨m0.toNat, by omega⟩
    subst em
    have C0 : 0 < C := by omega
    have RC : R * C ≤ 12 := by
      have z : C ≤ 12 / R := by omega
      exact Nat.le_trans (Nat.mul_le_mul_left R z) (Nat.mul_div_le 12 R)
    have m3 : m ≤ 3 := by omega
    have G0 := grid_ok R0 C0 RC
    have S46 := S5.trans S6
    have S06 := S04.trans S46
    have em1 : ((m : Int) + 1).toNat = m + 1 := by omega
    have em2 : (m : Int) + 1 = ((m + 1 : Nat) : Int) := by omega
    refine ⟨_, rfl, _, _, rfl, rfl, _, rfl, by omega, by omega, fun D hD => ?_⟩
    rw [em1]
    refine lc_range (lo := 0) (n := m + 1) (fun i H' => Same H6 H' ∧ ∃ acc : List V, H' D = some (.lst acc) ∧ AllIn (RowAt K H') acc (((upI ((m + 1 : Nat) : Int)).take i).map fun a => (upI ((m + 1 : Nat) : Int)).map fun b => if b ≤ a then (1 : Int) else 0)) ⟨Same.new hD, [], upd_same, AllIn.nil⟩ (fun i H4 hi g => ?_) fun H7 g => ?_
    · obtain ⟨s4, tc, d4, a4⟩ := g
      refine ⟨rfl, _, rfl, _, _, rfl, rfl, _, rfl, by omega, by omega, fun D2 hD2 => ?_⟩
      rw [em1]
      refine lc_range (lo := 0) (n := m + 1) (fun j H' => Same H4 H' ∧ H' D2 = some (.lst ((((upI ((m + 1 : Nat) : Int)).take j).map fun b => if b ≤ (i : Int) then (1 : Int) else 0).map V.int))) ⟨Same.new hD2, upd_same⟩ (fun j H5 hj g => ?_) fun H5 g => ?_
      · obtain ⟨s5, d5⟩ := g
        have put : ∀ x : Int, x = (if (j : Int) ≤ (i : Int) then (1 : Int) else 0) → ∃ ac, H5 D2 = some (.lst ac) ∧ ac.length < sizeLine ∧ Same H4 (upd H5 D2 (.lst (ac ++ [.int x]))) ∧ upd H5 D2 (.lst (ac ++ [.int x])) D2 = some (.lst ((((upI ((m + 1 : Nat) : Int)).take (j + 1)).map fun b => if b ≤ (i : Int) then (1 : Int) else 0).map V.int)) := fun x hx => by
          refine ⟨_, d5, by rw [List.length_map, List.length_map, List.length_take]; exact small1000 (by omega), s5.mut hD2, ?_⟩
          rw [upd_same, List.take_add_one, upI_get (by omega), List.map_append, List.map_append, hx] <;> rfl
        rw [Int.zero_add, Int.zero_add]
        refine ⟨rfl, _, rfl, _, rfl, _, _, rfl, rfl, .inr ⟨_, rfl, put _ ?_⟩⟩
        by_cases c : (j : Int) ≤ (i : Int)
        · rw [if_pos c, decide_eq_true c] <;> rfl
        · rw [if_neg c, decide_eq_false c] <;> rfl
      · obtain ⟨s5, d5⟩ := g
        rw [List.take_of_length_le (by rw [up_len]; omega)] at d5
        refine ⟨D2, _, rfl, .inl ⟨SqL.of d5, fun B2 hB2 => ?_⟩⟩
        refine new_step hB2 fun H6 s6 e6 => ?_
        have d6 := (s5.trans s6) _ _ d4
        refine ⟨tc, d6, by rw [a4.1, List.length_map, List.length_take]; exact small1000 (by omega), (s4.trans (s5.trans s6)).mut hD, tc ++ [.ref B2], upd_same, ?_⟩
        rw [List.take_add_one, upI_get (by omega), List.map_append]
        exact AllIn.snoc (a4.mono fun _ _ h => (h.same (s5.trans s6)).upd d6) (RowAt.upd d6 ⟨B2, rfl, SqT.of e6⟩)
    obtain ⟨s7, tc, d7, a7⟩ := g
    rw [List.take_of_length_le (by rw [up_len]; omega)] at a7
    refine ⟨D, _, rfl, .inl ⟨SqL.of d7, fun T hT => ?_⟩⟩
    refine new_step hT fun H8 s8 e8 => ?_
    have s68 := s7.trans s8
    refine ⟨_, rfl, _, rfl, _, rfl, _, rfl, by show 3 ≤ sizeLine; decide, fun G hG => ?_⟩
    refine new_step hG fun H9 s9 e9 => ?_
    refine ⟨_, rfl, _, rfl, _, _, rfl, rfl, .inr ⟨by omega, by omega⟩, by show 1 ≤ sizeLine; decide, fun O hO => ?_⟩
    refine new_step hO fun H10 s10 e10 => ?_
    refine ⟨_, rfl, _, _, rfl, rfl, ?_⟩
    refine repRow (xs := [1]) (SqT.of e10) (by simp) (by show 1 ≤ 4; decide) (by omega) (by omega) fun W H11 s11 hW => ?_
    rw [rep1, em1] at hW
    refine ⟨_, rfl, _, rfl, R, C, by rw [eC] <;> rfl, R0, C0, RC, fun L2' ws2 H12 hL2 s12 hl2 aL2 => ?_⟩
    have s912 := (s10.trans s11).trans s12
    have s812 := s9.trans s912
    have s612 := s68.trans s812
    have eRC : (R : Int) * (1 + c0) = ((R * C : Nat) : Int) := by rw [Int.natCast_mul, eC]
    refine ⟨_, rfl, ((R * C : Nat) : Int), W, L2', T, List.replicate (m + 1) 1, ws2, stp R C, tabGe ((m + 1 : Nat) : Int), by rw [← eRC] <;> rfl, ⟨by have := Nat.mul_pos R0 C0; omega, by omega⟩, s12.sqT hW, hl2, aL2, by have := G0.len; omega, ⟨tc, SqT.of (s812 _ _ e8), a7.mono fun _ _ h => h.same (s8.trans s812)⟩, fun d H13 hd s13 hM => ?_⟩
    refine ⟨by show 3 ≤ sizeLine; decide, fun t ht => ?_⟩
    refine new_step ht fun H14 s14 e14 => ?_
    have s13' := s13.trans s14
    have e9' : H14 G = some (.tup [.int (R : Int), .int (1 + c0), .int (m : Int)]) := (s912.trans s13') _ _ e9
    rw [← eC] at e9'
    have S014 := S06.post (s612.trans s13')
    have dp : d ≠ p := ne_hand (S06.post s612).hand hd
    exact k t G d (.st R C m) H14 S014 (SqT.of e14) (SqT.of e9') (hM.same s14) ⟨R0, C0, RC, m3⟩ dp
end
end Law

namespace L2
open PySem PySem.Spec PyProof.Rows
/-- sum(xs), a tuple of ints -/
def rSumT (K : PySem.W.Frag) : List V → Hp → VK → Prop := fun vs H Q => ∃ (a : Addr) (ns : List Int), vs = [V.ref a] ∧ SqT K H a (ns.map V.int) ∧ Q (.int ns.sum) H
section
variable {prog : Program} {w : World} {A : Around} {E : Value → Shared → Prop} {Q : Value → Shared → Prop} {s : Shared}
theorem sum_rawT {l : Addr} {its : List Value} {ns : List Int} (hh : A.handled = none) (hl : s.heap.IsTuple l its.toArray) (hi : IntsAre its ns)
    (h : ∀ h' tk t', (∀ b o, s.heap.get? b = some o → h'.get? b = some o) → Q (.int ns.sum t') { s with heap := h', toks := tk }) : wpAny (model prog w) A (call (.builtin "sum") [.ref l]) Q E s := by
  obtain ⟨xs, e⟩ := hi.allInts.items
  have hn : numsOf (intItems xs).toList = ns := by rw [← e]; exact hi.numsOf
  rw [nums_intItems] at hn
  rw [e] at hl
  refine PySem.W.ktm_sumG hh hl fun h' tk t' hk => ?_
  have := h h' tk t' hk
  rw [preSum_eq, List.take_of_length_le (by simp), hn]
  exact this
end
theorem cr_sumT {X : Cx} (hc : X.calm = true) : CallR X (.builtin "sum") (rSumT X.K) := by
  intro pins s σ H vs us Q I r h
  obtain ⟨a, ns, rfl, hs, q⟩ := h
  obtain ⟨its, rv, hl, _⟩ := I.tuple hs
  rw [Vals.ref1 r]
  exact sum_rawT (I.ok.hd hc) hl rv.ints fun h' tk t' hk => ⟨.int _, H, I.kept hk, ⟨_, rfl⟩, q⟩
end L2
namespace L2
open PySem PySem.Spec PyProof.Rows Law
theorem pow_log {a : Int} (a0 : 0 ≤ a) (a1 : a ≤ 1000) {n : Nat} (hn : n ≤ 1000) : (a ^ n).natAbs.log2 ≤ 10000 := by
  obtain ⟨m, rfl⟩ := Int.eq_ofNat_of_zero_le a0
  rw [← Int.natCast_pow, Int.natAbs_natCast]
  have h1 : m ^ n ≤ 1024 ^ n := Nat.pow_le_pow_left (by omega) n
  have h2 : (1024 : Nat) ^ n = 2 ^ (10 * n) := by rw [Nat.pow_mul]
  have h3 : (2 : Nat) ^ (10 * n) ≤ 2 ^ 10000 := Nat.pow_le_pow_right (by decide) (by omega)
  by_cases z : m ^ n = 0
  · rw [z]
    decide
  · have h4 : m ^ n < 2 ^ 10001 := Nat.lt_of_le_of_lt (Nat.le_trans h1 (h2 ▸ h3)) (Nat.pow_lt_pow_right (by decide) (by decide))
    have := (Nat.log2_lt z).mpr h4
    omega
theorem pow_mulW {a b : Int} (a0 : 0 ≤ a) (a1 : a ≤ 1000) (b0 : 0 ≤ b) (b1 : b ≤ 1000) {n m : Nat} (hn : n ≤ 1000) (hm : m ≤ 1000) : CMulW (a ^ n) (b ^ m) := by
  have h1 := pow_log a0 a1 hn
  have h2 := pow_log b0 b1 hm
  show (a ^ n).natAbs.log2 + (b ^ m).natAbs.log2 < 1000000
  omega
theorem pic_sum {n : Int} {ps : List Pr} {x : Int} {p : List Int} (hp : PicOk (mdlG (.ap n ps x)) p) (hn : n ≤ 12 := by omega) : 0 ≤ p.sum ∧ p.sum ≤ 12 := by
  obtain ⟨h1, h2⟩ := hp
  have h1 : (p.length : Int) = n := h1
  have h2 : ∀ y ∈ p, 0 ≤ y ∧ y < 2 := h2
  have key : ∀ l : List Int, (∀ y ∈ l, 0 ≤ y ∧ y < 2) → 0 ≤ l.sum ∧ l.sum ≤ (l.length : Int) := fun l => by
    induction l with
    | nil => exact fun _ => ⟨Int.le_refl _, Int.le_refl _⟩
    | cons y l ih =>
      intro h
      have a := ih fun z hz => h z (List.mem_cons_of_mem _ hz)
      have b := h y List.mem_cons_self
      rw [List.sum_cons, List.length_cons]
      omega
  have := key p h2
  omega
end L2
namespace Law
open PySem L2
section
variable {P : Program} {w : World} {K : PySem.W.Frag} {mg : Str → Option Value} {base : Heap}
def spDueG (K : PySem.W.Frag) : Sp := fun vs H Q _ => ∃ (g : Giv) (a b : Addr) (p : List Int), vs = [.int (wordG g), .ref a, .ref b] ∧ GivAt K H a g ∧ GOk g ∧ SqT K H b (p.map V.int) ∧ PicOk (mdlG g) p ∧ ∀ H', Same H H' → Q (.int (dueG g p)) H'
theorem alike_lc {ps : List Pr} {p : List Int} {i : Nat} {t : Pr} {f : Pr → Bool} (h : ps[i]? = some t) : ((ps.take (i + 1)).filter f).length = ((ps.take i).filter f).length + if f t = true then 1 else 0 := by
  rw [List.take_add_one, h, List.filter_append, List.length_append]
  congr 1
  show ([t].filter f).length = _
  rw [List.filter_cons]
  split <;> rfl
abbrev nLawWeightDue : List Str := ["_law_word", "_law_given", "_law_picture", "_law_alike", "_law_both", "_law_pair"]
theorem scLawWeightDue : FnScope nLawWeightDue ["_law_word", "_law_given", "_law_picture"] (defScope s_law_weight_due) := ⟨rfl, rfl, rfl, by decide +kernel, rfl, by decide +kernel, by decide +kernel⟩
theorem ok_weight_due {f : Addr} {fd : FuncData} {fcFall : Addr} {fdcFall : FuncData} {fcPow : Addr} {fdcPow : FuncData} (F : Fun K "_law_weight_due" "_law_weight_due" s_law_weight_due f fd) (T : NmA mg) (cFall : Cl P w K mg base CX0 1 "_law_falling" fcFall fdcFall ["_law_rows", "_law_columns", "_law_heights"] (spFall K)) (cPow : Cl P w K mg base CX0 1 "_law_power" fcPow fdcPow ["_law_number_here", "_law_many"] spPow) : FnOk P w K mg base CX0 2 f fd ["_law_word", "_law_given", "_law_picture"] (spDueG K) := by
  refine F.ok scLawWeightDue (fun vs H Q E h => ?_) (fun cdv A' outer s H vs Q E hr h => ?_)
  · obtain ⟨g, a, b, p, rfl, _⟩ := h
    rfl
  · obtain ⟨g, a, b, p, rfl, hG, ok, hS, hp, k⟩ := h
    have hu := hu_of hr
    refine ⟨_, pss_cons (ps_if (pt_cmpR op_eq (pv 0) pe_int (nomark _))
        (pss_one (ps_ret (pe_callTy call_int1 (by rfl) T.int (by decide +kernel) (pa_cons (cFall.call (hr.mono (by decide)) (pa_cons (pe_ix ix_tup (pv 1) pe_int (fun _ _ => rfl)) (pa_cons (pe_ix ix_tup (pv 1) pe_int (fun _ _ => rfl)) (pa_cons (pv 2) pa_nil)))) pa_nil)))) pss_nil)
      (pss_cons (ps_set (i := 3) scLawWeightDue.nd rfl (Or.inl rfl) (pe_callB call_len_seq (by rfl) T.len PySem.boot_len (pa_cons (pe_lc (own := [("_law_pair", 5)]) (g := (gName 5)) (tt := _) rfl scLawWeightDue.nd  (pi_tup (pe_ix ix_tup (pv 1) pe_int (fun _ _ => rfl))) (blkOk_by (own := [("_law_pair", 5)]) (N := nLawWeightDue) (sc := defScope s_law_weight_due) (by decide +kernel)) (fun _ _ _ _ _ => (pg_name (i := 5) scLawWeightDue.nd rfl (Or.inl rfl))) (fun _ _ _ _ _ => (pts_one (pt_cmpR op_eq (pe_ix (r := rIxT K) (show IxR _ (rIxT K) from ix_tup) (pv 2) (pe_ix (r := rIxT K) (show IxR _ (rIxT K) from ix_tup) (pv 5) pe_int (fun _ _ => rfl)) (fun _ _ => rfl)) (pe_ix (r := rIxT K) (show IxR _ (rIxT K) from ix_tup) (pv 2) (pe_ix (r := rIxT K) (show IxR _ (rIxT K) from ix_tup) (pv 5) pe_int (fun _ _ => rfl)) (fun _ _ => rfl)) (nomark _)))) (fun _ _ _ _ _ => (pv 5))) pa_nil)))
      (pss_cons (ps_if (pt_cmpR op_eq (pv 0) pe_int (nomark _))
        (pss_one (ps_ret (pe_op op_mulW (cPow.call (hr.mono (by decide)) (pa_cons (pe_ix ix_tup (pv 1) pe_int (fun _ _ => rfl)) (pa_cons (pv 3) pa_nil))) (cPow.call (hr.mono (by decide)) (pa_cons (pe_ix ix_tup (pv 1) pe_int (fun _ _ => rfl)) (pa_cons (pe_op op_sub (pe_callB call_len_seq (by rfl) T.len PySem.boot_len (pa_cons (pe_ix ix_tup (pv 1) pe_int (fun _ _ => rfl)) pa_nil)) (pv 3)) pa_nil)))))) pss_nil)
      (pss_cons (ps_if (pt_cmpR op_eq (pv 0) pe_int (nomark _))
        (pss_one (ps_ret (pe_callTy call_int1 (by rfl) T.int (by decide +kernel) (pa_cons (pe_cmpR op_eq (pv 3) pe_int (nomark _)) pa_nil)))) pss_nil)
      (pss_cons (ps_setLc (i := 4) (own := [("_law_pair", 5)]) (g := (gName 5)) (tt := _) (by rfl) scLawWeightDue.nd rfl rfl (sw_true rfl rfl rfl (by decide +kernel)) (pi_tup (pe_ix ix_tup (pv 1) pe_int (fun _ _ => rfl))) (blkOk_by (own := [("_law_pair", 5)]) (N := nLawWeightDue) (sc := defScope s_law_weight_due) (by decide +kernel)) (fun _ _ _ _ _ => (pg_name (i := 5) scLawWeightDue.nd rfl (Or.inl rfl))) (fun _ _ _ _ _ => (pts_one (PW.pt (pw_and (pt_cmpR op_eq (pe_ix (r := rIxT K) (show IxR _ (rIxT K) from ix_tup) (pv 2) (pe_ix (r := rIxT K) (show IxR _ (rIxT K) from ix_tup) (pv 5) pe_int (fun _ _ => rfl)) (fun _ _ => rfl)) pe_int (nomark _)) (pw_and1 (pt_cmpR op_eq (pe_ix (r := rIxT K) (show IxR _ (rIxT K) from ix_tup) (pv 2) (pe_ix (r := rIxT K) (show IxR _ (rIxT K) from ix_tup) (pv 5) pe_int (fun _ _ => rfl)) (fun _ _ => rfl)) pe_int (nomark _))))))) (fun _ _ _ _ _ => (pv 5)))
      (pss_one (ps_ret (pe_ifExp (pt_cmpR op_eq (pe_callB call_len_seq (by rfl) T.len PySem.boot_len (pa_cons (pv 4) pa_nil)) pe_int (nomark _)) (cPow.call (hr.mono (by decide)) (pa_cons (pe_ix ix_tup (pv 1) pe_int (fun _ _ => rfl)) (pa_cons (pe_callB (cr_sumT rfl) (by rfl) T.sum (by decide +kernel) (pa_cons (pv 2) pa_nil)) pa_nil))) pe_int))))))), ?_⟩
    cases g with
    | st R C m =>
      obtain ⟨hR, hC, h12, m3⟩ := id ok
      have hG : SqT K H a [.int (R : Nat), .int (C : Nat), .int (m : Nat)] := hG
      have hl : p.length = R * C := by have := hp.1; have e : (mdlG (.st R C m)).many = ((R * C : Nat) : Int) := rfl; omega
      refine ⟨_, rfl, rfl, _, rfl, iteT ?_⟩
      refine ⟨_, rfl, a, _, _, _, rfl, rfl, hG, rfl, _, rfl, a, _, _, _, rfl, rfl, hG, rfl, _, rfl, R, C, b, p, rfl, hR, hC, h12, hS, hl, fun H1 s1 => .inr ⟨_, rfl, ?_⟩⟩
      exact k H1 s1
    | sp n ps x y =>
      obtain ⟨hn, hps, hl, ⟨x0, x1⟩, y0, y1⟩ := id ok
      obtain ⟨q, hq, us, hT, aT⟩ := hG
      have pl : (p.length : Int) = n := hp.1
      refine ⟨_, rfl, rfl, _, rfl, iteF ?_⟩
      refine ⟨_, rfl, a, _, _, _, rfl, rfl, hq, rfl, q, rfl, ⟨_, hT⟩, fun D hD => ?_⟩
      refine lc_tup (K := K) (a := q) (xs := us) (fun i H' => Same H H' ∧ ∃ acc : List V, H' D = some (.lst acc) ∧ acc.length = alikeN p (ps.take i)) ⟨Same.new hD, [], upd_same, rfl⟩ (fun i H' _ h => h.1.sqT hT) (fun i v H1 hi g => ?_) fun H1 g => ?_
      · obtain ⟨s1, acc, d1, l1⟩ := g
        obtain ⟨t, ht, e, rfl, r⟩ := aT.2 i v hi
        obtain ⟨b0, b1, b2⟩ := hps.b t (List.mem_of_getElem? ht)
        have il := (List.getElem?_eq_some_iff.mp ht).1
        have q1 : atI (p.map V.int) t.1 = some (.int (gI p t.1)) := atI_gI b0 (by omega)
        have q2 : atI (p.map V.int) t.2 = some (.int (gI p t.2)) := atI_gI (by omega) (by omega)
        have al := alike_lc (p := p) (f := fun t => decide (gI p t.1 = gI p t.2)) ht
        refine ⟨rfl, _, rfl, _, rfl, e, _, _, _, rfl, rfl, s1.sqT r, rfl, b, _, _, _, rfl, rfl, s1.sqT hS, q1, _, rfl, _, rfl, e, _, _, _, rfl, rfl, s1.sqT r, rfl, b, _, _, _, rfl, rfl, s1.sqT hS, q2, rfl, _, rfl, ?_⟩
        rw [ei]
        refine ite2 (fun c => ?_) (fun c => ?_)
        · rw [if_pos c] at al
          refine ⟨_, rfl, acc, d1, ?_, s1.mut hD, acc ++ [.ref e], upd_same, by rw [List.length_append, l1]; exact al.symm⟩
          have z := alike_le p (ps.take i)
          rw [List.length_take] at z
          rw [l1]
          exact small1000 (by omega)
        · rw [if_neg c, Nat.add_zero] at al
          exact ⟨s1, acc, d1, by rw [l1]; exact al.symm⟩
      obtain ⟨s1, acc, d1, l1⟩ := g
      rw [aT.1, List.take_length] at l1
      refine ⟨D, _, rfl, .inl (SqL.of d1), ?_⟩
      rw [l1]
      have hq1 := s1.sqT hq
      have hT1 := s1.sqT hT
      have al := alike_le p ps
      refine ⟨_, rfl, rfl, _, rfl, iteT ?_⟩
      refine ⟨_, rfl, a, _, _, _, rfl, rfl, hq1, rfl, _, rfl, x, alikeN p ps, rfl, x0, x1, by omega, fun H2 s2 => ?_⟩
      have hq2 := s2.sqT hq1
      refine ⟨_, rfl, a, _, _, _, rfl, rfl, hq2, rfl, _, rfl, a, _, _, _, rfl, rfl, hq2, rfl, q, _, rfl, .inr (s2.sqT hT1), _, rfl, _, _, rfl, rfl, y, ps.length - alikeN p ps, ?_, y0, y1, by omega, fun H3 s3 => ⟨_, _, rfl, rfl, pow_mulW x0 x1 y0 y1 (by omega) (by omega), k H3 ((s1.trans s2).trans s3)⟩⟩
      have eq : ((us.length : Nat) : Int) - (alikeN p ps : Nat) = ((ps.length - alikeN p ps : Nat) : Int) := by rw [aT.1]; omega
      rw [← eq] <;> rfl
    | ap n ps x =>
      obtain ⟨hn, hps, hl, x0, x1⟩ := id ok
      obtain ⟨q, hq, us, hT, aT⟩ := hG
      have pl : (p.length : Int) = n := hp.1
      refine ⟨_, rfl, rfl, _, rfl, iteF ?_⟩
      refine ⟨_, rfl, a, _, _, _, rfl, rfl, hq, rfl, q, rfl, ⟨_, hT⟩, fun D hD => ?_⟩
      refine lc_tup (K := K) (a := q) (xs := us) (fun i H' => Same H H' ∧ ∃ acc : List V, H' D = some (.lst acc) ∧ acc.length = alikeN p (ps.take i)) ⟨Same.new hD, [], upd_same, rfl⟩ (fun i H' _ h => h.1.sqT hT) (fun i v H1 hi g => ?_) fun H1 g => ?_
      · obtain ⟨s1, acc, d1, l1⟩ := g
        obtain ⟨t, ht, e, rfl, r⟩ := aT.2 i v hi
        obtain ⟨b0, b1, b2⟩ := hps.b t (List.mem_of_getElem? ht)
        have il := (List.getElem?_eq_some_iff.mp ht).1
        have q1 : atI (p.map V.int) t.1 = some (.int (gI p t.1)) := atI_gI b0 (by omega)
        have q2 : atI (p.map V.int) t.2 = some (.int (gI p t.2)) := atI_gI (by omega) (by omega)
        have al := alike_lc (p := p) (f := fun t => decide (gI p t.1 = gI p t.2)) ht
        refine ⟨rfl, _, rfl, _, rfl, e, _, _, _, rfl, rfl, s1.sqT r, rfl, b, _, _, _, rfl, rfl, s1.sqT hS, q1, _, rfl, _, rfl, e, _, _, _, rfl, rfl, s1.sqT r, rfl, b, _, _, _, rfl, rfl, s1.sqT hS, q2, rfl, _, rfl, ?_⟩
        rw [ei]
        refine ite2 (fun c => ?_) (fun c => ?_)
        · rw [if_pos c] at al
          refine ⟨_, rfl, acc, d1, ?_, s1.mut hD, acc ++ [.ref e], upd_same, by rw [List.length_append, l1]; exact al.symm⟩
          have z := alike_le p (ps.take i)
          rw [List.length_take] at z
          rw [l1]
          exact small1000 (by omega)
        · rw [if_neg c, Nat.add_zero] at al
          exact ⟨s1, acc, d1, by rw [l1]; exact al.symm⟩
      obtain ⟨s1, acc, d1, l1⟩ := g
      rw [aT.1, List.take_length] at l1
      refine ⟨D, _, rfl, .inl (SqL.of d1), ?_⟩
      rw [l1]
      have hq1 := s1.sqT hq
      have hT1 := s1.sqT hT
      have al := alike_le p ps
      refine ⟨_, rfl, rfl, _, rfl, iteF ⟨_, rfl, rfl, _, rfl, iteF ?_⟩⟩
      refine ⟨_, rfl, a, _, _, _, rfl, rfl, hq1, rfl, q, rfl, ⟨_, hT1⟩, fun D2 hD2 => ?_⟩
      refine lc_tup (K := K) (a := q) (xs := us) (fun i H' => Same H1 H' ∧ ∃ acc : List V, H' D2 = some (.lst acc) ∧ acc.length = bothN p (ps.take i)) ⟨Same.new hD2, [], upd_same, rfl⟩ (fun i H' _ h => h.1.sqT hT1) (fun i v H2 hi g => ?_) fun H2 g => ?_
      · obtain ⟨s2, ac, d2, l2⟩ := g
        obtain ⟨t, ht, e, rfl, r⟩ := aT.2 i v hi
        obtain ⟨b0, b1, b2⟩ := hps.b t (List.mem_of_getElem? ht)
        have il := (List.getElem?_eq_some_iff.mp ht).1
        have s12 := s1.trans s2
        have q1 : atI (p.map V.int) t.1 = some (.int (gI p t.1)) := atI_gI b0 (by omega)
        have q2 : atI (p.map V.int) t.2 = some (.int (gI p t.2)) := atI_gI (by omega) (by omega)
        have al := alike_lc (p := p) (f := fun t => decide (gI p t.1 = 1) && decide (gI p t.2 = 1)) ht
        refine ⟨rfl, _, rfl, _, rfl, e, _, _, _, rfl, rfl, s12.sqT r, rfl, b, _, _, _, rfl, rfl, s12.sqT hS, q1, rfl, _, rfl, ?_⟩
        rw [ei]
        refine ite2 (fun c => ?_) (fun c => ?_)
        · refine ⟨_, rfl, _, rfl, e, _, _, _, rfl, rfl, s12.sqT r, rfl, b, _, _, _, rfl, rfl, s12.sqT hS, q2, rfl, _, rfl, ?_⟩
          rw [ei]
          refine ite2 (fun c2 => ?_) (fun c2 => ?_)
          · rw [if_pos (by rw [c, c2] <;> rfl)] at al
            refine ⟨_, rfl, ac, d2, ?_, s2.mut hD2, ac ++ [.ref e], upd_same, by rw [List.length_append, l2]; exact al.symm⟩
            have z : bothN p (ps.take i) ≤ (ps.take i).length := List.length_filter_le _ _
            rw [List.length_take] at z
            rw [l2]
            exact small1000 (by omega)
          · rw [if_neg (by rw [Bool.and_eq_true]; exact fun z => c2 z.2), Nat.add_zero] at al
            exact ⟨s2, ac, d2, by rw [l2]; exact al.symm⟩
        · rw [if_neg (by rw [Bool.and_eq_true]; exact fun z => c z.1), Nat.add_zero] at al
          exact ⟨s2, ac, d2, by rw [l2]; exact al.symm⟩
      obtain ⟨s2, ac, d2, l2⟩ := g
      rw [aT.1, List.take_length] at l2
      have s12 := s1.trans s2
      refine ⟨_, rfl, D2, _, rfl, .inl (SqL.of d2), rfl, _, rfl, ?_⟩
      rw [l2, ei]
      have z : ∀ H', Same H H' → Q (.int (if bothN p ps = 0 then x ^ p.sum.toNat else 0)) H' := k
      have sm := pic_sum hp
      refine ite2 (fun c => ?_) (fun c => ?_)
      · have c := of_decide_eq_true c
        rw [if_pos (by omega)] at z
        refine ⟨_, rfl, a, _, _, _, rfl, rfl, s2.sqT hq1, rfl, _, rfl, b, p, rfl, s12.sqT hS, x, p.sum.toNat, by rw [show ((p.sum.toNat : Nat) : Int) = p.sum by omega] <;> rfl, x0, x1, by omega, fun H3 s3 => z H3 (s12.trans s3)⟩
      · have c : ¬ ((bothN p ps : Nat) : Int) = 0 := fun y => c (decide_eq_true y)
        rw [if_neg (by omega)] at z
        exact z H2 s12
    | co n ps lv =>
      obtain ⟨hn, hps, hl, v1, v4⟩ := id ok
      obtain ⟨q, hq, us, hT, aT⟩ := hG
      have pl : (p.length : Int) = n := hp.1
      refine ⟨_, rfl, rfl, _, rfl, iteF ?_⟩
      refine ⟨_, rfl, a, _, _, _, rfl, rfl, hq, rfl, q, rfl, ⟨_, hT⟩, fun D hD => ?_⟩
      refine lc_tup (K := K) (a := q) (xs := us) (fun i H' => Same H H' ∧ ∃ acc : List V, H' D = some (.lst acc) ∧ acc.length = alikeN p (ps.take i)) ⟨Same.new hD, [], upd_same, rfl⟩ (fun i H' _ h => h.1.sqT hT) (fun i v H1 hi g => ?_) fun H1 g => ?_
      · obtain ⟨s1, acc, d1, l1⟩ := g
        obtain ⟨t, ht, e, rfl, r⟩ := aT.2 i v hi
        obtain ⟨b0, b1, b2⟩ := hps.b t (List.mem_of_getElem? ht)
        have il := (List.getElem?_eq_some_iff.mp ht).1
        have q1 : atI (p.map V.int) t.1 = some (.int (gI p t.1)) := atI_gI b0 (by omega)
        have q2 : atI (p.map V.int) t.2 = some (.int (gI p t.2)) := atI_gI (by omega) (by omega)
        have al := alike_lc (p := p) (f := fun t => decide (gI p t.1 = gI p t.2)) ht
        refine ⟨rfl, _, rfl, _, rfl, e, _, _, _, rfl, rfl, s1.sqT r, rfl, b, _, _, _, rfl, rfl, s1.sqT hS, q1, _, rfl, _, rfl, e, _, _, _, rfl, rfl, s1.sqT r, rfl, b, _, _, _, rfl, rfl, s1.sqT hS, q2, rfl, _, rfl, ?_⟩
        rw [ei]
        refine ite2 (fun c => ?_) (fun c => ?_)
        · rw [if_pos c] at al
          refine ⟨_, rfl, acc, d1, ?_, s1.mut hD, acc ++ [.ref e], upd_same, by rw [List.length_append, l1]; exact al.symm⟩
          have z := alike_le p (ps.take i)
          rw [List.length_take] at z
          rw [l1]
          exact small1000 (by omega)
        · rw [if_neg c, Nat.add_zero] at al
          exact ⟨s1, acc, d1, by rw [l1]; exact al.symm⟩
      obtain ⟨s1, acc, d1, l1⟩ := g
      rw [aT.1, List.take_length] at l1
      refine ⟨D, _, rfl, .inl (SqL.of d1), ?_⟩
      rw [l1]
      have hq1 := s1.sqT hq
      have hT1 := s1.sqT hT
      have al := alike_le p ps
      refine ⟨_, rfl, rfl, _, rfl, iteF ⟨_, rfl, rfl, _, rfl, iteT ?_⟩⟩
      refine ⟨_, rfl, rfl, .inr ⟨_, rfl, ?_⟩⟩
      rw [ei]
      have z := k H1 s1
      have z : Q (.int (if alikeN p ps = 0 then 1 else 0)) H1 := z
      by_cases c : alikeN p ps = 0
      · rw [if_pos c] at z
        rw [decide_eq_true (by omega)]
        exact z
      · rw [if_neg c] at z
        rw [decide_eq_false (by omega)]
        exact z
def spCalled (K : PySem.W.Frag) (C : Addr) : Sp := fun vs H Q _ => ∃ (g : Giv) (a : Addr), vs = [.int (wordG g), .ref a] ∧ GivAt K H a g ∧ GOk g ∧ ∀ (y : Addr) (H' : Hp), H y = none → Same H H' → ModAt K C H' y (mdlG g) → Q (.ref y) H'
abbrev nLawCalled : List Str := ["_law_word", "_law_given"]
theorem scLawCalled : FnScope nLawCalled ["_law_word", "_law_given"] (defScope s_law_called) := ⟨rfl, rfl, rfl, by decide +kernel, rfl, by decide +kernel, by decide +kernel⟩
theorem ok_called {f : Addr} {fd : FuncData} {fcSpins : Addr} {fdcSpins : FuncData} {fcSta : Addr} {fdcSta : FuncData} {fcApart : Addr} {fdcApart : FuncData} {fcCol : Addr} {fdcCol : FuncData} {C : Addr} (F : Fun K "_law_called" "_law_called" s_law_called f fd) (T : NmA mg) (cSpins : Cl P w K mg base CX0 9 "spins" fcSpins fdcSpins ["many", "pairs", "same", "other"] (spSpins K C)) (cSta : Cl P w K mg base CX0 9 "stacks" fcSta fdcSta ["rows", "columns", "most"] (spSta K C)) (cApart : Cl P w K mg base CX0 9 "sets_apart" fcApart fdcApart ["many", "pairs", "number"] (spApart K C)) (cCol : Cl P w K mg base CX0 9 "colourings" fcCol fdcCol ["many", "pairs", "values"] (spCol K C)) : FnOk P w K mg base CX0 10 f fd ["_law_word", "_law_given"] (spCalled K C) := by
  refine F.ok scLawCalled (fun vs H Q E h => ?_) (fun cdv A' outer s H vs Q E hr h => ?_)
  · obtain ⟨g, a, rfl, _⟩ := h
    rfl
  · obtain ⟨g, a, rfl, hG, ok, k⟩ := h
    have hu := hu_of hr
    refine ⟨_, pss_cons (ps_if (pt_cmpR op_eq (pv 0) pe_int (nomark _))
        (pss_one (ps_ret (cSpins.call (hr.mono (by decide)) (pa_cons (pe_ix ix_tup (pv 1) pe_int (fun _ _ => rfl)) (pa_cons (pe_ix ix_tup (pv 1) pe_int (fun _ _ => rfl)) (pa_cons (pe_ix ix_tup (pv 1) pe_int (fun _ _ => rfl)) (pa_cons (pe_ix ix_tup (pv 1) pe_int (fun _ _ => rfl)) pa_nil))))))) pss_nil)
      (pss_cons (ps_if (pt_cmpR op_eq (pv 0) pe_int (nomark _))
        (pss_one (ps_ret (cSta.call (hr.mono (by decide)) (pa_cons (pe_ix ix_tup (pv 1) pe_int (fun _ _ => rfl)) (pa_cons (pe_ix ix_tup (pv 1) pe_int (fun _ _ => rfl)) (pa_cons (pe_ix ix_tup (pv 1) pe_int (fun _ _ => rfl)) pa_nil)))))) pss_nil)
      (pss_one (ps_ret (pe_ifExp (pt_cmpR op_eq (pv 0) pe_int (nomark _)) (cApart.call (hr.mono (by decide)) (pa_cons (pe_ix ix_tup (pv 1) pe_int (fun _ _ => rfl)) (pa_cons (pe_ix ix_tup (pv 1) pe_int (fun _ _ => rfl)) (pa_cons (pe_ix ix_tup (pv 1) pe_int (fun _ _ => rfl)) pa_nil)))) (cCol.call (hr.mono (by decide)) (pa_cons (pe_ix ix_tup (pv 1) pe_int (fun _ _ => rfl)) (pa_cons (pe_ix ix_tup (pv 1) pe_int (fun _ _ => rfl)) (pa_cons (pe_ix ix_tup (pv 1) pe_int (fun _ _ => rfl)) pa_nil)))))))), ?_⟩
    cases g with
    | st R C' m =>
      have hG : SqT K H a [.int (R : Nat), .int (C' : Nat), .int (m : Nat)] := hG
      refine ⟨_, rfl, rfl, _, rfl, iteF ⟨_, rfl, rfl, _, rfl, iteT ?_⟩⟩
      exact ⟨_, rfl, a, _, _, _, rfl, rfl, hG, rfl, _, rfl, a, _, _, _, rfl, rfl, hG, rfl, _, rfl, a, _, _, _, rfl, rfl, hG, rfl, R, C', m, rfl, ok, k⟩
    | sp n ps x y =>
      obtain ⟨q, hq, hP⟩ := hG
      refine ⟨_, rfl, rfl, _, rfl, iteT ?_⟩
      exact ⟨_, rfl, a, _, _, _, rfl, rfl, hq, rfl, _, rfl, a, _, _, _, rfl, rfl, hq, rfl, _, rfl, a, _, _, _, rfl, rfl, hq, rfl, _, rfl, a, _, _, _, rfl, rfl, hq, rfl, n, q, ps, x, y, rfl, hP, ok, k⟩
    | ap n ps x =>
      obtain ⟨q, hq, hP⟩ := hG
      refine ⟨_, rfl, rfl, _, rfl, iteF ⟨_, rfl, rfl, _, rfl, iteF ⟨_, rfl, rfl, _, rfl, iteT ?_⟩⟩⟩
      exact ⟨_, rfl, a, _, _, _, rfl, rfl, hq, rfl, _, rfl, a, _, _, _, rfl, rfl, hq, rfl, _, rfl, a, _, _, _, rfl, rfl, hq, rfl, n, q, ps, x, rfl, hP, ok, k⟩
    | co n ps lv =>
      obtain ⟨q, hq, hP⟩ := hG
      refine ⟨_, rfl, rfl, _, rfl, iteF ⟨_, rfl, rfl, _, rfl, iteF ⟨_, rfl, rfl, _, rfl, iteF ?_⟩⟩⟩
      exact ⟨_, rfl, a, _, _, _, rfl, rfl, hq, rfl, _, rfl, a, _, _, _, rfl, rfl, hq, rfl, _, rfl, a, _, _, _, rfl, rfl, hq, rfl, n, q, ps, lv, rfl, hP, ok, k⟩
end
end Law

namespace SrtO
open PySem PySem.Spec PyProof.Rows
section
variable {prog : Program} {w : World} {A : Around} {E : Value → Shared → Prop} {s : Shared}
theorem collect_tup {l : Addr} {vs : List Value} {Q : List Value → Shared → Prop} (hl : s.heap.IsTuple l vs.toArray)
    (h : Q vs { s with heap := (s.heap.push (seqObj "list" #[] 0)).update s.heap.objs.size (Obj.mapSeq (· ++ vs.toArray)) }) (hsz : vs.length ≤ sizeLine := by size_fits) :
    wpAny (model prog w) A (collect (.ref l)) Q E s := by
  obtain ⟨o, ho, hc, n, hd⟩ := id hl
  unfold collect
  refine wpAny_bind (wpAny_runValue (codeAny_builtin entry_proto_collect' ?_))
  show wpAny _ _ (do again (.builtin "list.__iadd__" ⟨[← newList [], .ref l], []⟩)) _ _ s
  refine wpAny_bind (wpAny_newList (wpAny_pure ⟨Code.quiet_builtin _ (by decide +kernel), codeAny_builtin entry_list_iadd' ?_⟩))
  show wpAny _ _ (Builtin.List.listExtendWith (.ref s.heap.objs.size) (.ref l) (.ref s.heap.objs.size)) _ _ { s with heap := s.heap.push (seqObj "list" #[] 0) }
  unfold Builtin.List.listExtendWith
  have ho' : (s.heap.push (seqObj "list" #[] 0)).get? l = some o := Heap.get?_push_of_some _ ho
  refine wpAny_bind (wpAny_typeOf (T := "tuple") ⟨o, ho', hc⟩ ?_)
  have ht : (Value.type "tuple" == Value.type "tuple") = true := by rfl
  rw [if_pos (by rw [ht]; simp)]
  refine wpAny_bind (listItems_at ho' hd ?_)
  refine wpAny_bind (listItems_at (xs := #[]) (n := 0) (Heap.get?_push_size _ rfl) rfl ?_)
  rw [if_neg (by simp)]
  refine wpAny_bind (listUpdate_at (xs := #[]) (n := 0) (Heap.get?_push_size _ rfl) rfl ?_ (Nat.zero_le _) (by show (#[] ++ vs.toArray).size ≤ sizeLine + 1; simp only [Array.size_append, List.size_toArray, List.length_nil]; omega))
  refine wpAny_pure ?_
  show wpAny (model prog w) A (do
      let o ← load s.heap.objs.size
      match o.data with
      | .seq xs _ => pure xs.toList
      | _ => unsupported "internal:collect") Q E { s with heap := (s.heap.push (seqObj "list" #[] 0)).update s.heap.objs.size (Obj.mapSeq (· ++ vs.toArray)) }
  refine wpAny_bind (wpAny_load (get?_update_seq (Heap.get?_push_size _ rfl) _) ?_)
  show wpAny _ _ (pure ((#[] : Array Value) ++ vs.toArray).toList) Q E _
  rw [show ((#[] : Array Value) ++ vs.toArray).toList = vs by simp]
  exact wpAny_pure h
theorem sorted_tup {l : Addr} {vs : List Value} {ltv : Value → Value → Bool} {Q : Value → Shared → Prop} (O : Swo ltv) (hl : s.heap.IsTuple l vs.toArray) (hz : vs.length ≤ sizeLine)
    (hS : 2 ≤ vs.length → ∀ (h₁ : Heap) (a : Addr), SortableO prog w A.in1.in1 { s with heap := h₁ } a vs ltv)
    (h : ∀ out : List Value, Srtd ltv out → Stb ltv out vs → Q (.ref (s.heap.objs.size + 1)) { s with heap := sortedAll s.heap vs out.toArray }) :
    wpAny (model prog w) A (call (.builtin "sorted") [.ref l]) Q E s := by
  refine Calls.call_function_entry kind_sorted plain_sorted entry_sorted (args_sorted1 _) ?_
  unfold Builtin.«sorted»
  refine wpAny_bind (m := checkCount "sorted" 1 1 _) (wpAny_pure ?_)
  refine wpAny_bind (collect_tup hl ?_ hz)
  refine wpAny_bind (wpAny_newList ?_ hz)
  have hsz : ((s.heap.push (seqObj "list" #[] 0)).update s.heap.objs.size (Obj.mapSeq (· ++ vs.toArray))).objs.size = s.heap.objs.size + 1 := by
    rw [Heap.size_update, size_push']
  have hoL : (((s.heap.push (seqObj "list" #[] 0)).update s.heap.objs.size (Obj.mapSeq (· ++ vs.toArray))).push (seqObj "list" vs.toArray 0)).get? (s.heap.objs.size + 1) = some (seqObj "list" vs.toArray 0) := by
    rw [← hsz]; exact Heap.get?_push_size _ rfl
  show wpAny _ _ _ _ _ { s with heap := ((s.heap.push (seqObj "list" #[] 0)).update s.heap.objs.size (Obj.mapSeq (· ++ vs.toArray))).push (seqObj "list" vs.toArray 0) }
  rw [hsz]
  refine wpAny_bind (wpAny_holding (wpAny_call_entry slot_list_sort ⟨_, hoL, rfl⟩ entry_list_sort (list_sort_ord O hoL hz (fun h2 => hS h2 _ _) fun out hs hb => ⟨_, rfl, ?_⟩) (args_list_sort _)))
  exact wpAny_pure ⟨_, rfl, h out hs hb⟩
end
end SrtO
namespace L2
open PySem PySem.Spec PyProof.Rows
/-- sorted(xs), a tuple of ints -/
def rSortedIT (K : PySem.W.Frag) : List V → Hp → VK → Prop := fun vs H Q => ∃ (a : Addr) (ns : List Int), vs = [V.ref a] ∧ SqT K H a (ns.map V.int) ∧ ns.length ≤ 1000 ∧
  ∀ (ns' : List Int) (p : Addr), ns'.Perm ns → ns'.Pairwise (· ≤ ·) → H p = none → Q (.ref p) (upd H p (.lst (ns'.map V.int)))
theorem cr_sortedIT {X : Cx} : CallR X (.builtin "sorted") (rSortedIT X.K) := by
  intro pins s σ H vs us Q I r h
  obtain ⟨a, ns, rfl, hs, h1000, q⟩ := h
  obtain ⟨its, rv, hl, _⟩ := I.tuple hs
  rw [Vals.ref1 r]
  have hi := rv.ints
  have hz : ns.length ≤ sizeLine := by rw [sizeLine_eq]; omega
  refine SrtO.sorted_tup SrtO.swo_int hl (by rw [← rv.length, List.length_map]; exact hz) (fun h2 h₁ a' => SrtO.ints_sortable hi h2) fun out h1 h2 => ?_
  obtain ⟨k1, k2, k3⟩ := SrtO.ints_out hi h1 h2
  obtain ⟨ep, he'⟩ := PyProof.Rows.sortedAll_at s.heap its out.toArray
  have hlen : ((out.map SrtO.iv).map V.int).length ≤ sizeLine := by
    rw [List.length_map, k2.length_eq]
    exact hz
  exact ⟨.ref _, upd H (s.heap.objs.size + 1) (.lst ((out.map SrtO.iv).map V.int)), I.laid (t' := s.toks) (fun _ _ => PyProof.Rows.sortedAll_old) (Nat.le_succ _) ⟨hlen, out, ep, vals_of_ints k1, he'⟩, rfl, q _ _ k2 k3 (I.hok.fresh (Nat.le_succ _))⟩
end L2
namespace Law
open PySem L2
def listD (l : List (List Int)) : PyData := .list (l.map tupD)
theorem lay_listD (l : List (List Int)) : (listD l).canLay0 = true ∧ (listD l).depth ≤ 2 := by
  have h := lay_all tupD 1 lay_tupD l
  unfold listD
  rw [PyData.canLay0, PyData.depth]
  exact ⟨h.1, by omega⟩
theorem dp_list {K : PySem.W.Frag} {H : Hp} {a : Addr} {ws : List V} {l : List (List Int)} (h : H a = some (.lst ws)) (g : AllIn (RowAt K H) ws l) : Dp K H (.ref a) (listD l) := .lst (SqL.of h) (dp_all (g := tupD) (fun _ _ => dp_row) g)
def fourD (m : Mdl) : PyData := .tuple [.int m.many, .int m.levels, tabD m.ws, tiesD m.ts]
theorem lay_fourD (m : Mdl) : (fourD m).canLay0 = true ∧ (fourD m).depth ≤ 5 := by
  have h1 := lay_tabD m.ws
  have h2 := lay_tiesD m.ts
  unfold fourD
  rw [PyData.canLay0, PyData.canLayAll0, PyData.canLayAll0, PyData.canLayAll0, PyData.canLayAll0, PyData.canLayAll0, PyData.depth, PyData.depthAll, PyData.depthAll, PyData.depthAll, PyData.depthAll, PyData.depthAll, h1.1, h2.1, (lay_int m.many).1, (lay_int m.levels).1]
  have h3 := (lay_int m.many).2
  have h4 := (lay_int m.levels).2
  exact ⟨rfl, by omega⟩
theorem dp_four {K : PySem.W.Frag} {H : Hp} {A w t : Addr} {m : Mdl} (h : SqT K H A [.int m.many, .int m.levels, .ref w, .ref t]) (hw : RowsAt K H w m.ws) (ht : TiesAt K H t m.ts) : Dp K H (.ref A) (fourD m) := .tup h (.cons (.int _) (.cons (.int _) (.cons (dp_rows hw) (.cons (dp_ties ht) .nil))))
theorem tiesAt_stp {K : PySem.W.Frag} {p : Addr} {H H' : Hp} {a : Addr} {ts : List Tie} (S : Stp p H H') (hh : HandAt H p) (h : TiesAt K H a ts) : TiesAt K H' a ts := by
  obtain ⟨vs, h1, h2⟩ := h
  exact ⟨vs, S.sqT hh h1, h2.mono fun _ _ => tieAt_stp S hh⟩
theorem mod_stp {K : PySem.W.Frag} {C p q : Addr} {H H' : Hp} {m : Mdl} (S : Stp p H H') (hh : HandAt H p) (n : q ≠ p) (h : ModAt K C H q m) : ModAt K C H' q m := by
  obtain ⟨dx, w, t, h1, h2, h3⟩ := h
  exact ⟨dx, w, t, S.keep _ _ n h1, rowsAt_stp S hh h2, tiesAt_stp S hh h3⟩
theorem mod_updL {K : PySem.W.Frag} {C q D : Addr} {H : Hp} {m : Mdl} {acc : List V} {o : HO} (hD : H D = some (.lst acc)) (h : ModAt K C H q m) : ModAt K C (upd H D o) q m := by
  obtain ⟨dx, w, t, h1, h2, vs, h3, h4⟩ := h
  exact ⟨dx, w, t, by rw [upd_ne (ne_of h1 hD (by intro z; cases z))]; exact h1, h2.upd hD, vs, sqT_updL hD h3, h4.mono fun _ _ h => h.upd hD⟩
theorem eqM_self (m : Mdl) : eqM m m = true := by
  unfold eqM
  rw [decide_eq_true rfl, decide_eq_true rfl, decide_eq_true rfl, decide_eq_true rfl] <;> rfl
theorem pics_ok {m : Mdl} (ok : MOk m) {f : List Int} (h : f ∈ picsL (upI m.levels) m.many.toNat) : PicOk m f := by
  have := ok.m1
  have := ok.l1
  rw [pics_all] at h
  obtain ⟨sf, ef, el, hv⟩ := allX_mem h
  rw [ef, List.nil_append]
  refine ⟨by omega, fun x hx => ?_⟩
  obtain ⟨n, hn, rfl⟩ := List.mem_map.mp (hv x hx)
  have := List.mem_range.mp hn
  exact ⟨by omega, by omega⟩
end Law
namespace L2
open PySem PySem.Spec PyProof.Rows Law
def mdl1 (n m : Nat) : Mdl := evenM (n : Int) (List.replicate (m + 1) 1) (rowP n) (tabGe ((m + 1 : Nat) : Int))
theorem one_row : ((List.range 13).all fun n => decide (n < 1) || (decide (stp 1 n = rowP n) && decide (stp n 1 = rowP n))) = true := by decide +kernel
theorem fall_cnt : ((List.range 13).all fun n => decide (n < 5) || (List.range 4).all fun m => decide ((((ext (mdl1 n m) n []).length : Nat) : Int) = rowsF n m) && decide (rowsF n m ≤ 1000)) = true := by decide +kernel
end L2
namespace Law
open PySem L2
theorem all_at {f : Nat → Bool} {n : Nat} (h : (List.range n).all f = true) {i : Nat} (hi : i < n) : f i = true := (List.all_eq_true.mp h) i (List.mem_range.mpr hi)
theorem rows_of {R C m : Nat} (hR : 0 < R) (hC : 0 < C) (h12 : R * C ≤ 12) (h1 : R = 1 ∨ C = 1) (h5 : 5 ≤ R * C) (m3 : m ≤ 3) : (((ext (mdlG (.st R C m)) (R * C) []).length : Nat) : Int) = rowsF (R * C) m ∧ rowsF (R * C) m ≤ 1000 := by
  have e : mdlG (.st R C m) = mdl1 (R * C) m := by
    show evenM _ _ (stp R C) _ = evenM _ _ (rowP (R * C)) _
    rcases h1 with rfl | rfl
    · rw [Nat.one_mul] at h12 ⊢
      have z := all_at one_row (i := C) (by omega)
      rw [decide_eq_false (by omega), Bool.false_or, Bool.and_eq_true, decide_eq_true_eq, decide_eq_true_eq] at z
      rw [z.1]
    · rw [Nat.mul_one] at h12 ⊢
      have z := all_at one_row (i := R) (by omega)
      rw [decide_eq_false (by omega), Bool.false_or, Bool.and_eq_true, decide_eq_true_eq, decide_eq_true_eq] at z
      rw [z.2]
  rw [e]
  have z := all_at fall_cnt (i := R * C) (by omega)
  rw [decide_eq_false (by omega), Bool.false_or] at z
  have z := all_at z (i := m) (by omega)
  rw [Bool.and_eq_true, decide_eq_true_eq, decide_eq_true_eq] at z
  exact z
theorem few5 {lv n : Int} (l1 : 1 ≤ lv) (l4 : lv ≤ 4) (n5 : n < 5) : lv.toNat ^ n.toNat ≤ 1000 :=
  Nat.le_trans (Nat.pow_le_pow_left (show lv.toNat ≤ 4 by omega) _) (Nat.le_trans (Nat.pow_le_pow_right (by decide) (show n.toNat ≤ 4 by omega)) (by decide))
theorem picOk_perm {m : Mdl} {l r : List Int} (h : PicOk m l) (p : r.Perm l) : PicOk m r := by
  obtain ⟨h1, h2⟩ := h
  exact ⟨by rw [p.length_eq]; exact h1, fun x hx => h2 x (p.mem_iff.mp hx)⟩
end Law
namespace Law
open PySem L2
section
variable {P : Program} {w : World} {K : PySem.W.Frag} {mg : Str → Option Value} {base : Heap}
def spLaw (K : PySem.W.Frag) : Sp := fun vs H Q _ => ∃ (a : Addr) (ns : List Int), vs = [.ref a] ∧ SqL K H a (ns.map V.int) ∧ ns.length ≤ 63 ∧ ∀ H', Q (.bl true) H'
abbrev nLaw : List Str := ["_law_script", "_law_hand_here", "_law_turn", "_law_word", "_law_given", "_law_model", "_law_made_here", "_law_again", "_law_picture", "_law_due", "_law_place"]
theorem scLaw : FnScope nLaw ["_law_script"] (defScope s_law) := ⟨rfl, rfl, rfl, by decide +kernel, rfl, by decide +kernel, by decide +kernel⟩
theorem ok_law {f : Addr} {fd : FuncData} {fcHand : Addr} {fdcHand : FuncData} {fcMadeBy : Addr} {fdcMadeBy : FuncData} {fcCalled : Addr} {fdcCalled : FuncData} {fD : Addr} {fdD : FuncData} {fcDueG : Addr} {fdcDueG : FuncData} {fcLWt : Addr} {fdcLWt : FuncData} {fcWt : Addr} {fdcWt : FuncData} {fcPics : Addr} {fdcPics : FuncData} {fcFit0 : Addr} {fdcFit0 : FuncData} {fcRowsF : Addr} {fdcRowsF : FuncData} {C fE fcMade : Addr} {fdE fdcMade : FuncData} (F : Fun K "law" "law" s_law f fd) (T : NmA mg) (cHand : Cl P w K mg base CX0 1 "_law_hand" fcHand fdcHand ["_law_script"] (spHand K)) (cMadeBy : Cl P w K mg base CX0 4 "_law_made_by" fcMadeBy fdcMadeBy ["_law_hand_here"] (spMadeBy K)) (cCalled : Cl P w K mg base CX0 10 "_law_called" fcCalled fdcCalled ["_law_word", "_law_given"] (spCalled K C)) (D : Cl P w K mg base CX0 1 "_law_draw" fD fdD ["_law_hand_here", "_law_many"] spDraw) (cDueG : Cl P w K mg base CX0 2 "_law_weight_due" fcDueG fdcDueG ["_law_word", "_law_given", "_law_picture"] (spDueG K)) (cLWt : Cl P w K mg base CX0 1 "_law_weight" fcLWt fdcLWt ["_law_model", "_law_picture"] (spLWt K)) (cWt : Cl P w K mg base CX0 5 "weight" fcWt fdcWt ["model", "picture"] (spWeight K C)) (cPics : Cl P w K mg base CX0 1 "_law_pictures" fcPics fdcPics ["_law_many", "_law_levels"] (spPics K)) (cFit0 : Cl P w K mg base CX0 16 "fitting" fcFit0 fdcFit0 ["model"] (spFit0 K C)) (cRowsF : Cl P w K mg base CX0 1 "_law_rows_falling" fcRowsF fdcRowsF ["_law_many", "_law_most"] spRowsF) (S : ModT K mg C) (cMade : Cl P w K mg base CX0 8 "_law_made" fcMade fdcMade ["_law_model"] (spMade K C)) (GE : FnOk P w K mg base CX0 1 fE fdE ["self", "other"] (spMEqX K C)) (BE : Binds K fdE ["self", "other"] []) (hsE : PySem.W.findIn K (.ref C) "__eq__" = some (some (.ref fE))) (hfE : PySem.W.isFn K (.ref fE) = true) (hnE : PySem.W.findIn K (.ref C) "__ne__" = some (some (.builtin "object.__ne__"))) : FnOk P w K mg base CX0 17 f fd ["_law_script"] (spLaw K) := by
  refine F.ok scLaw (fun vs H Q E h => ?_) (fun cdv A' outer s H vs Q E hr h => ?_)
  · obtain ⟨a, ns, rfl, _⟩ := h
    rfl
  · obtain ⟨a, ns, rfl, hN, h63, k⟩ := h
    have hu := hu_of hr
    refine ⟨_, pss_cons (ps_set (i := 1) scLaw.nd rfl (Or.inr rfl) (cHand.call (hr.mono (by decide)) (pa_cons (pv 0) pa_nil)))
      (pss_cons (ps_for PassesOwn.never rfl (pi_range1 (by rfl) T.range (pa_cons pe_int pa_nil)) (pg_name (i := 2) scLaw.nd rfl (Or.inl rfl))
        (pss_cons (ps_asg (cMadeBy.call (hr.mono (by decide)) (pa_cons (pv 1) pa_nil)) (pg_tup (by rfl) (pgs_cons (pg_name (i := 3) scLaw.nd rfl (Or.inr rfl)) (pgs_cons (pg_name (i := 4) scLaw.nd rfl (Or.inr rfl)) (pgs_cons (pg_name (i := 5) scLaw.nd rfl (Or.inr rfl)) pgs_nil)))))
        (pss_cons (ps_set (i := 6) scLaw.nd rfl (Or.inl rfl) (cCalled.call (hr.mono (by decide)) (pa_cons (pv 3) (pa_cons (pv 4) pa_nil))))
        (pss_cons (ps_if (PW.pt (pw_or (pt_not (pt_val (pe_callB call_isi (by rfl) T.isi (by decide +kernel) (pa_cons (pv 6) (pa_cons (pe_glob (v := .ref C) (u := .ref C) rfl S.mgC rfl) pa_nil))))) (pw_or1 (pt_cmpR (op_ownN GE hsE hfE BE hnE S.hm (hr.mono (by decide)) bl_MEX) (pv 6) (cMade.call (hr.mono (by decide)) (pa_cons (pv 5) pa_nil)) (nomark _)))))
          (pss_one (ps_ret pe_bl)) pss_nil)
        (pss_cons (ps_if (pt_cmpR (op_neD hr.units) (pe_tup (pa_cons (pe_fld (pv 6) rfl) (pa_cons (pe_fld (pv 6) rfl) (pa_cons (pe_fld (pv 6) rfl) (pa_cons (pe_fld (pv 6) rfl) pa_nil))))) (pe_tup (pa_cons (pe_dget hu (pv 5) pe_str (fun _ _ => rfl)) (pa_cons (pe_dget hu (pv 5) pe_str (fun _ _ => rfl)) (pa_cons (pe_dget hu (pv 5) pe_str (fun _ _ => rfl)) (pa_cons (pe_dget hu (pv 5) pe_str (fun _ _ => rfl)) pa_nil))))) (nomark _))
          (pss_one (ps_ret pe_bl)) pss_nil)
        (pss_cons (ps_for PassesOwn.never rfl (pi_range1 (by rfl) T.range (pa_cons pe_int pa_nil)) (pg_name (i := 7) scLaw.nd rfl (Or.inl rfl))
          (pss_cons (ps_set (i := 8) scLaw.nd rfl (Or.inl rfl) (pe_callTy call_tuple_of (by rfl) T.tuple (by decide +kernel) (pa_cons (pe_lc (own := [("_law_place", 10)]) (g := (gName 10)) (tt := tYes) rfl scLaw.nd  (pi_range1 (by rfl) T.range (pa_cons (pe_dget hu (pv 5) pe_str (fun _ _ => rfl)) pa_nil)) (blkOk_by (own := [("_law_place", 10)]) (N := nLaw) (sc := defScope s_law) (by decide +kernel)) (fun _ _ _ _ _ => (pg_name (i := 10) scLaw.nd rfl (Or.inl rfl))) (fun _ _ _ _ _ => pts_nil) (fun _ _ _ _ _ => (D.call (hr.mono (by decide)) (pa_cons (pv 1) (pa_cons (pe_dget hu (pv 5) pe_str (fun _ _ => rfl)) pa_nil))))) pa_nil)))
          (Evl.pss_cut (ps_if (pt_cmpR op_eq (D.call (hr.mono (by decide)) (pa_cons (pv 1) (pa_cons pe_int pa_nil))) pe_int (nomark _))
            (pss_one (ps_set (i := 8) scLaw.nd rfl (Or.inl rfl) (pe_callTy call_tuple_of (by rfl) T.tuple (by decide +kernel) (pa_cons (pe_revL (pe_callB cr_sortedIT (by rfl) T.sorted (by decide +kernel) (pa_cons (pv 8) pa_nil))) pa_nil)))) pss_nil)
          (pss_cons (ps_set (i := 9) scLaw.nd rfl (Or.inl rfl) (cDueG.call (hr.mono (by decide)) (pa_cons (pv 3) (pa_cons (pv 4) (pa_cons (pv 8) pa_nil)))))
          (pss_one (ps_if (PW.pt (pw_or (pt_cmpR op_ne (cWt.call (hr.mono (by decide)) (pa_cons (pv 6) (pa_cons (pv 8) pa_nil))) (pv 9) (nomark _)) (pw_or1 (pt_cmpR op_ne (cLWt.call (hr.mono (by decide)) (pa_cons (pv 5) (pa_cons (pv 8) pa_nil))) (pv 9) (nomark _)))))
            (pss_one (ps_ret pe_bl)) pss_nil))))))
        (pss_one (ps_if (pt_cmpR op_lt (pe_dget hu (pv 5) pe_str (fun _ _ => rfl)) pe_int (nomark _))
          (pss_cons (ps_setLc (i := 9) (own := [("_law_picture", 8)]) (g := (gName 8)) (tt := _) (by rfl) scLaw.nd rfl rfl (sw_true rfl rfl rfl (by decide +kernel)) (pi_list (cPics.call (hr.mono (by decide)) (pa_cons (pe_dget hu (pv 5) pe_str (fun _ _ => rfl)) (pa_cons (pe_dget hu (pv 5) pe_str (fun _ _ => rfl)) pa_nil)))) (blkOk_by (own := [("_law_picture", 8)]) (N := nLaw) (sc := defScope s_law) (by decide +kernel)) (fun _ _ _ _ _ => (pg_name (i := 8) scLaw.nd rfl (Or.inl rfl))) (fun _ _ _ _ _ => (pts_one (pt_cmpR op_gt (cDueG.call (hr.mono (by decide)) (pa_cons (pv 3) (pa_cons (pv 4) (pa_cons (pv 8) pa_nil)))) pe_int (nomark _)))) (fun _ _ _ _ _ => (pv 8)))
          (pss_one (ps_if (pt_cmpR (op_neD hr.units) (cFit0.call (hr.mono (by decide)) (pa_cons (pv 6) pa_nil)) (pv 9) (nomark _))
            (pss_one (ps_ret pe_bl)) pss_nil))) (pss_one (ps_if (PW.pt (pw_and (pt_cmpR op_eq (pv 3) pe_int (nomark _)) (pw_and1 (pt_cmpR op_in_seq pe_int (pe_slice sl_tupA (pv 4) po_none (po_some pe_int)) (by rfl)))))
            (pss_one (ps_if (pt_cmpR op_ne (pe_callB call_len_seq (by rfl) T.len PySem.boot_len (pa_cons (cFit0.call (hr.mono (by decide)) (pa_cons (pv 6) pa_nil)) pa_nil)) (cRowsF.call (hr.mono (by decide)) (pa_cons (pe_dget hu (pv 5) pe_str (fun _ _ => rfl)) (pa_cons (pe_ix ix_tup (pv 4) pe_int (fun _ _ => rfl)) pa_nil))) (nomark _))
              (pss_one (ps_ret pe_bl)) pss_nil)) pss_nil))))))))))
      (pss_one (ps_ret pe_bl))), ?_⟩
    refine ⟨_, rfl, a, ns, rfl, hN, h63, fun p H1 hp s1 hH => ?_⟩
    refine ⟨_, rfl, by decide, by decide, ?_⟩
    refine for_range (lo := 0) (n := 4) (fun i σ H' => HandAt H' p ∧ ∃ u2 u3 u4 u5 u6 u7 u8 u9 : Option V, σ = [some (.ref a), some (.ref p), u2, u3, u4, u5, u6, u7, u8, u9, none]) ⟨hH, none, none, none, none, none, none, none, none, rfl⟩ ?_ ?_
    · rintro i σ H2 hi ⟨h2, u2, u3, u4, u5, u6, u7, u8, u9, rfl⟩
      refine ⟨_, rfl, p, rfl, h2, fun t ga d g H3 S3 ht hG hM ok dp => ?_⟩
      refine ⟨t, _, rfl, ht, rfl, _, _, rfl, _, _, rfl, _, _, rfl, rfl, ?_⟩
      obtain ⟨sm, wr⟩ := mdlG_ok ok
      have mok := MOk.of sm wr
      have m1 := mok.m1
      have m12 := mok.m12
      have l1 := mok.l1
      have l4 := mok.l4
      refine ⟨_, rfl, _, rfl, g, ga, rfl, hG, ok, fun y H4 hy s4 hY => ?_⟩
      have yp : y ≠ p := ne_hand S3.hand hy
      have hM4 := hM.same s4
      refine ⟨_, rfl, _, _, _, _, _, rfl, .own C, hY.ty S, kit_selfM (by simp), _, rfl, iteF ?_⟩
      refine ⟨_, rfl, _, rfl, d, mdlG g, rfl, hM4, sm, wr, fun y2 H5 hy2 s5 hY2 => ?_⟩
      have hY5 := hY.same s5
      obtain ⟨dx9, wq9, tq9, hq19, hq29, hq39⟩ := id hY5
      obtain ⟨dx2, wq2, tq2, hq12, _⟩ := id hY2
      refine ⟨y, y2, dx9, _, dx2, _, rfl, rfl, hq19, hq12, y, y2, mdlG g, rfl, hY5, .inl ⟨mdlG g, hY2, ⟨_, rfl, _, rfl, ?_⟩⟩⟩
      rw [eqM_self]
      refine iteF ?_
      have hM5 := hM4.same s5
      obtain ⟨wa, ta, hd1, hd2, hd3⟩ := id hM5
      refine ⟨_, rfl, y, C, dx9, _, _, rfl, hq19, S.cl, S.nK, modF_many _ _ _ _, _, rfl, y, C, dx9, _, _, rfl, hq19, S.cl, S.nL, modF_levels _ _ _ _, _, rfl, y, C, dx9, _, _, rfl, hq19, S.cl, S.nW, modF_weights _ _ _ _, _, rfl, y, C, dx9, _, _, rfl, hq19, S.cl, S.nT, modF_ties _ _ _ _, by show 4 ≤ sizeLine; decide, fun A1 hA1 => ?_⟩
      refine new_step hA1 fun H6 s6 e6 => ?_
      have hd16 := s6 _ _ hd1
      refine ⟨_, rfl, d, _, rfl, gd_m hd16, _, rfl, d, _, rfl, gd_l hd16, _, rfl, d, _, rfl, gd_w hd16, _, rfl, d, _, rfl, gd_t hd16, by show 4 ≤ sizeLine; decide, fun A2 hA2 => ?_⟩
      refine new_step hA2 fun H7 s7 e7 => ?_
      have s57 := s6.trans s7
      refine ⟨fourD (mdlG g), fourD (mdlG g), dp_four (SqT.of (s7 _ _ e6)) (hq29.same s57) (hq39.same s57), dp_four (SqT.of e7) (hd2.same s57) (hd3.same s57), shaped_of (lay_fourD _) (by decide), shaped_of (lay_fourD _) (by decide), _, rfl, ?_⟩
      rw [SeqAt.eqv_refl _ (lay_fourD _).1]
      refine iteF ?_
      have S37 := S3.post ((s4.trans s5).trans s57)
      have hG7 := hG.same ((s4.trans s5).trans s57)
      have hM7 := hM5.same s57
      have hY7 := hY5.same s57
      have hh7 := S37.hand
      clear hq12 hq19 hq29 hq39 hd1 hd2 hd3 hd16 e6 e7 hY2 hY5 hM5 hM4 hY hM hG ht
      refine ⟨_, rfl, by decide, by decide, ?_⟩
      refine for_range (lo := 0) (n := 4) (fun j σ H' => Stp p H7 H' ∧ ∃ u7 u8 u9 : Option V, σ = [some (.ref a), some (.ref p), some (.int ((0 : Int) + (i : Nat))), some (.int (wordG g)), some (.ref ga), some (.ref d), some (.ref y), u7, u8, u9, none]) ⟨Stp.refl hh7, _, _, _, rfl⟩ ?_ ?_
      · rintro j σ H8 hj ⟨S8, v7, v8, v9, rfl⟩
        have hM8 := dicAt_stp S8 hh7 dp hM7
        have hY8 := mod_stp S8 hh7 yp hY7
        have hG8 := givAt_stp S8 hh7 hG7
        obtain ⟨wa, ta, hd1, _⟩ := id hM8
        refine ⟨_, rfl, d, _, rfl, gd_m hd1, _, rfl, by omega, by omega, fun D hD => ?_⟩
        have Dp : D ≠ p := ne_hand S8.hand hD
        refine lc_range (lo := 0) (n := (mdlG g).many.toNat) (fun i H' => Stp p H8 H' ∧ ∃ l : List Int, H' D = some (.lst (l.map V.int)) ∧ l.length = i ∧ ∀ x ∈ l, 0 ≤ x ∧ x < (mdlG g).levels) ⟨Stp.of S8.hand (Same.new hD), [], upd_same, rfl, fun x hx => absurd hx List.not_mem_nil⟩ (fun i H9 hi g' => ?_) fun H9 g' => ?_
        · obtain ⟨S9, l, f1, f2, f3⟩ := g'
          have hd9 := S9.keep _ _ dp hd1
          refine ⟨rfl, _, rfl, _, rfl, d, _, rfl, gd_l hd9, p, (mdlG g).levels, rfl, by omega, by omega, S9.hand, fun v H10 v0 v1 S10 => ⟨_, S10.keep _ _ Dp f1, by rw [List.length_map, f2]; exact small1000 (by omega), (S9.trans S10).mut S8.hand hD, l ++ [v], ?_, by rw [List.length_append, f2] <;> rfl, fun x hx => ?_⟩⟩
          · rw [upd_same, List.map_append] <;> rfl
          · rcases List.mem_append.mp hx with h | h
            · exact f3 x h
            · rw [List.mem_singleton.mp h]
              exact ⟨v0, v1⟩
        obtain ⟨S9, l, f1, f2, f3⟩ := g'
        refine ⟨D, _, rfl, .inl ⟨SqL.of f1, fun T hT => ?_⟩⟩
        refine new_step hT fun H10 s10 e10 => ?_
        have S10 := S9.post s10
        have pl : PicOk (mdlG g) l := ⟨by rw [f2]; omega, f3⟩
        refine ⟨fun σ H' => Stp p H8 H' ∧ ∃ (T : Addr) (l : List Int), SqT K H' T (l.map V.int) ∧ PicOk (mdlG g) l ∧ σ = [some (.ref a), some (.ref p), some (.int ((0 : Int) + (i : Nat))), some (.int (wordG g)), some (.ref ga), some (.ref d), some (.ref y), some (.int ((0 : Int) + (j : Nat))), some (.ref T), v9, none], ?_, ?_⟩
        · refine ⟨_, rfl, p, 2, rfl, by decide, by decide, S10.hand, fun e H11 _ _ S11 => ⟨rfl, _, rfl, ite2 (fun _ => ?_) (fun _ => ⟨S10.trans S11, T, l, S11.sqT S10.hand (SqT.of e10), pl, rfl⟩)⟩⟩
          have hT11 := S11.sqT S10.hand (SqT.of (K := K) e10)
          refine ⟨_, rfl, T, l, rfl, hT11, by omega, fun l' q hq1 _ hq => ?_⟩
          refine new_step hq fun H12 s12 e12 => ?_
          refine ⟨q, _, rfl, SqL.of e12, fun r hr => ?_⟩
          refine new_step hr fun H13 s13 e13 => ?_
          refine ⟨r, _, rfl, .inl ⟨SqL.of e13, fun T2 hT2 => ?_⟩⟩
          refine new_step hT2 fun H14 s14 e14 => ?_
          exact ⟨(S10.trans S11).post ((s12.trans s13).trans s14), T2, l'.reverse, by rw [List.map_reverse]; exact SqT.of e14, picOk_perm pl ((List.reverse_perm l').trans hq1), rfl⟩
        rintro σ H11 ⟨S11, T, l, hT, pl, rfl⟩
        have hG11 := givAt_stp S11 S8.hand hG8
        have hM11 := dicAt_stp S11 S8.hand dp hM8
        have hY11 := mod_stp S11 S8.hand yp hY8
        refine ⟨_, rfl, _, rfl, _, rfl, g, ga, T, l, rfl, hG11, ok, hT, pl, fun H12 s12 => ?_⟩
        refine ⟨_, rfl, _, rfl, y, T, mdlG g, l, rfl, hY11.same s12, mok, s12.sqT hT, pl, fun H13 s13 => ⟨_, rfl, rfl, _, rfl, ?_⟩⟩
        rw [wt_due ok pl, decide_eq_true rfl]
        refine iteF ?_
        have s1113 := s12.trans s13
        refine ⟨_, rfl, _, rfl, d, T, mdlG g, l, rfl, hM11.same s1113, mok, s1113.sqT hT, pl, fun H14 s14 => ⟨_, rfl, rfl, _, rfl, ?_⟩⟩
        rw [wt_due ok pl, decide_eq_true rfl]
        refine iteF ?_
        exact ⟨S8.trans (S11.post (s1113.trans s14)), _, _, _, rfl⟩
      rintro σ H8 ⟨S8, v7, v8, v9, rfl⟩
      have hM8 := dicAt_stp S8 hh7 dp hM7
      have hY8 := mod_stp S8 hh7 yp hY7
      have hG8 := givAt_stp S8 hh7 hG7
      obtain ⟨wa, ta, hd1, _⟩ := id hM8
      refine ⟨_, rfl, d, _, rfl, gd_m hd1, _, _, rfl, rfl, _, rfl, ite2 (fun c => ?_) (fun c => ?_)⟩
      · have c := of_decide_eq_true c
        have pw := few5 l1 l4 c
        refine ⟨_, rfl, d, _, rfl, gd_m hd1, _, rfl, d, _, rfl, gd_l hd1, (mdlG g).many, (mdlG g).levels, rfl, by omega, m12, l1, l4, pw, fun L ws H9 hL s9 h9 a9 => ⟨L, rfl, ⟨_, SqL.of h9⟩, fun D hD => ?_⟩⟩
        refine lc_list (K := K) (a := L) (xs := ws) (fun i H' => Same H9 H' ∧ ∃ vs : List V, H' D = some (.lst vs) ∧ AllIn (RowAt K H') vs (((picsL (upI (mdlG g).levels) (mdlG g).many.toNat).take i).filter fun p => decide (0 < wt (mdlG g) p))) ⟨Same.new hD, [], upd_same, AllIn.nil⟩ (fun i H' _ h => SqL.of (h.1 _ _ h9)) (fun i x H10 hi g' => ?_) fun H10 g' => ?_
        · obtain ⟨s10, vs, g2, b2⟩ := g'
          obtain ⟨f, hf, b, rfl, hS⟩ := a9.2 i x hi
          have fs := filter_snoc (f := fun p => decide (0 < wt (mdlG g) p)) hf
          have fp := pics_ok mok (List.mem_of_getElem? hf)
          have len := pics_len (upI (mdlG g).levels) (mdlG g).many.toNat
          rw [up_len] at len
          have il := (List.getElem?_eq_some_iff.mp hf).1
          refine ⟨rfl, _, rfl, _, rfl, _, rfl, g, ga, b, f, rfl, (hG8.same s9).same s10, ok, s10.sqT hS, fp, fun H11 s11 => ⟨_, _, rfl, rfl, _, rfl, ?_⟩⟩
          rw [← wt_due ok fp]
          have g3 := s11 _ _ g2
          have b3 := b2.mono fun _ _ h => RowAt.same s11 h
          refine ite2 (fun c => ?_) (fun c => ?_)
          · rw [if_pos c] at fs
            refine ⟨_, rfl, vs, g3, ?_, (s10.trans s11).mut hD, vs ++ [.ref b], upd_same, ?_⟩
            · have z := List.length_filter_le (fun p => decide (0 < wt (mdlG g) p)) ((picsL (upI (mdlG g).levels) (mdlG g).many.toNat).take i)
              rw [List.length_take] at z
              rw [b2.1]
              exact small1000 (by omega)
            · rw [fs]
              exact AllIn.snoc (b3.mono fun _ _ h => h.upd g3) (RowAt.upd g3 ⟨b, rfl, (s10.trans s11).sqT hS⟩)
          · rw [if_neg c, List.append_nil] at fs
            exact ⟨s10.trans s11, vs, g3, by rw [fs]; exact b3⟩
        obtain ⟨s10, vs, g2, b2⟩ := g'
        rw [a9.1, List.take_length, ← vals_up, ← ext_fits mok] at b2
        have el1 : (ext (mdlG g) (mdlG g).many.toNat []).length ≤ 1000 := by
          rw [ext_fits mok]
          refine Nat.le_trans (List.length_filter_le _ _) ?_
          rw [pics_len, vals_up, up_len]
          exact pw
        refine ⟨_, rfl, y, mdlG g, rfl, (hY8.same s9).same s10, mok, el1, fun F fs H11 hF s11 h11 a11 => ?_⟩
        refine ⟨_, rfl, listD _, listD _, dp_list h11 a11, dp_list (s11 _ _ g2) (b2.mono fun _ _ h => RowAt.same s11 h), shaped_of (lay_listD _) (by decide), shaped_of (lay_listD _) (by decide), _, rfl, ?_⟩
        rw [SeqAt.eqv_refl _ (lay_listD _).1]
        refine iteF ?_
        exact ⟨S8.hand.same ((s9.trans s10).trans s11), _, _, _, _, _, _, _, _, rfl⟩
      · have c : ¬ (mdlG g).many < 5 := fun z => c (decide_eq_true z)
        cases g with
        | sp n ps x y' => exact ⟨_, rfl, rfl, _, rfl, iteF ⟨S8.hand, _, _, _, _, _, _, _, _, rfl⟩⟩
        | ap n ps x => exact ⟨_, rfl, rfl, _, rfl, iteF ⟨S8.hand, _, _, _, _, _, _, _, _, rfl⟩⟩
        | co n ps x => exact ⟨_, rfl, rfl, _, rfl, iteF ⟨S8.hand, _, _, _, _, _, _, _, _, rfl⟩⟩
        | st R C' m =>
          obtain ⟨hR, hC, h12, m3⟩ := id ok
          have c5 : 5 ≤ R * C' := by have e : (mdlG (.st R C' m)).many = ((R * C' : Nat) : Int) := rfl; omega
          have hG8 : SqT K H8 ga [.int (R : Nat), .int (C' : Nat), .int (m : Nat)] := hG8
          refine ⟨_, rfl, rfl, _, rfl, iteT ?_⟩
          refine ⟨_, rfl, ?_⟩
          unfold tNoPart
          refine ⟨2, rfl, ?_⟩
          refine slAny hG8 fun q H9 s9 h9 => ?_
          rw [show (2 : Int) = ((2 : Nat) : Int) from rfl, cut_to (by show 2 ≤ 3; decide)] at h9
          have h9 : SqT K H9 q [.int (R : Nat), .int (C' : Nat)] := h9
          refine ⟨q, _, rfl, .inr h9, rfl, rfl, _, rfl, ?_⟩
          rw [in_two, if_neg Bool.false_ne_true]
          refine ite2 (fun h1 => ?_) (fun _ => ⟨S8.hand.same s9, _, _, _, _, _, _, _, _, rfl⟩)
          have h1 : R = 1 ∨ C' = 1 := by
            rw [Bool.or_eq_true, decide_eq_true_eq, decide_eq_true_eq] at h1
            omega
          have em : (mdlG (.st R C' m)).many.toNat = R * C' := Int.toNat_natCast _
          obtain ⟨r1, r2⟩ := rows_of hR hC h12 h1 c5 m3
          refine ⟨_, rfl, y, mdlG (.st R C' m), rfl, hY8.same s9, mok, by rw [em]; omega, fun F fs H11 hF s11 h11 a11 => ?_⟩
          have s911 := s9.trans s11
          refine ⟨F, _, rfl, .inl (SqL.of h11), ?_⟩
          refine ⟨_, rfl, d, _, rfl, gd_m (s911 _ _ hd1), _, rfl, ga, _, _, _, rfl, rfl, s911.sqT hG8, rfl, R * C', m, rfl, by omega, h12, m3, fun H12 s12 => ⟨rfl, _, rfl, ?_⟩⟩
          rw [a11.1, em, r1, decide_eq_true rfl]
          refine iteF ?_
          exact ⟨S8.hand.same (s911.trans s12), _, _, _, _, _, _, _, _, rfl⟩
    rintro σ H2 ⟨h2, u2, u3, u4, u5, u6, u7, u8, u9, rfl⟩
    exact k H2
end
end Law

set_option maxHeartbeats 0
namespace Law
open PySem PySem.Spec PyProof.Rows L2
theorem ba3 {a b : Bool} (h : (a && b) = true) : a = true ∧ b = true := Bool.and_eq_true_iff.mp h
theorem optT_ok {o : Option Bool} (h : optT o = true) : o = some true := by
  cases o with
  | none => cases h
  | some b =>
    cases b with
    | true => rfl
    | false => cases h
section
variable {P : Program} {w : World} {K : PySem.W.Frag} {h : Heap} {mg : Str → Option Value} {base : Heap}
theorem facts {f : Addr} (tr : P.given.tree = none) (X : K.In h) (G : h.Ns mainGlobals mg) (hfa : mg ("law" : Str) = some (.ref f)) (c : He.SaysD fas fns K) (e : exK K = true) :
    ∃ fd : FuncData, (∀ (s : Shared) (v : Value), BindsTo s fd ⟨[v], []⟩ [("_law_script", v)]) ∧ ∀ base : Heap, K.In base → base.Ns mainGlobals mg → FnOk P w K mg base CX0 17 f fd ["_law_script"] (spLaw K) := by
  have eL := hfa.symm.trans (He.glo_ok X G (c.fact 46 (f := .glo "law") rfl))
  cases eL
  obtain ⟨e1, e⟩ := ba3 e
  obtain ⟨v1, e⟩ := ba3 e
  obtain ⟨i1, e⟩ := ba3 e
  obtain ⟨w1, e⟩ := ba3 e
  obtain ⟨d1, t1⟩ := ba3 e
  obtain ⟨x1, x2⟩ := ba3 e1
  obtain ⟨x2, x3⟩ := ba3 x2
  obtain ⟨x3, x4⟩ := ba3 x3
  obtain ⟨ia1, ia2⟩ := ba3 i1
  obtain ⟨d1, d2⟩ := ba3 d1
  obtain ⟨t1, t2⟩ := ba3 t1
  have T : NmA mg := ⟨He.free_ok X G (c.fact 48 (f := .free "abs") rfl), He.free_ok X G (c.fact 49 (f := .free "all") rfl), He.free_ok X G (c.fact 50 (f := .free "any") rfl), He.free_ok X G (c.fact 51 (f := .free "bool") rfl), He.free_ok X G (c.fact 52 (f := .free "enumerate") rfl), He.free_ok X G (c.fact 53 (f := .free "int") rfl), He.free_ok X G (c.fact 54 (f := .free "isinstance") rfl), He.free_ok X G (c.fact 55 (f := .free "len") rfl), He.free_ok X G (c.fact 56 (f := .free "max") rfl), He.free_ok X G (c.fact 57 (f := .free "range") rfl), He.free_ok X G (c.fact 58 (f := .free "sorted") rfl), He.free_ok X G (c.fact 59 (f := .free "sum") rfl), He.free_ok X G (c.fact 60 (f := .free "tuple") rfl), He.free_ok X G (c.fact 61 (f := .free "zip") rfl)⟩
  obtain ⟨fd_law, F_law⟩ := c.def_ 46 rfl
  have FD_law := F_law
  have F_law := funD_fun (st := s_law) F_law
  have B_law := F_law.binds (ps := ["_law_script"]) fun _ _ _ _ _ _ us hl => match us, hl with | [_], _ => rfl
  have M_law := He.glo_ok X G (c.fact 46 (f := .glo "law") rfl)
  obtain ⟨fd__law_hand, F__law_hand⟩ := c.def_ 29 rfl
  have FD__law_hand := F__law_hand
  have F__law_hand := funD_fun (st := s_law_hand) F__law_hand
  have B__law_hand := F__law_hand.binds (ps := ["_law_script"]) fun _ _ _ _ _ _ us hl => match us, hl with | [_], _ => rfl
  have M__law_hand := He.glo_ok X G (c.fact 29 (f := .glo "_law_hand") rfl)
  obtain ⟨fd__law_made_by, F__law_made_by⟩ := c.def_ 43 rfl
  have FD__law_made_by := F__law_made_by
  have F__law_made_by := funD_fun (st := s_law_made_by) F__law_made_by
  have B__law_made_by := F__law_made_by.binds (ps := ["_law_hand_here"]) fun _ _ _ _ _ _ us hl => match us, hl with | [_], _ => rfl
  have M__law_made_by := He.glo_ok X G (c.fact 43 (f := .glo "_law_made_by") rfl)
  obtain ⟨fd__law_draw, F__law_draw⟩ := c.def_ 30 rfl
  have FD__law_draw := F__law_draw
  have F__law_draw := funD_fun (st := s_law_draw) F__law_draw
  have B__law_draw := F__law_draw.binds (ps := ["_law_hand_here", "_law_many"]) fun _ _ _ _ _ _ us hl => match us, hl with | [_, _], _ => rfl
  have M__law_draw := He.glo_ok X G (c.fact 30 (f := .glo "_law_draw") rfl)
  obtain ⟨fd__law_net, F__law_net⟩ := c.def_ 38 rfl
  have FD__law_net := F__law_net
  have F__law_net := funD_fun (st := s_law_net) F__law_net
  have B__law_net := F__law_net.binds (ps := ["_law_hand_here", "_law_many"]) fun _ _ _ _ _ _ us hl => match us, hl with | [_, _], _ => rfl
  have M__law_net := He.glo_ok X G (c.fact 38 (f := .glo "_law_net") rfl)
  obtain ⟨fd__law_pairs, F__law_pairs⟩ := c.def_ 33 rfl
  have FD__law_pairs := F__law_pairs
  have F__law_pairs := funD_fun (st := s_law_pairs) F__law_pairs
  have B__law_pairs := F__law_pairs.binds (ps := ["_law_hand_here", "_law_many", "_law_rare"]) fun _ _ _ _ _ _ us hl => match us, hl with | [_, _, _], _ => rfl
  have M__law_pairs := He.glo_ok X G (c.fact 33 (f := .glo "_law_pairs") rfl)
  obtain ⟨fd__law_any, F__law_any⟩ := c.def_ 31 rfl
  have FD__law_any := F__law_any
  have F__law_any := funD_fun (st := s_law_any) F__law_any
  have B__law_any := F__law_any.binds (ps := ["_law_hand_here", "_law_things"]) fun _ _ _ _ _ _ us hl => match us, hl with | [_, _], _ => rfl
  have M__law_any := He.glo_ok X G (c.fact 31 (f := .glo "_law_any") rfl)
  obtain ⟨fd__law_number, F__law_number⟩ := c.def_ 32 rfl
  have FD__law_number := F__law_number
  have F__law_number := funD_fun (st := s_law_number) F__law_number
  have B__law_number := F__law_number.binds (ps := ["_law_hand_here"]) fun _ _ _ _ _ _ us hl => match us, hl with | [_], _ => rfl
  have M__law_number := He.glo_ok X G (c.fact 32 (f := .glo "_law_number") rfl)
  obtain ⟨fd__law_even, F__law_even⟩ := c.def_ 37 rfl
  have FD__law_even := F__law_even
  have F__law_even := funD_fun (st := s_law_even) F__law_even
  have B__law_even := F__law_even.binds (ps := ["_law_many", "_law_row", "_law_pairs_here", "_law_table"]) fun _ _ _ _ _ _ us hl => match us, hl with | [_, _, _, _], _ => rfl
  have M__law_even := He.glo_ok X G (c.fact 37 (f := .glo "_law_even") rfl)
  obtain ⟨fd__law_steps, F__law_steps⟩ := c.def_ 39 rfl
  have FD__law_steps := F__law_steps
  have F__law_steps := funD_fun (st := s_law_steps) F__law_steps
  have B__law_steps := F__law_steps.binds (ps := ["_law_rows", "_law_columns"]) fun _ _ _ _ _ _ us hl => match us, hl with | [_, _], _ => rfl
  have M__law_steps := He.glo_ok X G (c.fact 39 (f := .glo "_law_steps") rfl)
  obtain ⟨fd__law_called, F__law_called⟩ := c.def_ 45 rfl
  have FD__law_called := F__law_called
  have F__law_called := funD_fun (st := s_law_called) F__law_called
  have B__law_called := F__law_called.binds (ps := ["_law_word", "_law_given"]) fun _ _ _ _ _ _ us hl => match us, hl with | [_, _], _ => rfl
  have M__law_called := He.glo_ok X G (c.fact 45 (f := .glo "_law_called") rfl)
  obtain ⟨fd_spins, F_spins⟩ := c.def_ 25 rfl
  have FD_spins := F_spins
  have F_spins := funD_fun (st := s_spins) F_spins
  have B_spins := F_spins.binds (ps := ["many", "pairs", "same", "other"]) fun _ _ _ _ _ _ us hl => match us, hl with | [_, _, _, _], _ => rfl
  have M_spins := He.glo_ok X G (c.fact 25 (f := .glo "spins") rfl)
  obtain ⟨fd_tied_alike, F_tied_alike⟩ := c.def_ 24 rfl
  have FD_tied_alike := F_tied_alike
  have F_tied_alike := funD_fun (st := s_tied_alike) F_tied_alike
  have B_tied_alike := F_tied_alike.binds (ps := ["many", "levels", "weights", "pairs", "table"]) fun _ _ _ _ _ _ us hl => match us, hl with | [_, _, _, _, _], _ => rfl
  have M_tied_alike := He.glo_ok X G (c.fact 24 (f := .glo "tied_alike") rfl)
  obtain ⟨fd_check_pairs, F_check_pairs⟩ := c.def_ 23 rfl
  have FD_check_pairs := F_check_pairs
  have F_check_pairs := funD_fun (st := s_check_pairs) F_check_pairs
  have B_check_pairs := F_check_pairs.binds (ps := ["many", "pairs"]) fun _ _ _ _ _ _ us hl => match us, hl with | [_, _], _ => rfl
  have M_check_pairs := He.glo_ok X G (c.fact 23 (f := .glo "check_pairs") rfl)
  obtain ⟨fd_is_within, F_is_within⟩ := c.def_ 1 rfl
  have FD_is_within := F_is_within
  have F_is_within := funD_fun (st := s_is_within) F_is_within
  have B_is_within := F_is_within.binds (ps := ["low", "high", "thing"]) fun _ _ _ _ _ _ us hl => match us, hl with | [_, _, _], _ => rfl
  have M_is_within := He.glo_ok X G (c.fact 1 (f := .glo "is_within") rfl)
  obtain ⟨fd_is_integer, F_is_integer⟩ := c.def_ 0 rfl
  have FD_is_integer := F_is_integer
  have F_is_integer := funD_fun (st := s_is_integer) F_is_integer
  have B_is_integer := F_is_integer.binds (ps := ["thing"]) fun _ _ _ _ _ _ us hl => match us, hl with | [_], _ => rfl
  have M_is_integer := He.glo_ok X G (c.fact 0 (f := .glo "is_integer") rfl)
  obtain ⟨fd_is_lot_of_couples, F_is_lot_of_couples⟩ := c.def_ 6 rfl
  have FD_is_lot_of_couples := F_is_lot_of_couples
  have F_is_lot_of_couples := funD_fun (st := s_is_lot_of_couples) F_is_lot_of_couples
  have B_is_lot_of_couples := F_is_lot_of_couples.binds (ps := ["bound", "thing"]) fun _ _ _ _ _ _ us hl => match us, hl with | [_, _], _ => rfl
  have M_is_lot_of_couples := He.glo_ok X G (c.fact 6 (f := .glo "is_lot_of_couples") rfl)
  obtain ⟨fd_is_lot_of_pairs, F_is_lot_of_pairs⟩ := c.def_ 5 rfl
  have FD_is_lot_of_pairs := F_is_lot_of_pairs
  have F_is_lot_of_pairs := funD_fun (st := s_is_lot_of_pairs) F_is_lot_of_pairs
  have B_is_lot_of_pairs := F_is_lot_of_pairs.binds (ps := ["bound", "thing"]) fun _ _ _ _ _ _ us hl => match us, hl with | [_, _], _ => rfl
  have M_is_lot_of_pairs := He.glo_ok X G (c.fact 5 (f := .glo "is_lot_of_pairs") rfl)
  obtain ⟨fd_is_pair_below, F_is_pair_below⟩ := c.def_ 3 rfl
  have FD_is_pair_below := F_is_pair_below
  have F_is_pair_below := funD_fun (st := s_is_pair_below) F_is_pair_below
  have B_is_pair_below := F_is_pair_below.binds (ps := ["bound", "thing"]) fun _ _ _ _ _ _ us hl => match us, hl with | [_, _], _ => rfl
  have M_is_pair_below := He.glo_ok X G (c.fact 3 (f := .glo "is_pair_below") rfl)
  obtain ⟨fd_is_row_below, F_is_row_below⟩ := c.def_ 2 rfl
  have FD_is_row_below := F_is_row_below
  have F_is_row_below := funD_fun (st := s_is_row_below) F_is_row_below
  have B_is_row_below := F_is_row_below.binds (ps := ["bound", "thing"]) fun _ _ _ _ _ _ us hl => match us, hl with | [_, _], _ => rfl
  have M_is_row_below := He.glo_ok X G (c.fact 2 (f := .glo "is_row_below") rfl)
  obtain ⟨fd_is_ascending, F_is_ascending⟩ := c.def_ 4 rfl
  have FD_is_ascending := F_is_ascending
  have F_is_ascending := funD_fun (st := s_is_ascending) F_is_ascending
  have B_is_ascending := F_is_ascending.binds (ps := ["things"]) fun _ _ _ _ _ _ us hl => match us, hl with | [_], _ => rfl
  have M_is_ascending := He.glo_ok X G (c.fact 4 (f := .glo "is_ascending") rfl)
  obtain ⟨fd_Model___init__, F_Model___init__⟩ := c.def_ 12 rfl
  have FD_Model___init__ := F_Model___init__
  have F_Model___init__ := funD_fun (st := s_Model_init) F_Model___init__
  have B_Model___init__ := F_Model___init__.binds (ps := ["self", "many", "levels", "weights", "ties"]) fun _ _ _ _ _ _ us hl => match us, hl with | [_, _, _, _, _], _ => rfl
  obtain ⟨fd_is_table, F_is_table⟩ := c.def_ 14 rfl
  have FD_is_table := F_is_table
  have F_is_table := funD_fun (st := s_is_table) F_is_table
  have B_is_table := F_is_table.binds (ps := ["rows", "columns", "thing"]) fun _ _ _ _ _ _ us hl => match us, hl with | [_, _, _], _ => rfl
  have M_is_table := He.glo_ok X G (c.fact 14 (f := .glo "is_table") rfl)
  obtain ⟨fd_is_tie, F_is_tie⟩ := c.def_ 15 rfl
  have FD_is_tie := F_is_tie
  have F_is_tie := funD_fun (st := s_is_tie) F_is_tie
  have B_is_tie := F_is_tie.binds (ps := ["many", "levels", "thing"]) fun _ _ _ _ _ _ us hl => match us, hl with | [_, _, _], _ => rfl
  have M_is_tie := He.glo_ok X G (c.fact 15 (f := .glo "is_tie") rfl)
  obtain ⟨fd_ties_at, F_ties_at⟩ := c.def_ 16 rfl
  have FD_ties_at := F_ties_at
  have F_ties_at := funD_fun (st := s_ties_at) F_ties_at
  have B_ties_at := F_ties_at.binds (ps := ["ties", "place"]) fun _ _ _ _ _ _ us hl => match us, hl with | [_, _], _ => rfl
  have M_ties_at := He.glo_ok X G (c.fact 16 (f := .glo "ties_at") rfl)
  obtain ⟨fd_stacks, F_stacks⟩ := c.def_ 28 rfl
  have FD_stacks := F_stacks
  have F_stacks := funD_fun (st := s_stacks) F_stacks
  have B_stacks := F_stacks.binds (ps := ["rows", "columns", "most"]) fun _ _ _ _ _ _ us hl => match us, hl with | [_, _, _], _ => rfl
  have M_stacks := He.glo_ok X G (c.fact 28 (f := .glo "stacks") rfl)
  obtain ⟨fd_sets_apart, F_sets_apart⟩ := c.def_ 26 rfl
  have FD_sets_apart := F_sets_apart
  have F_sets_apart := funD_fun (st := s_sets_apart) F_sets_apart
  have B_sets_apart := F_sets_apart.binds (ps := ["many", "pairs", "number"]) fun _ _ _ _ _ _ us hl => match us, hl with | [_, _, _], _ => rfl
  have M_sets_apart := He.glo_ok X G (c.fact 26 (f := .glo "sets_apart") rfl)
  obtain ⟨fd_colourings, F_colourings⟩ := c.def_ 27 rfl
  have FD_colourings := F_colourings
  have F_colourings := funD_fun (st := s_colourings) F_colourings
  have B_colourings := F_colourings.binds (ps := ["many", "pairs", "values"]) fun _ _ _ _ _ _ us hl => match us, hl with | [_, _, _], _ => rfl
  have M_colourings := He.glo_ok X G (c.fact 27 (f := .glo "colourings") rfl)
  obtain ⟨fd__law_weight_due, F__law_weight_due⟩ := c.def_ 44 rfl
  have FD__law_weight_due := F__law_weight_due
  have F__law_weight_due := funD_fun (st := s_law_weight_due) F__law_weight_due
  have B__law_weight_due := F__law_weight_due.binds (ps := ["_law_word", "_law_given", "_law_picture"]) fun _ _ _ _ _ _ us hl => match us, hl with | [_, _, _], _ => rfl
  have M__law_weight_due := He.glo_ok X G (c.fact 44 (f := .glo "_law_weight_due") rfl)
  obtain ⟨fd__law_falling, F__law_falling⟩ := c.def_ 40 rfl
  have FD__law_falling := F__law_falling
  have F__law_falling := funD_fun (st := s_law_falling) F__law_falling
  have B__law_falling := F__law_falling.binds (ps := ["_law_rows", "_law_columns", "_law_heights"]) fun _ _ _ _ _ _ us hl => match us, hl with | [_, _, _], _ => rfl
  have M__law_falling := He.glo_ok X G (c.fact 40 (f := .glo "_law_falling") rfl)
  obtain ⟨fd__law_power, F__law_power⟩ := c.def_ 42 rfl
  have FD__law_power := F__law_power
  have F__law_power := funD_fun (st := s_law_power) F__law_power
  have B__law_power := F__law_power.binds (ps := ["_law_number_here", "_law_many"]) fun _ _ _ _ _ _ us hl => match us, hl with | [_, _], _ => rfl
  have M__law_power := He.glo_ok X G (c.fact 42 (f := .glo "_law_power") rfl)
  obtain ⟨fd__law_weight, F__law_weight⟩ := c.def_ 35 rfl
  have FD__law_weight := F__law_weight
  have F__law_weight := funD_fun (st := s_law_weight) F__law_weight
  have B__law_weight := F__law_weight.binds (ps := ["_law_model", "_law_picture"]) fun _ _ _ _ _ _ us hl => match us, hl with | [_, _], _ => rfl
  have M__law_weight := He.glo_ok X G (c.fact 35 (f := .glo "_law_weight") rfl)
  obtain ⟨fd_weight, F_weight⟩ := c.def_ 18 rfl
  have FD_weight := F_weight
  have F_weight := funD_fun (st := s_weight) F_weight
  have B_weight := F_weight.binds (ps := ["model", "picture"]) fun _ _ _ _ _ _ us hl => match us, hl with | [_, _], _ => rfl
  have M_weight := He.glo_ok X G (c.fact 18 (f := .glo "weight") rfl)
  obtain ⟨fd_is_picture, F_is_picture⟩ := c.def_ 17 rfl
  have FD_is_picture := F_is_picture
  have F_is_picture := funD_fun (st := s_is_picture) F_is_picture
  have B_is_picture := F_is_picture.binds (ps := ["model", "thing"]) fun _ _ _ _ _ _ us hl => match us, hl with | [_, _], _ => rfl
  have M_is_picture := He.glo_ok X G (c.fact 17 (f := .glo "is_picture") rfl)
  obtain ⟨fd__law_pictures, F__law_pictures⟩ := c.def_ 34 rfl
  have FD__law_pictures := F__law_pictures
  have F__law_pictures := funD_fun (st := s_law_pictures) F__law_pictures
  have B__law_pictures := F__law_pictures.binds (ps := ["_law_many", "_law_levels"]) fun _ _ _ _ _ _ us hl => match us, hl with | [_, _], _ => rfl
  have M__law_pictures := He.glo_ok X G (c.fact 34 (f := .glo "_law_pictures") rfl)
  obtain ⟨fd_fitting, F_fitting⟩ := c.def_ 22 rfl
  have FD_fitting := F_fitting
  have F_fitting := funD_fun (st := s_fitting) F_fitting
  have B_fitting := F_fitting.binds (ps := ["model"]) fun _ _ _ _ _ _ us hl => match us, hl with | [_], _ => rfl
  have M_fitting := He.glo_ok X G (c.fact 22 (f := .glo "fitting") rfl)
  obtain ⟨fd_first_fitting, F_first_fitting⟩ := c.def_ 21 rfl
  have FD_first_fitting := F_first_fitting
  have F_first_fitting := funD_fun (st := s_first_fitting) F_first_fitting
  have B_first_fitting := F_first_fitting.binds (ps := ["model", "most"]) fun _ _ _ _ _ _ us hl => match us, hl with | [_, _], _ => rfl
  have M_first_fitting := He.glo_ok X G (c.fact 21 (f := .glo "first_fitting") rfl)
  obtain ⟨fd_fitting_from, F_fitting_from⟩ := c.def_ 20 rfl
  have FD_fitting_from := F_fitting_from
  have F_fitting_from := funD_fun (st := s_fitting_from) F_fitting_from
  have B_fitting_from := F_fitting_from.binds (ps := ["model", "begun", "most", "dead"]) fun _ _ _ _ _ _ us hl => match us, hl with | [_, _, _, _], _ => rfl
  have M_fitting_from := He.glo_ok X G (c.fact 20 (f := .glo "fitting_from") rfl)
  obtain ⟨fd_goes_on, F_goes_on⟩ := c.def_ 19 rfl
  have FD_goes_on := F_goes_on
  have F_goes_on := funD_fun (st := s_goes_on) F_goes_on
  have B_goes_on := F_goes_on.binds (ps := ["model", "begun", "value"]) fun _ _ _ _ _ _ us hl => match us, hl with | [_, _, _], _ => rfl
  have M_goes_on := He.glo_ok X G (c.fact 19 (f := .glo "goes_on") rfl)
  obtain ⟨fd__law_rows_falling, F__law_rows_falling⟩ := c.def_ 41 rfl
  have FD__law_rows_falling := F__law_rows_falling
  have F__law_rows_falling := funD_fun (st := s_law_rows_falling) F__law_rows_falling
  have B__law_rows_falling := F__law_rows_falling.binds (ps := ["_law_many", "_law_most"]) fun _ _ _ _ _ _ us hl => match us, hl with | [_, _], _ => rfl
  have M__law_rows_falling := He.glo_ok X G (c.fact 41 (f := .glo "_law_rows_falling") rfl)
  obtain ⟨fd__law_made, F__law_made⟩ := c.def_ 36 rfl
  have FD__law_made := F__law_made
  have F__law_made := funD_fun (st := s_law_made) F__law_made
  have B__law_made := F__law_made.binds (ps := ["_law_model"]) fun _ _ _ _ _ _ us hl => match us, hl with | [_], _ => rfl
  have M__law_made := He.glo_ok X G (c.fact 36 (f := .glo "_law_made") rfl)
  obtain ⟨fd_Model___eq__, F_Model___eq__⟩ := c.def_ 13 rfl
  have FD_Model___eq__ := F_Model___eq__
  have F_Model___eq__ := funD_fun (st := s_Model_eq) F_Model___eq__
  have B_Model___eq__ := F_Model___eq__.binds (ps := ["self", "other"]) fun _ _ _ _ _ _ us hl => match us, hl with | [_, _], _ => rfl
  have ME := He.meth_ok (c.fact 68 (f := .meth "Model" "__eq__") rfl)
  have MK := He.mkr_ok (c.fact 67 (f := .mkr "Model") rfl)
  have Y : ModT K mg (He.ga K "Model") := ⟨He.cls_ok (c.fact 62 (f := .cls "Model") rfl), He.noat_ok (c.fact 63 (f := .noat "Model" "many") rfl), He.noat_ok (c.fact 64 (f := .noat "Model" "levels") rfl), He.noat_ok (c.fact 65 (f := .noat "Model" "weights") rfl), He.noat_ok (c.fact 66 (f := .noat "Model" "ties") rfl), He.glo_ok X G (c.fact 13 (f := .glo "Model") rfl), He.eqO_ok x1, He.eqO_ok x2, optT_ok x3, optT_ok x4⟩
  have bla := FunD.bindsA (ps := ["_law_script"]) FD_law fun _ _ _ _ _ _ us hl => match us, hl with | [_], _ => rfl
  refine ⟨fd_law, fun s v => bla s [v] rfl, fun base KB GB => ?_⟩
  have k_hand : Cl P w K mg base CX0 1 "_law_hand" _ fd__law_hand ["_law_script"] (spHand K) := ⟨ok_hand F__law_hand T, B__law_hand, M__law_hand, F__law_hand.kp⟩
  have k_draw : Cl P w K mg base CX0 1 "_law_draw" _ fd__law_draw ["_law_hand_here", "_law_many"] spDraw := ⟨ok_draw F__law_draw T, B__law_draw, M__law_draw, F__law_draw.kp⟩
  have k_pairs : Cl P w K mg base CX0 2 "_law_pairs" _ fd__law_pairs ["_law_hand_here", "_law_many", "_law_rare"] (spPairs K) := ⟨ok_pairs F__law_pairs T k_draw, B__law_pairs, M__law_pairs, F__law_pairs.kp⟩
  have k_any : Cl P w K mg base CX0 2 "_law_any" _ fd__law_any ["_law_hand_here", "_law_things"] (spAny K) := ⟨ok_any F__law_any T k_draw, B__law_any, M__law_any, F__law_any.kp⟩
  have k_net : Cl P w K mg base CX0 3 "_law_net" _ fd__law_net ["_law_hand_here", "_law_many"] (spNet K) := ⟨ok_net F__law_net T k_draw k_pairs k_any, B__law_net, M__law_net, F__law_net.kp⟩
  have k_number : Cl P w K mg base CX0 3 "_law_number" _ fd__law_number ["_law_hand_here"] spNum := ⟨ok_number F__law_number T k_any k_draw, B__law_number, M__law_number, F__law_number.kp⟩
  have k_even : Cl P w K mg base CX0 1 "_law_even" _ fd__law_even ["_law_many", "_law_row", "_law_pairs_here", "_law_table"] (spEven K) := ⟨ok_even F__law_even T, B__law_even, M__law_even, F__law_even.kp⟩
  have k_steps : Cl P w K mg base CX0 1 "_law_steps" _ fd__law_steps ["_law_rows", "_law_columns"] (spSteps K) := ⟨ok_steps F__law_steps T, B__law_steps, M__law_steps, F__law_steps.kp⟩
  have k_made_by : Cl P w K mg base CX0 4 "_law_made_by" _ fd__law_made_by ["_law_hand_here"] (spMadeBy K) := ⟨ok_made_by F__law_made_by T k_draw k_net k_number k_even k_steps, B__law_made_by, M__law_made_by, F__law_made_by.kp⟩
  have k_isint : Cl P w K mg base CX0 1 "is_integer" _ fd_is_integer ["thing"] (spIsInt K) := ⟨ok_isint F_is_integer T, B_is_integer, M_is_integer, F_is_integer.kp⟩
  have k_within : Cl P w K mg base CX0 2 "is_within" _ fd_is_within ["low", "high", "thing"] (spWithin K) := ⟨ok_within F_is_within k_isint, B_is_within, M_is_within, F_is_within.kp⟩
  have k_rowI : Cl P w K mg base CX0 3 "is_row_below" _ fd_is_row_below ["bound", "thing"] (spRowI K) := ⟨ok_rowI F_is_row_below T k_within, B_is_row_below, M_is_row_below, F_is_row_below.kp⟩
  have k_is_pair_below : Cl P w K mg base CX0 4 "is_pair_below" _ fd_is_pair_below ["bound", "thing"] (spPairB K) := ⟨ok_is_pair_below F_is_pair_below T k_rowI, B_is_pair_below, M_is_pair_below, F_is_pair_below.kp⟩
  have k_is_ascending : Cl P w K mg base CX0 1 "is_ascending" _ fd_is_ascending ["things"] (spAsc K) := ⟨ok_is_ascending F_is_ascending T, B_is_ascending, M_is_ascending, F_is_ascending.kp⟩
  have k_is_lot_of_pairs : Cl P w K mg base CX0 5 "is_lot_of_pairs" _ fd_is_lot_of_pairs ["bound", "thing"] (spLotP K) := ⟨ok_is_lot_of_pairs F_is_lot_of_pairs T k_is_pair_below k_is_ascending, B_is_lot_of_pairs, M_is_lot_of_pairs, F_is_lot_of_pairs.kp⟩
  have k_is_lot_of_couples : Cl P w K mg base CX0 6 "is_lot_of_couples" _ fd_is_lot_of_couples ["bound", "thing"] (spLotP K) := ⟨ok_is_lot_of_couples F_is_lot_of_couples T k_is_lot_of_pairs, B_is_lot_of_couples, M_is_lot_of_couples, F_is_lot_of_couples.kp⟩
  have k_check_pairs : Cl P w K mg base CX0 7 "check_pairs" _ fd_check_pairs ["many", "pairs"] (spCheck K) := ⟨ok_check_pairs F_check_pairs T k_within k_is_lot_of_couples, B_check_pairs, M_check_pairs, F_check_pairs.kp⟩
  have k_is_table : Cl P w K mg base CX0 4 "is_table" _ fd_is_table ["rows", "columns", "thing"] (spTable K) := ⟨ok_is_table F_is_table T k_rowI, B_is_table, M_is_table, F_is_table.kp⟩
  have k_is_tie : Cl P w K mg base CX0 5 "is_tie" _ fd_is_tie ["many", "levels", "thing"] (spTie K) := ⟨ok_is_tie F_is_tie T k_is_table k_within, B_is_tie, M_is_tie, F_is_tie.kp⟩
  have k_ties_at : Cl P w K mg base CX0 1 "ties_at" _ fd_ties_at ["ties", "place"] (spTiesAt K) := ⟨ok_ties_at F_ties_at T, B_ties_at, M_ties_at, F_ties_at.kp⟩
  have g_minitN := ok_minitN (P := P) (w := w) (base := base) F_Model___init__ T k_within k_is_table k_is_tie k_ties_at Y
  have k_tied_alike : Cl P w K mg base CX0 8 "tied_alike" _ fd_tied_alike ["many", "levels", "weights", "pairs", "table"] (spTied K (He.ga K "Model")) := ⟨ok_tied_alike F_tied_alike T k_check_pairs MK g_minitN B_Model___init__ Y, B_tied_alike, M_tied_alike, F_tied_alike.kp⟩
  have k_spins : Cl P w K mg base CX0 9 "spins" _ fd_spins ["many", "pairs", "same", "other"] (spSpins K (He.ga K "Model")) := ⟨ok_spins F_spins T k_tied_alike, B_spins, M_spins, F_spins.kp⟩
  have k_stacks : Cl P w K mg base CX0 9 "stacks" _ fd_stacks ["rows", "columns", "most"] (spSta K (He.ga K "Model")) := ⟨ok_stacks F_stacks T k_within k_tied_alike, B_stacks, M_stacks, F_stacks.kp⟩
  have k_sets_apart : Cl P w K mg base CX0 9 "sets_apart" _ fd_sets_apart ["many", "pairs", "number"] (spApart K (He.ga K "Model")) := ⟨ok_sets_apart F_sets_apart T k_tied_alike, B_sets_apart, M_sets_apart, F_sets_apart.kp⟩
  have k_colourings : Cl P w K mg base CX0 9 "colourings" _ fd_colourings ["many", "pairs", "values"] (spCol K (He.ga K "Model")) := ⟨ok_colourings F_colourings T k_check_pairs k_within k_tied_alike, B_colourings, M_colourings, F_colourings.kp⟩
  have k_called : Cl P w K mg base CX0 10 "_law_called" _ fd__law_called ["_law_word", "_law_given"] (spCalled K (He.ga K "Model")) := ⟨ok_called F__law_called T k_spins k_stacks k_sets_apart k_colourings, B__law_called, M__law_called, F__law_called.kp⟩
  have k_falling : Cl P w K mg base CX0 1 "_law_falling" _ fd__law_falling ["_law_rows", "_law_columns", "_law_heights"] (spFall K) := ⟨ok_falling F__law_falling T, B__law_falling, M__law_falling, F__law_falling.kp⟩
  have k_power : Cl P w K mg base CX0 1 "_law_power" _ fd__law_power ["_law_number_here", "_law_many"] spPow := ⟨ok_power F__law_power T, B__law_power, M__law_power, F__law_power.kp⟩
  have k_weight_due : Cl P w K mg base CX0 2 "_law_weight_due" _ fd__law_weight_due ["_law_word", "_law_given", "_law_picture"] (spDueG K) := ⟨ok_weight_due F__law_weight_due T k_falling k_power, B__law_weight_due, M__law_weight_due, F__law_weight_due.kp⟩
  have k_lweight : Cl P w K mg base CX0 1 "_law_weight" _ fd__law_weight ["_law_model", "_law_picture"] (spLWt K) := ⟨ok_lweight F__law_weight T, B__law_weight, M__law_weight, F__law_weight.kp⟩
  have k_is_picture : Cl P w K mg base CX0 4 "is_picture" _ fd_is_picture ["model", "thing"] (spIsPic K (He.ga K "Model")) := ⟨ok_is_picture F_is_picture T k_rowI Y, B_is_picture, M_is_picture, F_is_picture.kp⟩
  have k_weight : Cl P w K mg base CX0 5 "weight" _ fd_weight ["model", "picture"] (spWeight K (He.ga K "Model")) := ⟨ok_weight F_weight T k_is_picture Y, B_weight, M_weight, F_weight.kp⟩
  have k_pictures : Cl P w K mg base CX0 1 "_law_pictures" _ fd__law_pictures ["_law_many", "_law_levels"] (spPics K) := ⟨ok_pictures F__law_pictures T, B__law_pictures, M__law_pictures, F__law_pictures.kp⟩
  have k_goes_on : Cl P w K mg base CX0 1 "goes_on" _ fd_goes_on ["model", "begun", "value"] (spGoes K (He.ga K "Model")) := ⟨ok_goes_on F_goes_on T Y, B_goes_on, M_goes_on, F_goes_on.kp⟩
  have k_ff12 : Cl P w K mg base CX0 14 "fitting_from" _ fd_fitting_from ["model", "begun", "most", "dead"] (spFF12 P w K (He.ga K "Model")) := ⟨ok_ff12 F_fitting_from T k_goes_on Y B_fitting_from M_fitting_from F_fitting_from.kp, B_fitting_from, M_fitting_from, F_fitting_from.kp⟩
  have k_first_fitting : Cl P w K mg base CX0 15 "first_fitting" _ fd_first_fitting ["model", "most"] (spFirst K (He.ga K "Model")) := ⟨ok_first_fitting F_first_fitting T k_ff12, B_first_fitting, M_first_fitting, F_first_fitting.kp⟩
  have k_fit0 : Cl P w K mg base CX0 16 "fitting" _ fd_fitting ["model"] (spFit0 K (He.ga K "Model")) := ⟨ok_fit0 F_fitting T k_first_fitting, B_fitting, M_fitting, F_fitting.kp⟩
  have k_rows_falling : Cl P w K mg base CX0 1 "_law_rows_falling" _ fd__law_rows_falling ["_law_many", "_law_most"] spRowsF := ⟨ok_rows_falling F__law_rows_falling T, B__law_rows_falling, M__law_rows_falling, F__law_rows_falling.kp⟩
  have k_made : Cl P w K mg base CX0 8 "_law_made" _ fd__law_made ["_law_model"] (spMade K (He.ga K "Model")) := ⟨ok_made F__law_made T MK g_minitN B_Model___init__ Y, B__law_made, M__law_made, F__law_made.kp⟩
  have g_meqx := ok_meqx (P := P) (w := w) (base := base) F_Model___eq__ T Y (of_decide_eq_true t1) (of_decide_eq_true d1)
  exact ok_law F_law T k_hand k_made_by k_called k_draw k_weight_due k_lweight k_weight k_pictures k_fit0 k_rows_falling Y k_made g_meqx B_Model___eq__ ME.at_ ME.fn (He.eqO_ok w1)
end
end Law
open PySem PySem.W PySem.Calls PyProof.Rows
theorem PySem.Challenge.cw_asifforever_k27_whole_makers_of_models_holds : PySem.Challenge.rw_asifforever_k27_whole_makers_of_models.Holds := by
  w_on; o_law
  refine HandSHeadRun.head_any (r := OpenLaw.row PySem.Challenge.rw_asifforever_k27_whole_makers_of_models) (q := view (OpenLaw.row PySem.Challenge.rw_asifforever_k27_whole_makers_of_models).prog [50]) (H := Law.hk) (ob := Law.ob) (M := 13000) (loose := Law.names) (d := HandSHeadRun.topDef (OpenLaw.row PySem.Challenge.rw_asifforever_k27_whole_makers_of_models).prog 50) (kwd := []) Law.ob_eq
    (by kernel_rfl) (fun s => by kernel_rfl) Law.run (by kernel_rfl) (by kernel_rfl) (by kernel_rfl) (by rfl) (by first | assumption | decide +kernel) (by decide +kernel) ⟨rfl, rfl, rfl, rfl, rfl, by decide +kernel⟩ ?hw ?hc
  case hw => w_witness2
  case hc =>
    refine L2.walk_ofE (l := PySem.Challenge.rw_asifforever_k27_whole_makers_of_models) (n := 63) (k := 17) (x := "_law_script") (CX := L2.CX0) rfl (by decide) (by kernel_rfl) ⟨rfl, by decide, by decide⟩ ?F (fun _ _ _ _ z => z)
    intro w mg fa h Y G hmg0
    obtain ⟨K, KX, c, e⟩ := Y
    have hmg : mg ("law" : PySem.Str) = some (.ref fa) := by
      have e : (HandSHeadRun.topDef (OpenLaw.row PySem.Challenge.rw_asifforever_k27_whole_makers_of_models).prog 50).name = ("law" : PySem.Str) := by kernel_rfl
      rw [← e]
      exact hmg0
    obtain ⟨fd, hb, hF⟩ := Law.facts (P := (PySem.Challenge.rw_asifforever_k27_whole_makers_of_models).prog) (w := w) (by rfl) KX G hmg c e
    exact ⟨K, fd, Law.spLaw K, KX, hb, fun H a ns hl _ hS => ⟨a, ns, rfl, hS, hl, fun _ => rfl⟩, hF⟩

